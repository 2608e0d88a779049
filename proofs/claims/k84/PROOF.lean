import PyProof.Rows.All
import Wide.All
import OpenK.AllK
import Wide.FinOn
import PyProof.EqAt
import PyProof.EqKinds
import PyProof.TupleCall
import PySem.Challenge.RW_selfword_k84_the_desk
set_option Elab.async false
set_option linter.all false
set_option maxRecDepth 100000
set_option compiler.extract_closed false
set_option hygiene false
local macro_rules|`($n:name)=>do let m:=n.getName.toString;let s<-`([by lia,by decide,List T,by decide+kernel,List Nat,List V,.ref a,by simp,List `E,Inv X pins σ H s,.node ws,Same H H',List Value,nomark _,Or.inl rfl,Nat.le_refl _,List (Addr×Obj),Nat.zero_le _,Hp->Prop,Value->Shared->Prop,Str->Option Value,fun cdv A outer s H vs Q E hr h=>?_,fun vs H Q E h=>?_,model X.prog X.w,⟨rfl,rfl,rfl,`D,rfl,`D,`D⟩,bh (qv 0) rfl,model prog w,.type "tuple",List (Str×V),by show 1<=sizeLine;decide,fun _ _ _ _ _ _ us hl=>match us,hl with|[_],_=>rfl,cxOf (CXE P w) P w K mg base N qual scope f cd A outer s₀ H₀ E,Array (Option Value),Gh K CF CL CD CT M H₀ H,Own K ao aB aF aH aL aJ,T.node (tt.kids.drop j)::rest,(x==("__debug__":Str))=false,["_law_deck_here","_law_deep"],fun _ _ _ _ _ _ us hl=>match us,hl with|[_,_],_=>rfl,starEach (e::es) X.env=(false,eval e X.env)::starEach es X.env]);if m.length=1&&m.front=m.back then return s.raw[1].getSepArgs[let c:=m.back.toNat;if c<91 then c-65 else c-71]!else Lean.Macro.throwUnsupported
namespace L2
open PySem PySem.Spec PyProof.Rows
abbrev Key:=Sum Int Str
def keyIs:Key->Value->Bool
 | .inl k,v=>Value.isInt k v
 | .inr x,v=>Value.isStrOf x v
def keyH(w:World):Key->Int
 | .inl k=>hashInt k
 | .inr x=>hashStr w x
theorem keyIs_shape:∀{k:Key}{v:Value},keyIs k v=true->(∃i t,k=Sum.inl i/\v=Value.int i t)\/(∃x t,k=Sum.inr x/\v=Value.str x t)
 | .inl i,v,h=>by
  obtain⟨t,e⟩:=Value.isInt_shape (k:=i) (v:=v) h
  exact .inl ⟨i,t,rfl,e⟩
 | .inr x,v,h=>by
  obtain⟨t,e⟩:=Value.isStrOf_shape (x:=x) (v:=v) h
  exact .inr ⟨x,t,rfl,e⟩
theorem key_ll(a b:Int):decide ((Sum.inl a:Key)=Sum.inl b)=(a==b):=by
 by_cases e:a=b
 ·subst e;simp
 ·have h:¬(Sum.inl a:Key)=Sum.inl b:=fun q=>e (Sum.inl.inj q)
  rw[decide_eq_false h]
  exact(beq_eq_false_iff_ne.mpr e).symm
theorem key_rr(a b:Str):decide ((Sum.inr a:Key)=Sum.inr b)=decide (a=b):=by
 by_cases e:a=b
 ·subst e;simp
 ·have h:¬(Sum.inr a:Key)=Sum.inr b:=fun q=>e (Sum.inr.inj q)
  rw[decide_eq_false h,decide_eq_false e]
theorem key_lr(a:Int)(b:Str):decide ((Sum.inl a:Key)=Sum.inr b)=false:=decide_eq_false (fun q=>nomatch q)
theorem key_rl(a:Str)(b:Int):decide ((Sum.inr a:Key)=Sum.inl b)=false:=decide_eq_false (fun q=>nomatch q)
def mixKind(prog:Program)(w:World):PySem.KeyKind prog w Key where
 is:=keyIs
 hash:=keyH w
 inj:=fun v a b ha hb=>by
  rcases keyIs_shape ha with⟨i,t,rfl,rfl⟩|⟨x,t,rfl,rfl⟩
  ·rcases keyIs_shape hb with⟨j,u,rfl,e⟩|⟨y,u,rfl,e⟩
   ·injection e with e1 _;rw[e1]
   ·exact nomatch e
  ·rcases keyIs_shape hb with⟨j,u,rfl,e⟩|⟨y,u,rfl,e⟩
   ·exact nomatch e
   ·injection e with e1 _;rw[e1]
 byValue:=fun k v h=>by
  rcases keyIs_shape h with⟨i,t,rfl,rfl⟩|⟨x,t,rfl,rfl⟩<;>rfl
 pyHash:=fun hv h=>by
  rcases keyIs_shape hv with⟨i,t,rfl,rfl⟩|⟨x,t,rfl,rfl⟩
  ·exact wpAny_pyHash_int h
  ·exact wpAny_pyHash_str h
 eqBool:=fun hu hv h=>by
  rcases keyIs_shape hu with⟨i,t,rfl,rfl⟩|⟨x,t,rfl,rfl⟩
  ·rcases keyIs_shape hv with⟨j,u,rfl,rfl⟩|⟨y,u,rfl,rfl⟩
   ·rw[key_ll]at h;exact wpAny_eqBool_int h
   ·rw[key_lr]at h;exact SeqAt.EqAt.int_str i t y u _ _ _ _ h
  ·rcases keyIs_shape hv with⟨j,u,rfl,rfl⟩|⟨y,u,rfl,rfl⟩
   ·rw[key_rl]at h;exact SeqAt.EqAt.str_int x t j u _ _ _ _ h
   ·rw[key_rr]at h;exact wpAny_eqBool_str h
 «strs»:=fun k x t v h=>by
  rcases keyIs_shape h with⟨i,u,rfl,e⟩|⟨y,u,rfl,e⟩
  ·exact nomatch e
  ·injection e with e1 _
   subst e1
   cases v<;>rfl
inductive V where
 |non|bl(b:Bool)|int(i:Int)|str(x:Str)|byt(b:Array UInt8)|flt(b:UInt64)|ref(a:Addr)|ty(n:String)
 deriving DecidableEq
def RelV:V->Value->Prop
 | .non,u=>u=Value.none
 | .bl b,u=>u=Value.bool b
 | .int i,u=>∃t,u=Value.int i t
 | .str x,u=>∃t,u=Value.str x t
 | .byt b,u=>∃t,u=Value.bytes b t
 | .flt b,u=>∃t,u=Value.float b t
 | .ref a,u=>u=Value.ref a
 | .ty n,u=>u=Value.type n
abbrev Vals:`F->`M->Prop:=Paired RelV
theorem Vals.length{xs:`F}{us:`M}(r:Vals xs us):xs.length=us.length:=Paired.length r
theorem Vals.get:∀{xs:`F}{us:`M}{i:Nat}{x:V},Vals xs us->xs[i]?=some x->∃u,us[i]?=some u/\RelV x u
 |_,_,_,_,.nil,e=>by simp at e
 |_,_,0,_,.cons r _,e=>by simp at e;subst e;exact⟨_,rfl,r⟩
 |_,_,i+1,x,.cons _ t,e=>by
  obtain⟨u,h1,h2⟩:=Vals.get (i:=i) (x:=x) t (by simpa using e)
  exact⟨u,by simpa using h1,h2⟩
theorem Vals.set{x:V}{u:Value}(r:RelV x u):∀{xs:`F}{us:`M}(i:Nat),Vals xs us->Vals (xs.set i x) (us.set i u)
 |_,_,_,.nil=>.nil
 |_,_,0,.cons _ t=>.cons r t
 |_,_,i+1,.cons q t=>.cons q (Vals.set r i t)
theorem Vals.append:∀{xs ys:`F}{us ws:`M},Vals xs us->Vals ys ws->Vals (xs++ys) (us++ws)
 |_,_,_,_,.nil,s=>s
 |_,_,_,_,.cons r t,s=>.cons r (Vals.append t s)
theorem Vals.take:∀{xs:`F}{us:`M}(n:Nat),Vals xs us->Vals (xs.take n) (us.take n)
 |_,_,0,_=>.nil
 |_,_,_+1,.nil=>.nil
 |_,_,n+1,.cons r t=>.cons r (Vals.take n t)
theorem Vals.drop:∀{xs:`F}{us:`M}(n:Nat),Vals xs us->Vals (xs.drop n) (us.drop n)
 |_,_,0,r=>r
 |_,_,_+1,.nil=>.nil
 |_,_,n+1,.cons _ t=>Vals.drop n t
def RelO:Option V->Option Value->Prop
 |some v,some u=>RelV v u
 |none,none=>True
 |_,_=>False
def KV{κ:Type}:List (κ×V)->List (κ×Value)->Prop:=Paired fun(p:κ×V)(q:κ×Value)=>p.1=q.1/\RelV p.2 q.2
def kV:Key->V
 | .inl i=>.int i
 | .inr x=>.str x
inductive HO where
 |lst(xs:`F)
 |tup(xs:`F)
 |dK(kvs:List (Key×V))|dT(kvs:List (List Key×V))
 |set(S:Int->Bool)(n:Nat)
 |ins(C dx:Addr)(fs:`c)
 |own(x:Addr)
 |xd(fs:`c)
 |met(f x:Addr)
 |rng(lo hi:Int)
 |frz(o:Obj)(u:HO)
 |tbl(ps:Array Value)
 |ext(φ:Heap->Prop)
abbrev Hp:=Addr->Option HO
def upd(H:Hp)(a:Addr)(o:HO):Hp:=fun b=>if b=a then some o else H b
theorem upd_same{H:Hp}{a:Addr}{o:HO}:upd H a o a=some o:=by unfold upd;rw[if_pos rfl]
theorem upd_ne{H:Hp}{a b:Addr}{o:HO}(h:b≠a):upd H a o b=H b:=by unfold upd;rw[if_neg h]
theorem Qq{H:Hp}{a:Addr}{o u:HO}:upd (upd H a o) a u=upd H a u:=by
 funext b;unfold upd;split<;>rfl
theorem ne_of{H:Hp}{a b:Addr}{o u:HO}(h:H a=some o)(h':H b=some u)(d:o≠u):a≠b:=by
 intro e;subst e;rw[h]at h';exact d (Option.some.inj h')
theorem ne_of_none{H:Hp}{a b:Addr}{o:HO}(h:H a=some o)(h':H b=none):a≠b:=by
 intro e;subst e;rw[h]at h';cases h'
section
variable(P:Program)(w:World)
def ObjOk(H:Hp)(h:Heap)(a:Addr):HO->Prop
 | .lst xs=>xs.length<=sizeLine/\∃(its:`M)(n:Nat),Vals xs its/\h.get? a=some {cls:=.type "list",data:=.seq its.toArray n}
 | .tup xs=>xs.length<=sizeLine/\∃its:`M,Vals xs its/\IsTup h a its.toArray
 | .dK kvs=>kvs.length<=sizeLine/\(a==sysModules)=false/\∃vs,KV kvs vs/\h.DictOf (mixKind P w) a vs
 | .dT kvs=>kvs.length<=sizeLine/\(a==sysModules)=false/\∃xs:List (List Key×Addr×Value),
   Paired (fun(p:List Key×V)(q:List Key×Addr×Value)=>p.1=q.1/\H q.2.1=some (.tup (p.1.map kV))/\RelV p.2 q.2.2) kvs xs/\
   ∃o es ep,h.get? a=some o/\o.ExactDict/\o.data=.dict es ep/\es.toList=xs.map (entryOfKey (tupleKind (mixKind P w)))/\(xs.map (·.1)).Nodup
 | .set S n=>h.SetOf (intKind P w) a S n
 | .ins C dx fs=>H dx=some (.own a)/\fs.length<=1000/\dx≠a/\h.get? a=some (W.instObj C dx)/\
   ∃mA,h.Ns1 dx mA/\(∀f,RelO (fs.lookup f) (mA f))/\PySem.Within mA (fs.map (·.1))
 | .own _=>∃o,h.get? a=some o
 | .xd fs=>∃mA,h.Ns1 a mA/\∀f,RelO (fs.lookup f) (mA f)
 | .rng lo hi=>∃t u v,h.get? a=some {cls:=.type "range",data:=.fields #[.int lo t,.int hi u,.int 1 v]}
 | .frz o u=>h.get? a=some o/\ObjOk H h a u
 | .tbl ps=>h.get? a=some {cls:=.none,data:=.fields ps}
 | .met f x=>h.get? a=some (W.methodObj (.ref f) (.ref x))
 | .ext φ=>φ h/\(∃o,h.get? a=some o)/\∀h1 h2:Heap,φ h1->(∀o,h1.get? a=some o->h2.get? a=some o)->φ h2
def HOk(H:Hp)(h:Heap):Prop:=∀a o,H a=some o->ObjOk P w H h a o
end
section
variable{P:Program}{w:World}{H H':Hp}{h h':Heap}{a:Addr}{o:HO}
theorem ObjOk.lt(x:ObjOk P w H h a o):a<h.objs.size:=by
 cases o with
 |lst xs=>obtain⟨_,_,_,_,e⟩:=x;exact Heap.lt_size e
 |tup xs=>obtain⟨_,_,_,p⟩:=x;exact p.lt
 |dK kvs=>obtain⟨_,_,_,_,o,_,_,e,_⟩:=x;exact Heap.lt_size e
 |dT kvs=>obtain⟨_,_,_,_,o,_,_,e,_⟩:=x;exact Heap.lt_size e
 |set S n=>obtain⟨o,_,_,_,e,_⟩:=x;exact Heap.lt_size e
 |ins C dx fs=>obtain⟨_,_,_,e,_⟩:=x;exact Heap.lt_size e
 |own y=>obtain⟨_,e⟩:=x;exact Heap.lt_size e
 |xd fs=>obtain⟨_,⟨_,_,_,e,_⟩,_⟩:=x;exact Heap.lt_size e
 |rng lo hi=>obtain⟨_,_,_,e⟩:=x;exact Heap.lt_size e
 |frz ob u=>obtain⟨e,_⟩:=x;exact Heap.lt_size e
 |tbl ps=>exact Heap.lt_size (show h.get? a=some _ from x)
 |met f y=>exact Heap.lt_size (show h.get? a=some _ from x)
 |ext φ=>obtain⟨_,⟨_,e⟩,_⟩:=x;exact Heap.lt_size e
theorem Paired.mapP{α β:Type}{F G:α->β->Prop}:∀{l₁:List α}{l₂:List β},Paired F l₁ l₂->(∀a b,F a b->G a b)->Paired G l₁ l₂
 |_,_,.nil,_=>.nil
 |_,_,.cons r t,f=>.cons (f _ _ r) (Paired.mapP t f)
theorem ObjOk.stay(x:ObjOk P w H h a o)(k:∀b u,(b=a\/H b=some (.own a))->h.get? b=some u->h'.get? b=some u)
  (ho:∀b,H b=some (.own a)->H' b=some (.own a))(ht:∀b xs,H b=some (.tup xs)->H' b=some (.tup xs)):ObjOk P w H' h' a o:=by
 induction o with
 |lst xs=>obtain⟨z,its,n,r,e⟩:=x;exact⟨z,its,n,r,k _ _ (.inl rfl) e⟩
 |tup xs=>obtain⟨z,its,r,ob,e,c⟩:=x;exact⟨z,its,r,ob,k _ _ (.inl rfl) e,c⟩
 |dK kvs=>obtain⟨z,y,vs,r,ob,es,ep,e,c⟩:=x;exact⟨z,y,vs,r,ob,es,ep,k _ _ (.inl rfl) e,c⟩
 |dT kvs=>
  obtain⟨z,y,xs,r,ob,es,ep,e,c⟩:=x
  exact⟨z,y,xs,Paired.mapP r fun p q z=>⟨z.1,ht _ _ z.2.1,z.2.2⟩,ob,es,ep,k _ _ (.inl rfl) e,c⟩
 |set S n=>obtain⟨ob,es,ep,t,e,c⟩:=x;exact⟨ob,es,ep,t,k _ _ (.inl rfl) e,c⟩
 |ins C dx fs=>
  obtain⟨d,z,ne,e,mA,⟨od,es,ep,e2,c⟩,r⟩:=x
  exact⟨ho _ d,z,ne,k _ _ (.inl rfl) e,mA,⟨od,es,ep,k _ _ (.inr d) e2,c⟩,r⟩
 |own y=>obtain⟨ob,e⟩:=x;exact⟨ob,k _ _ (.inl rfl) e⟩
 |xd fs=>obtain⟨mA,⟨od,es,ep,e,c⟩,r⟩:=x;exact⟨mA,⟨od,es,ep,k _ _ (.inl rfl) e,c⟩,r⟩
 |rng lo hi=>obtain⟨t,u,v,e⟩:=x;exact⟨t,u,v,k _ _ (.inl rfl) e⟩
 |frz ob u ih=>obtain⟨e,q⟩:=x;exact⟨k _ _ (.inl rfl) e,ih q⟩
 |tbl ps=>
  have e:h.get? a=some {cls:=.none,data:=.fields ps}:=x
  show h'.get? a=some {cls:=.none,data:=.fields ps}
  exact k a _ (.inl rfl) e
 |met f y=>
  have e:h.get? a=some (W.methodObj (.ref f) (.ref y)):=x
  show h'.get? a=some (W.methodObj (.ref f) (.ref y))
  exact k a _ (.inl rfl) e
 |ext φ=>obtain⟨p,⟨o,e⟩,st⟩:=x;exact⟨st _ _ p fun o q=>k _ _ (.inl rfl) q,⟨o,k _ _ (.inl rfl) e⟩,st⟩
theorem HOk.lt(x:HOk P w H h)(e:H a=some o):a<h.objs.size:=(x a o e).lt
theorem HOk.fresh(x:HOk P w H h)(e:h.objs.size<=a):H a=none:=by
 cases q:H a with
 |none=>rfl
 |some u=>exact absurd (Nat.lt_of_lt_of_le (x.lt q) e) (Nat.lt_irrefl _)
theorem HOk.kept(x:HOk P w H h)(k:∀b u,h.get? b=some u->h'.get? b=some u):HOk P w H h':=fun a o e=>
 (x a o e).stay (fun b u _ q=>k b u q) (fun _ q=>q) fun _ _ q=>q
theorem HOk.laid(x:HOk P w H h)(k:∀b u,h.get? b=some u->h'.get? b=some u)(hp:h.objs.size<=a)(new:ObjOk P w (upd H a o) h' a o):HOk P w (upd H a o) h':=fun b u e=>by
 have hn:=x.fresh hp
 by_cases hb:b=a
 ·subst hb;rw[upd_same]at e;cases e;exact new
 ·rw[upd_ne hb]at e
  exact(x b u e).stay (fun c v _ q=>k c v q) (fun c q=>by rw[upd_ne (ne_of_none q hn)];exact q) fun c xs q=>by rw[upd_ne (ne_of_none q hn)];exact q
end
def Rd(H:Hp)(a:Addr)(u:HO):Prop:=H a=some u\/∃o,H a=some (.frz o u)
theorem Rd.ok{P:Program}{w:World}{H:Hp}{h:Heap}{a:Addr}{u:HO}(r:Rd H a u)(x:HOk P w H h):ObjOk P w H h a u:=by
 rcases r with r|⟨o,r⟩
 ·exact x a u r
 ·obtain⟨_,q⟩:=x a _ r
  exact q
def Mut:Option HO->Prop
 |some (.lst _)=>True
 |some (.dK _)=>True
 |some (.dT _)=>True
 |some (.set _ _)=>True
 |some (.ins _ _ _)=>True
 |some (.ext _)=>True
 |_=>False
section
variable{P:Program}{w:World}{H:Hp}{h h':Heap}{x e:Addr}{o':HO}
theorem HOk.write(ok:HOk P w H h)(mu:Mut (H x))(he:e=x\/H e=some (.own x))(k:∀b u,b≠e->h.get? b=some u->h'.get? b=some u)(heo:∃u,h'.get? e=some u)
  (new:ObjOk P w (upd H x o') h' x o'):HOk P w (upd H x o') h':=fun b u q=>by
 have nown:∀c y,H c=some (.own y)->c≠x:=fun c y r z=>by subst z;rw[r]at mu;exact mu
 have ntup:∀c xs,H c=some (.tup xs)->c≠x:=fun c xs r z=>by subst z;rw[r]at mu;exact mu
 by_cases hb:b=x
 ·subst hb;rw[upd_same]at q;cases q;exact new
 ·rw[upd_ne hb]at q
  by_cases hbe:b=e
  ·have q':H b=some (.own x):=by
    rcases he with z|z
    ·exact absurd (hbe.trans z) hb
    ·rw[hbe];exact z
   rw[q]at q';cases q'
   obtain⟨v,hv⟩:=heo
   exact⟨v,by rw[hbe];exact hv⟩
  ·refine(ok b u q).stay (fun c v hc r=>k c v ?_ r) (fun c r=>by rw[upd_ne (nown c b r)];exact r) fun c xs r=>by rw[upd_ne (ntup c xs r)];exact r
   rcases hc with rfl|hc
   ·exact hbe
   ·rintro rfl
    rcases he with z|z
    ·exact nown c b hc z
    ·rw[hc]at z;cases z;exact hb rfl
end
structure Un(fs ex:List Addr)(H H':Hp)(h h':Heap):Prop where
 keep:∀b o,h.get? b=some o->H b=none->b∉fs->b∉ex->h'.get? b=some o
 slot:∀b o,h.get? b=some o->H b=none->b∈fs->b∉ex->∃sl,h'.get? b=some {o with slots:=sl}
 free:∀b o,h.get? b=some o->H b=none->b∉ex->H' b=none
 there:∀b o,h.get? b=some o->b∉ex->∃o',h'.get? b=some o'
 tups:∀b xs,H b=some (.tup xs)->H' b=some (.tup xs)
 frzs:∀b o u,H b=some (.frz o u)->H' b=some (.frz o u)
 tbls:∀b ps,H b=some (.tbl ps)->∃more,H' b=some (.tbl (ps++more))
section
variable{fs fs' ex ex':List Addr}{H H1 H2:Hp}{h h1 h2 h':Heap}{a x e:Addr}{o:HO}
theorem Un.any(u:Un fs ex H H1 h h1){b:Addr}{ob:Obj}(q:h.get? b=some ob)(n:H b=none)(hx:b∉ex):∃sl,h1.get? b=some {ob with slots:=sl}:=by
 by_cases hb:b∈fs
 ·exact u.slot b ob q n hb hx
 ·exact⟨ob.slots,u.keep b ob q n hb hx⟩
theorem Un.kept(k:∀b u,h.get? b=some u->h'.get? b=some u):Un fs ex H H h h':=
 ⟨fun b ob q _ _ _=>k b ob q,fun b ob q _ _ _=>⟨ob.slots,k b ob q⟩,fun _ _ _ n _=>n,fun b ob q _=>⟨ob,k b ob q⟩,fun _ _ q=>q,fun _ _ _ q=>q,fun _ ps q=>⟨#[],by rw[q];simp⟩⟩
theorem Un.refl:Un fs ex H H h h:=Un.kept fun _ _ q=>q
theorem Un.laid(k:∀b u,h.get? b=some u->h'.get? b=some u)(hp:h.objs.size<=a)(hn:H a=none):Un fs ex H (upd H a o) h h' where
 keep:=fun b u q _ _ _=>k b u q
 slot:=fun b u q _ _ _=>⟨u.slots,k b u q⟩
 free:=fun b u q n _=>by rw[upd_ne (Nat.ne_of_lt (Nat.lt_of_lt_of_le (Heap.lt_size q) hp))];exact n
 there:=fun b u q _=>⟨u,k b u q⟩
 tups:=fun b xs q=>by rw[upd_ne (ne_of_none q hn)];exact q
 frzs:=fun b u xs q=>by rw[upd_ne (ne_of_none q hn)];exact q
 tbls:=fun b ps q=>⟨#[],by rw[upd_ne (ne_of_none q hn),q];simp⟩
theorem Un.write(mu:Mut (H x))(he:e=x\/H e=some (.own x))(k:∀b u,b≠e->h.get? b=some u->h'.get? b=some u)(heo:∃u,h'.get? e=some u):Un fs ex H (upd H x o) h h':=by
 have hx:∀b,H b=none->b≠x:=fun b n z=>by subst z;rw[n]at mu;exact mu
 have hb:∀b,H b=none->b≠e:=fun b n z=>by
  subst z
  rcases he with r|r
  ·exact hx b n r
  ·rw[n]at r;cases r
 have hm:∀b u,H b=some u->¬Mut (some u)->b≠x:=fun b u q nm z=>by subst z;rw[q]at mu;exact nm mu
 refine⟨fun b u q n _ _=>k b u (hb b n) q,fun b u q n _ _=>⟨u.slots,k b u (hb b n) q⟩,fun b u q n _=>by rw[upd_ne (hx b n)];exact n,fun b u q _=>?_,
  fun b xs q=>by rw[upd_ne (hm b _ q fun z=>z)];exact q,fun b u xs q=>by rw[upd_ne (hm b _ q fun z=>z)];exact q,fun b ps q=>⟨#[],by rw[upd_ne (hm b _ q fun z=>z),q];simp⟩⟩
 by_cases hbe:b=e
 ·subst hbe;exact heo
 ·exact⟨u,k b u hbe q⟩
end
def trk(h:Heap)(H:Hp):List Addr:=(List.range h.objs.size).filter fun a=>(H a).isSome
def hidT(h:Heap)(H:Hp):Heap:=W.hideAll h (trk h H)
theorem hidT_size(h:Heap)(H:Hp):(hidT h H).objs.size=h.objs.size:=W.hideAll_size _ _
theorem hidT_get{h:Heap}{H:Hp}{b:Addr}{o:Obj}(e:h.get? b=some o)(n:H b=none):(hidT h H).get? b=some o:=
 W.hideAll_get _ e fun hm=>by
  have q:(H b).isSome=true:=(List.mem_filter.mp hm).2
  rw[n]at q;simp at q
theorem of_hidT{h:Heap}{H:Hp}{b:Addr}{o:Obj}(e:(hidT h H).get? b=some o):h.get? b=some o/\H b=none:=by
 have e':h.get? b=some o:=W.of_hideAll (trk h H) e
 refine⟨e',?_⟩
 cases q:H b with
 |none=>rfl
 |some x=>
  have hm:b∈trk h H:=List.mem_filter.mpr ⟨List.mem_range.mpr (Heap.lt_size e'),by simp[q]⟩
  have z:(hidT h H).get? b=none:=W.hideAll_none (trk h H) hm
  rw[z]at e;cases e
structure Mod(K:W.Frag)(mg:`U)(base:Heap):Prop where
 kin:K.In base
 glob:base.Ns mainGlobals mg
 blt:∃mb,base.Ns builtinsNs mb/\∀x:Str,x≠"__name__"->mb x=bootBuiltins x
 nolimit:base.NoLimit
structure Cx where
 prog:Program
 w:World
 K:W.Frag
 mg:`U
 base:Heap
 A:Around
 N:List Str
 s₀:Shared
 H₀:Hp
 env:Env
 outer:List Env
 stack:List Env
 ex:List Addr
 fn:Str->Bool
 calm:Bool
 pn:`Q
 xe:`T
def frs(l:List Env):List Addr:=l.filterMap (·.frame)
abbrev Cx.fs(X:Cx):List Addr:=frs X.outer
def Vis(sc:Scope)(x:Str):Prop:=sc.names.lookup x=some .local\/sc.names.lookup x=some .cell\/sc.names.lookup x=some .free
def Loc(sc:Scope)(x:Str):Prop:=sc.names.lookup x=some .local\/sc.names.lookup x=some .cell
def Look(env:Env)(h:Heap)(m:`U)(x:Str)(u:Value):Prop:=
 (env.kindOf x=some .local/\m x=some u)\/((env.kindOf x=some .cell\/env.kindOf x=some .free)/\∃c,env.cells.lookup x=some c/\h.IsCell c (some u))
structure Cx.Ok(X:Cx):Prop where
 mod:Mod X.K X.mg X.base
 kind:X.env.scope.kind=.function
 glob:X.env.globals=mainGlobals
 blt:X.env.builtins=builtinsNs
 above:X.s₀.heap.objs.size<=X.env.locals
 inj:∀x y c,X.env.cells.lookup x=some c->X.env.cells.lookup y=some c->x=y
 has:∀x,(X.env.kindOf x=some .cell\/X.env.kindOf x=some .free)->∃c,X.env.cells.lookup x=some c
 cab:∀x c,X.fn x=true->X.env.cells.lookup x=some c->X.s₀.heap.objs.size<=c
 hd:X.calm=true->X.A.handled=none
 frames:X.A.frames=some X.stack
 stk:X.stack=X.outer\/(X.stack=X.env::X.outer/\X.env.frame=some X.env.locals)
 exf:∀b∈X.ex,b≠X.env.locals/\∀x c,X.env.cells.lookup x=some c->c≠b
 bs:∀b o,X.base.get? b=some o->X.s₀.heap.get? b=some o/\X.H₀ b=none
 bsz:X.base.objs.size<=X.s₀.heap.objs.size
 noex:∀b o,X.base.get? b=some o->b∉X.ex
 exfs:∀b∈X.ex,b∉X.fs
 funs:X.s₀.heap.FunFrames X.base X.outer
 frf:∀b∈X.fs,X.H₀ b=none
structure Inv(X:Cx)(pins:`Q)(σ:List (Option V))(H:Hp)(s:Shared):Prop where
 ok:X.Ok
 os:s.os=X.s₀.os
 bare:AllBare s.gens
 base:Un X.fs X.ex X.H₀ H X.s₀.heap s.heap
 loc:∃m,s.heap.Ns X.env.locals m/\∀(i:Nat)(x:Str)(v:V),X.N[i]?=some x->σ[i]?=some (some v)->Vis X.env.scope x->∃u,RelV v u/\Look X.env s.heap m x u
 cell:∀x c,X.env.cells.lookup x=some c->∃v,s.heap.IsCell c v
 free:H X.env.locals=none
 freeC:∀x c,X.env.cells.lookup x=some c->H c=none
 pin:∀p∈X.pn++pins,s.heap.get? p.1=some p.2/\H p.1=none/\p.1≠X.env.locals/\p.1∉X.fs/\∀v,p.2.data≠.cell v
 hok:HOk X.prog X.w H s.heap
 len:σ.length=X.N.length
section
variable{X:Cx}{pins:`Q}{σ:List (Option V)}{H H':Hp}{s:Shared}{h':Heap}
theorem Cx.Ok.nofr(ok:X.Ok){b:Addr}{o:Obj}(e:X.base.get? b=some o):b∉X.fs:=fun hb=>by
 have:=(ok.funs.mem hb).1
 rw[e]at this;cases this
theorem Inv.bs(I:`J):∀b o,X.base.get? b=some o->s.heap.get? b=some o/\H b=none:=fun b o e=>
 ⟨I.base.keep b o (I.ok.bs b o e).1 (I.ok.bs b o e).2 (I.ok.nofr e) (I.ok.noex b o e),I.base.free b o (I.ok.bs b o e).1 (I.ok.bs b o e).2 (I.ok.noex b o e)⟩
theorem Inv.bk(I:`J):∀b o,X.base.get? b=some o->s.heap.get? b=some o:=fun b o e=>(I.bs b o e).1
theorem Inv.mod(I:`J):Mod X.K X.mg X.base:=I.ok.mod
theorem Inv.kIn(I:`J):X.K.In s.heap:=I.ok.mod.kin.keeps I.bk
theorem Inv.lt(I:`J):X.env.locals<s.heap.objs.size:=let⟨_,hn,_⟩:=I.loc;hn.lt
theorem Inv.sz(I:`J):X.s₀.heap.objs.size<=s.heap.objs.size:=Nat.le_trans I.ok.above (Nat.le_of_lt I.lt)
theorem Inv.nofs(I:`J){a:Addr}(h:s.heap.objs.size<=a):a∉X.fs:=fun hb=>by
 obtain⟨_,o,ho,_⟩:=I.ok.funs.mem hb
 exact absurd (Nat.lt_of_lt_of_le (Heap.lt_size ho) (Nat.le_trans I.sz h)) (Nat.lt_irrefl _)
theorem Inv.cne(I:`J):∀x c,X.env.cells.lookup x=some c->c≠X.env.locals:=fun x c e z=>by
 obtain⟨v,o,ho,hd⟩:=I.cell x c e
 obtain⟨m,⟨o',es,ep,ho',hd',_⟩,_⟩:=I.loc
 rw[z,ho']at ho;cases ho;rw[hd']at hd;cases hd
theorem Inv.funs(I:`J):s.heap.FunFrames X.base X.outer:=by
 have all:∀(l:List Env),(∀b∈frs l,b∈X.fs)->X.s₀.heap.FunFrames X.base l->s.heap.FunFrames X.base l:=by
  intro l
  induction l with
  |nil=>intro _ _;trivial
  |cons env r ih=>
   intro hs hl
   obtain⟨hk,⟨L,o,hf,hn,ho,hd⟩,hr⟩:=hl
   have hL:L∈X.fs:=hs L (by unfold frs;rw[List.filterMap_cons,hf];exact List.mem_cons_self)
   obtain⟨sl,e⟩:=I.base.slot L o ho (I.ok.frf L hL) hL fun z=>I.ok.exfs L z hL
   exact⟨hk,⟨L,_,hf,hn,e,hd⟩,ih (fun b hb=>hs b (by unfold frs;rw[List.filterMap_cons,hf];exact List.mem_cons_of_mem _ hb)) hr⟩
 exact all X.outer (fun _ hb=>hb) I.ok.funs
theorem Inv.stack(I:`J):s.heap.FunFrames X.base X.stack:=by
 rcases I.ok.stk with e|⟨e,hf⟩
 ·rw[e];exact I.funs
 ·rw[e]
  obtain⟨m,hn,_⟩:=I.loc
  refine .cons (by rw[I.ok.kind];decide) hf hn ?_ I.funs
  exact Heap.get?_none_of_le (Nat.le_trans I.ok.bsz I.ok.above)
theorem Inv.stkSub(I:`J):∀b∈frs X.stack,b∈X.env.locals::X.fs:=fun b hb=>by
 rcases I.ok.stk with e|⟨e,hf⟩
 ·rw[e]at hb;exact List.mem_cons_of_mem _ hb
 ·rw[e]at hb
  unfold frs at hb
  rw[List.filterMap_cons,hf]at hb
  exact hb
theorem Inv.stkFree(I:`J):∀b∈frs X.stack,H b=none:=fun b hb=>by
 rcases List.mem_cons.mp (I.stkSub b hb)with e|hb
 ·rw[e];exact I.free
 ·obtain⟨_,o,ho,_⟩:=I.ok.funs.mem hb
  exact I.base.free b o ho (I.ok.frf b hb) fun z=>I.ok.exfs b z hb
theorem Inv.step{g':Array GenState}{t':Nat}{d':Drawn}{ch:List Addr}(I:`J)
  (hch:∀b∈ch,(b∈X.ex\/X.s₀.heap.objs.size<=b)/\b≠X.env.locals/\(∀x c,X.env.cells.lookup x=some c->c≠b)/\∀p∈X.pn++pins,p.1≠b)
  (keep:∀b o,b≠X.env.locals->b∉X.fs->b∉ch->s.heap.get? b=some o->H b=none->h'.get? b=some o)
  (slot:∀b o,b≠X.env.locals->b∈X.fs->b∉ch->s.heap.get? b=some o->H b=none->∃sl,h'.get? b=some {o with slots:=sl})(free:∀b o,b∉ch->s.heap.get? b=some o->H b=none->H' b=none)
  (there:∀b o,b∉ch->s.heap.get? b=some o->∃o',h'.get? b=some o')
  (tups:∀b xs,H b=some (.tup xs)->H' b=some (.tup xs))(frzs:∀b o u,H b=some (.frz o u)->H' b=some (.frz o u))(tbls:∀b ps,H b=some (.tbl ps)->∃more,H' b=some (.tbl (ps++more)))
  (ns:∀m,s.heap.Ns X.env.locals m->h'.Ns X.env.locals m)(hok:HOk X.prog X.w H' h')(hg:AllBare g'):
  Inv X pins σ H' {s with heap:=h',gens:=g',drawn:=d',toks:=t'}:=by
 have neL:∀b o,X.s₀.heap.get? b=some o->b≠X.env.locals:=fun b o e=>Nat.ne_of_lt (Nat.lt_of_lt_of_le (Heap.lt_size e) I.ok.above)
 have neC:∀b o,X.s₀.heap.get? b=some o->b∉X.ex->b∉ch:=fun b o e hx hb=>by
  rcases(hch b hb).1 with z|z
  ·exact hx z
  ·exact absurd (Nat.lt_of_lt_of_le (Heap.lt_size e) z) (Nat.lt_irrefl _)
 have cellK:∀x c,X.env.cells.lookup x=some c->∀v,s.heap.IsCell c v->h'.IsCell c v:=fun x c e v⟨o,ho,hd⟩=>by
  have nch:c∉ch:=fun z=>(hch c z).2.2.1 x c e rfl
  by_cases hc:c∈X.fs
  ·obtain⟨sl,q⟩:=slot c o (I.cne x c e) hc nch ho (I.freeC x c e)
   exact⟨_,q,hd⟩
  ·exact⟨o,keep c o (I.cne x c e) hc nch ho (I.freeC x c e),hd⟩
 refine⟨I.ok,I.os,hg,⟨fun b o e n hb hx=>?_,fun b o e n hb hx=>?_,fun b o e n hx=>?_,fun b o e hx=>?_,fun b xs e=>tups b xs (I.base.tups b xs e),fun b o xs e=>frzs b o xs (I.base.frzs b o xs e),fun b ps e=>?_⟩,?_,fun x c e=>?_,?_,fun x c e=>?_,fun p hp=>?_,hok,I.len⟩
 ·exact keep b o (neL b o e) hb (neC b o e hx) (I.base.keep b o e n hb hx) (I.base.free b o e n hx)
 ·obtain⟨sl,e1⟩:=I.base.slot b o e n hb hx
  obtain⟨sl',e2⟩:=slot b _ (neL b o e) hb (neC b o e hx) e1 (I.base.free b o e n hx)
  exact⟨sl',e2⟩
 ·obtain⟨o',e1⟩:=I.base.there b o e hx
  exact free b o' (neC b o e hx) e1 (I.base.free b o e n hx)
 ·obtain⟨o',e1⟩:=I.base.there b o e hx
  exact there b o' (neC b o e hx) e1
 ·obtain⟨m1,e1⟩:=I.base.tbls b ps e
  obtain⟨m2,e2⟩:=tbls b _ e1
  exact⟨m1++m2,by rw[e2,Array.append_assoc]⟩
 ·obtain⟨m,hn,hl⟩:=I.loc
  refine⟨m,ns m hn,fun i x v e1 e2 e3=>?_⟩
  obtain⟨u,r,l⟩:=hl i x v e1 e2 e3
  refine⟨u,r,?_⟩
  rcases l with l|⟨k,c,e,z⟩
  ·exact .inl l
  ·exact .inr ⟨k,c,e,cellK x c e _ z⟩
 ·obtain⟨v,z⟩:=I.cell x c e
  exact⟨v,cellK x c e v z⟩
 ·obtain⟨m,⟨o,_,_,ho,_⟩,_⟩:=I.loc
  exact free _ o (fun z=>(hch _ z).2.1 rfl) ho I.free
 ·obtain⟨v,o,ho,hd⟩:=I.cell x c e
  exact free c o (fun z=>(hch c z).2.2.1 x c e rfl) ho (I.freeC x c e)
 ·obtain⟨e,n,ne,nf,d⟩:=I.pin p hp
  have nch:p.1∉ch:=fun z=>(hch p.1 z).2.2.2 p hp rfl
  exact⟨keep p.1 p.2 ne nf nch e n,free p.1 p.2 nch e n,ne,nf,d⟩
theorem Inv.un{t':Nat}(I:`J)(u:Un X.fs [] H H' s.heap h')(hok:HOk X.prog X.w H' h'):Inv X pins σ H' {s with heap:=h',toks:=t'}:=by
 obtain⟨m,⟨o,es,ep,ho,r⟩,_⟩:=id I.loc
 obtain⟨sl,hL⟩:=u.any ho I.free `H
 exact I.step (g':=s.gens) (d':=s.drawn) (ch:=[]) (fun _ z=>nomatch z) (fun b o _ hb _ e n=>u.keep b o e n hb `H) (fun b o _ hb _ e n=>u.slot b o e n hb `H) (fun b o _ e n=>u.free b o e n `H) (fun b o _ e=>u.there b o e `H) u.tups u.frzs u.tbls (fun m' hm=>by
  obtain⟨o',es',ep',ho',r'⟩:=hm
  rw[ho]at ho';cases ho'
  exact⟨_,es',ep',hL,r'⟩) hok I.bare
theorem Inv.call{g':Array GenState}{t':Nat}{d':Drawn}{ch:List Addr}(I:`J)(u:Un (frs X.stack) ch H H' s.heap h')(hok:HOk X.prog X.w H' h')(hg:AllBare g')
  (hch:∀b∈ch,(b∈X.ex\/X.s₀.heap.objs.size<=b)/\b≠X.env.locals/\(∀x c,X.env.cells.lookup x=some c->c≠b)/\∀p∈X.pn++pins,p.1≠b):
  Inv X pins σ H' {s with heap:=h',gens:=g',drawn:=d',toks:=t'}:=by
 obtain⟨m,⟨o,es,ep,ho,r⟩,_⟩:=id I.loc
 obtain⟨sl,hL⟩:=u.any ho I.free fun z=>(hch _ z).2.1 rfl
 exact I.step (ch:=ch) hch (fun b o hL hb hc e n=>u.keep b o e n (fun z=>(List.mem_cons.mp (I.stkSub b z)).elim hL hb) hc) (fun b o _ _ hc e n=>u.any e n hc) (fun b o hc e n=>u.free b o e n hc) (fun b o hc e=>u.there b o e hc) u.tups u.frzs u.tbls (fun m' hm=>by
  obtain⟨o',es',ep',ho',r'⟩:=hm
  rw[ho]at ho';cases ho'
  exact⟨_,es',ep',hL,r'⟩) hok hg
theorem Inv.turned{t':Nat}{it:Addr}(I:`J)(k:∀b o,b≠it->s.heap.get? b=some o->h'.get? b=some o)(hn:H it=none)(hL:it≠X.env.locals)
  (h1:it∈X.ex\/X.s₀.heap.objs.size<=it)(h2:∀x c,X.env.cells.lookup x=some c->c≠it)(h3:∀p∈X.pn++pins,p.1≠it):Inv X pins σ H {s with heap:=h',toks:=t'}:=by
 have nit:∀b u,H b=some u->b≠it:=fun b u e z=>by rw[z,hn]at e;cases e
 refine I.step (g':=s.gens) (d':=s.drawn) (ch:=[it]) (fun b hb=>?_) (fun b o _ _ hc e _=>k b o (fun z=>hc (by simp[z])) e) (fun b o _ _ hc e _=>⟨o.slots,k b o (fun z=>hc (by simp[z])) e⟩) (fun _ _ _ _ n=>n)
  (fun b o hc e=>⟨o,k b o (fun z=>hc (by simp[z])) e⟩) (fun _ _ e=>e) (fun _ _ _ e=>e) (fun b ps e=>⟨#[],by rw[e];simp⟩) (fun m hm=>?_) (fun b u e=>?_) I.bare
 ·have e:b=it:=by simpa using hb
  subst e
  exact⟨h1,hL,h2,h3⟩
 ·obtain⟨o,es,ep,ho,r⟩:=hm
  exact⟨o,es,ep,k _ o (Ne.symm hL) ho,r⟩
 ·refine(I.hok b u e).stay (fun c v hc q=>k c v ?_ q) (fun _ q=>q) fun _ _ q=>q
  rcases hc with z|z
  ·rw[z];exact nit b u e
  ·exact nit c _ z
theorem Inv.tok(I:`J)(t:Nat):Inv X pins σ H {s with toks:=t}:=I.un (h':=s.heap) (t':=t) Un.refl I.hok
theorem Inv.kept{t':Nat}(I:`J)(k:∀b u,s.heap.get? b=some u->h'.get? b=some u):Inv X pins σ H {s with heap:=h',toks:=t'}:=I.un (Un.kept k) (I.hok.kept k)
theorem Inv.laid{a:Addr}{o:HO}{t':Nat}(I:`J)(k:∀b u,s.heap.get? b=some u->h'.get? b=some u)(hp:s.heap.objs.size<=a)(new:ObjOk X.prog X.w (upd H a o) h' a o):
  Inv X pins σ (upd H a o) {s with heap:=h',toks:=t'}:=I.un (Un.laid k hp (I.hok.fresh hp)) (I.hok.laid k hp new)
theorem Inv.write{x e:Addr}{o:HO}{t':Nat}(I:`J)(mu:Mut (H x))(he:e=x\/H e=some (.own x))(k:∀b u,b≠e->s.heap.get? b=some u->h'.get? b=some u)(heo:∃u,h'.get? e=some u)
  (new:ObjOk X.prog X.w (upd H x o) h' x o):Inv X pins σ (upd H x o) {s with heap:=h',toks:=t'}:=I.un (Un.write mu he k heo) (I.hok.write mu he k heo new)
theorem Inv.pins_of{pins':`Q}(I:`J)(h:∀p∈pins',s.heap.get? p.1=some p.2/\H p.1=none/\p.1≠X.env.locals/\p.1∉X.fs/\∀v,p.2.data≠.cell v):Inv X pins' σ H s:=
 ⟨I.ok,I.os,I.bare,I.base,I.loc,I.cell,I.free,I.freeC,fun p hp=>(List.mem_append.mp hp).elim (fun z=>I.pin p (List.mem_append_left _ z)) (h p),I.hok,I.len⟩
theorem nodup_ix{N:List Str}(hN:N.Nodup){i j:Nat}{x:Str}(a:N[i]?=some x)(b:N[j]?=some x):i=j:=by
 obtain⟨h1,e1⟩:=List.getElem?_eq_some_iff.mp a
 obtain⟨h2,e2⟩:=List.getElem?_eq_some_iff.mp b
 exact(List.getElem_inj hN).mp (e1.trans e2.symm)
theorem store_ok2{M:Model}{A:Around}{E:`T}{i:Nat}{x:Str}{v:V}{u:Value}{Q:Unit->Shared->Prop}(I:`J)(hN:X.N.Nodup)(hi:X.N[i]?=some x)(hx:Loc X.env.scope x)(r:RelV v u)
  (h:∀s',Inv X pins (σ.set i (some v)) H s'->(∃a,Heap.SameBut a s.heap s'.heap/\(a=X.env.locals\/X.env.cells.lookup x=some a))->Q () s')(hf:X.fn x=true\/X.env.scope.names.lookup x=some .local:=by first|exact .inl rfl|exact .inr rfl|assumption):wpAny M A (storeName X.env x u) Q E s:=by
 obtain⟨m,hn,hl⟩:=id I.loc
 have hcls:(X.env.scope.kind== .class||(X.env.scope.kind== .module&&X.env.locals !=X.env.globals))=false:=by rw[I.ok.kind];rfl
 have hiσ:i<σ.length:=by rw[I.len];exact(List.getElem?_eq_some_iff.mp hi).1
 have cne:=I.cne
 have tracked:∀{a:Addr}{h':Heap},(∃o,s.heap.get? a=some o/\H a=none)->Heap.SameBut a s.heap h'->HOk X.prog X.w H h':=fun{a h'}ha hs b ob e=>by
  obtain⟨_,_,hfree⟩:=ha
  refine(I.hok b ob e).stay (fun c w' hc q=>(hs.2 c ?_).trans q) (fun _ q=>q) fun _ _ q=>q
  rintro rfl
  rcases hc with rfl|hc
  ·rw[hfree]at e;cases e
  ·rw[hfree]at hc;cases hc
 rcases hx with hk|hk
 ·refine wpAny_storeName_local hk hn (fun h' hn' hs=>?_) hcls
  obtain⟨oL,_,_,hoL,_⟩:=id hn
  refine h _ ⟨I.ok,I.os,I.bare,⟨fun b o e n hb hx=>?_,fun b o e n hb hx=>?_,I.base.free,fun b o e hx=>?_,I.base.tups,I.base.frzs,I.base.tbls⟩,⟨_,hn',fun j y v' e1 e2 e3=>?_⟩,fun y c e=>?_,I.free,I.freeC,fun p hp=>?_,tracked ⟨oL,hoL,I.free⟩ hs,by simpa using I.len⟩ ⟨_,hs,.inl rfl⟩
  ·exact(hs.2 b (Nat.ne_of_lt (Nat.lt_of_lt_of_le (Heap.lt_size e) I.ok.above))).trans (I.base.keep b o e n hb hx)
  ·obtain⟨sl,e1⟩:=I.base.slot b o e n hb hx
   exact⟨sl,(hs.2 b (Nat.ne_of_lt (Nat.lt_of_lt_of_le (Heap.lt_size e) I.ok.above))).trans e1⟩
  ·obtain⟨o',e1⟩:=I.base.there b o e hx
   exact⟨o',(hs.2 b (Nat.ne_of_lt (Nat.lt_of_lt_of_le (Heap.lt_size e) I.ok.above))).trans e1⟩
  ·by_cases hj:j=i
   ·subst hj
    rw[hi]at e1;cases e1
    rw[List.getElem?_set_self hiσ]at e2
    cases e2
    exact⟨u,r,.inl ⟨hk,`H⟩⟩
   ·rw[List.getElem?_set_ne (Ne.symm hj)]at e2
    obtain⟨u',r',q⟩:=hl j y v' e1 e2 e3
    refine⟨u',r',?_⟩
    rcases q with⟨k,e⟩|⟨k,c,e,z⟩
    ·refine .inl ⟨k,?_⟩
     have:y≠x:=fun e=>hj (nodup_ix hN e1 (e▸hi))
     simp[this,e]
    ·exact .inr ⟨k,c,e,z.sameBut hs (cne y c e)⟩
  ·obtain⟨w',z⟩:=I.cell y c e
   exact⟨w',z.sameBut hs (cne y c e)⟩
  ·obtain⟨e,n,ne,nf,d⟩:=I.pin p hp
   exact⟨(hs.2 p.1 ne).trans e,n,ne,nf,d⟩
 ·have hfn:X.fn x=true:=by
   rcases hf with z|z
   ·exact z
   ·rw[z]at hk;cases hk
  obtain⟨c,hc⟩:=I.ok.has x (.inl hk)
  obtain⟨w',z⟩:=I.cell x c hc
  refine wpAny_storeName_cell I.ok.kind hk hc z (fun h' hc' hs=>?_)
  obtain⟨oc,hoc,hocd⟩:=id z
  refine h {s with heap:=h'} ⟨I.ok,I.os,I.bare,⟨fun b o e n hb hx=>?_,fun b o e n hb hx=>?_,I.base.free,fun b o e hx=>?_,I.base.tups,I.base.frzs,I.base.tbls⟩,⟨m,hn.sameBut hs (Ne.symm (cne x c hc)),fun j y v' e1 e2 e3=>?_⟩,fun y c' e=>?_,I.free,I.freeC,fun p hp=>?_,tracked ⟨oc,hoc,I.freeC x c hc⟩ hs,by simpa using I.len⟩ ⟨c,hs,.inr hc⟩
  ·exact(hs.2 b (Nat.ne_of_lt (Nat.lt_of_lt_of_le (Heap.lt_size e) (I.ok.cab x c hfn hc)))).trans (I.base.keep b o e n hb hx)
  ·obtain⟨sl,e1⟩:=I.base.slot b o e n hb hx
   exact⟨sl,(hs.2 b (Nat.ne_of_lt (Nat.lt_of_lt_of_le (Heap.lt_size e) (I.ok.cab x c hfn hc)))).trans e1⟩
  ·obtain⟨o',e1⟩:=I.base.there b o e hx
   exact⟨o',(hs.2 b (Nat.ne_of_lt (Nat.lt_of_lt_of_le (Heap.lt_size e) (I.ok.cab x c hfn hc)))).trans e1⟩
  ·by_cases hj:j=i
   ·subst hj
    rw[hi]at e1;cases e1
    rw[List.getElem?_set_self hiσ]at e2
    cases e2
    exact⟨u,r,.inr ⟨.inl hk,c,hc,hc'⟩⟩
   ·rw[List.getElem?_set_ne (Ne.symm hj)]at e2
    obtain⟨u',r',q⟩:=hl j y v' e1 e2 e3
    refine⟨u',r',?_⟩
    rcases q with q|⟨k,c',e,z'⟩
    ·exact .inl q
    ·refine .inr ⟨k,c',e,z'.sameBut hs ?_⟩
     rintro rfl
     exact hj (nodup_ix hN e1 (I.ok.inj _ _ _ e hc▸hi))
  ·by_cases hcc:c'=c
   ·subst hcc;exact⟨_,hc'⟩
   ·obtain⟨w2,z2⟩:=I.cell y c' e
    exact⟨w2,z2.sameBut hs hcc⟩
  ·obtain⟨e,n,ne,nf,d⟩:=I.pin p hp
   refine⟨(hs.2 p.1 ?_).trans e,n,ne,nf,d⟩
   intro q
   rw[q,hoc]at e
   have q':oc=p.2:=Option.some.inj e
   exact d w' (by rw[<-q'];exact hocd)
theorem store_ok{M:Model}{A:Around}{E:`T}{i:Nat}{x:Str}{v:V}{u:Value}{Q:Unit->Shared->Prop}(I:`J)(hN:X.N.Nodup)(hi:X.N[i]?=some x)(hx:Loc X.env.scope x)(r:RelV v u)
  (h:∀s',Inv X pins (σ.set i (some v)) H s'->Q () s')(hf:X.fn x=true\/X.env.scope.names.lookup x=some .local:=by first|exact .inl rfl|exact .inr rfl|assumption):wpAny M A (storeName X.env x u) Q E s:=
 store_ok2 I hN hi hx r (fun s' I' _=>h s' I') hf
theorem Inv.call'{s':Shared}{ch:List Addr}(I:`J)(ho:s'.os=s.os)(u:Un (frs X.stack) ch H H' s.heap s'.heap)(hok:HOk X.prog X.w H' s'.heap)(hg:AllBare s'.gens)
  (hch:∀b∈ch,(b∈X.ex\/X.s₀.heap.objs.size<=b)/\b≠X.env.locals/\(∀x c,X.env.cells.lookup x=some c->c≠b)/\∀p∈X.pn++pins,p.1≠b):Inv X pins σ H' s':=by
 obtain⟨h',g',d',t',o'⟩:=s'
 have e:o'=s.os:=ho
 subst e
 exact I.call (g':=g') (t':=t') (d':=d') u hok hg hch
end
abbrev XK:=Value->Option Addr->`S
abbrev St:=List (Option V)
abbrev VK:=V->`S
abbrev TE:=St->Hp->VK->Prop
abbrev TT:=St->Hp->(Bool->`S)->Prop
abbrev TA:=St->Hp->(`F->`S)->Prop
structure Ends where
 nx:St->`S
 rt:VK
 bk:St->`S:=fun _ _=>False
 ct:St->`S:=fun _ _=>False
abbrev TS:=Ends->St->`S
def EP(X:Cx)(pins:`Q)(σ:St)(Q:VK)(u:Value)(s':Shared):Prop:=∃v H',Inv X pins σ H' s'/\RelV v u/\Q v H'
def TP(X:Cx)(pins:`Q)(σ:St)(Q:Bool->`S)(b:Bool)(s':Shared):Prop:=∃H',Inv X pins σ H' s'/\Q b H'
def AP(X:Cx)(pins:`Q)(σ:St)(Q:`F->`S)(us:`M)(s':Shared):Prop:=∃vs H',Inv X pins σ H' s'/\Vals vs us/\Q vs H'
def SP(X:Cx)(pins:`Q)(D:Ends)(f:Flow)(s':Shared):Prop:=
 match f with
 | .next=>∃σ' H',Inv X pins σ' H' s'/\D.nx σ' H'
 | .brk=>∃σ' H',Inv X pins σ' H' s'/\D.bk σ' H'
 | .cont=>∃σ' H',Inv X pins σ' H' s'/\D.ct σ' H'
 | .ret u=>∃v σ' H',Inv X pins σ' H' s'/\RelV v u/\D.rt v H'
def PE(X:Cx)(e:Expr)(t:TE):Prop:=
 ∀(pins:`Q)(s:Shared)(σ:St)(H:Hp)(Q:VK),`J->t σ H Q->wpAny `X X.A (eval e X.env) (EP X pins σ Q) X.xe s
def PT(X:Cx)(e:Expr)(t:TT):Prop:=
 ∀(pins:`Q)(s:Shared)(σ:St)(H:Hp)(Q:Bool->`S),`J->t σ H Q->wpAny `X X.A (isTrue e X.env (eval e X.env)) (TP X pins σ Q) X.xe s
def PW(X:Cx)(e:Expr)(t:TT):Prop:=
 ∀(whole:Sem Value)(pins:`Q)(s:Shared)(σ:St)(H:Hp)(Q:Bool->`S),`J->t σ H Q->wpAny `X X.A (isTrue e X.env whole) (TP X pins σ Q) X.xe s
theorem PW.pt{X:Cx}{e:Expr}{t:TT}(h:PW X e t):PT X e t:=h _
def PA(X:Cx)(es:List Expr)(t:TA):Prop:=
 ∀(pos:Pos)(pins:`Q)(s:Shared)(σ:St)(H:Hp)(Q:`F->`S),`J->t σ H Q->wpAny `X X.A (spliced (backTo pos (starEach es X.env))) (AP X pins σ Q) X.xe s
def PS(X:Cx)(st:Stmt)(t:TS):Prop:=
 ∀(pins:`Q)(s:Shared)(σ:St)(H:Hp)(D:Ends),`J->t D σ H->wpAny `X X.A (exec st X.env) (SP X pins D) X.xe s
def PSs(X:Cx)(st:List Stmt)(t:TS):Prop:=
 ∀(pins:`Q)(s:Shared)(σ:St)(H:Hp)(D:Ends),`J->t D σ H->wpAny `X X.A (execs st X.env) (SP X pins D) X.xe s
theorem thn{α:Type}{t:Sem α}{Q Q':α->Shared->Prop}{M:Model}{A:Around}{E:`T}{s:Shared}(h:wpAny M A t Q E s)(hQ:∀a s,Q a s->Q' a s):wpAny M A t Q' E s:=wpAny_mono h hQ fun _ _ x=>x
section
variable{X:Cx}
def tVar(i:Nat):TE:=fun σ H Q=>∃v,σ[i]?=some (some v)/\Q v H
def tC(v:V):TE:=fun _ H Q=>Q v H
theorem pe_var{i:Nat}{x:Str}{pos:Pos}(hN:X.N[i]?=some x)(hv:Vis X.env.scope x)(hd:`k:=by decide)(hcd:(x==("__classdict__":Str))=false:=by decide):PE X (.Name x pos) (tVar i):=by
 intro pins s σ H Q I h
 obtain⟨v,e,h⟩:=h
 obtain⟨m,hn,hl⟩:=I.loc
 obtain⟨u,r,l⟩:=hl i x v hN e hv
 have fin:EP X pins σ Q u s:=⟨v,H,I,r,h⟩
 rcases l with⟨hk,hm⟩|⟨hk,c,hc,hcell⟩
 ·exact wpAny_Name (wpAny_loadName_local I.ok.kind hk hn hm fin) hd
 ·rcases hk with hk|hk
  ·exact wpAny_Name (wpAny_loadName_cell I.ok.kind hk hc hcell fin) hd
  ·exact wpAny_Name (wpAny_loadName_free I.ok.kind hk hc hcell fin hcd) hd
theorem pe_int{i j pos}:PE X (.Constant (.int i) j pos) (tC (.int i)):=fun _ _ _ H _ I h=>wpAny_Constant_int ⟨.int i,H,I.tok _,⟨_,rfl⟩,h⟩
theorem pe_bl{b j pos}:PE X (.Constant (.bool b) j pos) (tC (.bl b)):=fun _ _ _ H _ I h=>Constant_bool ⟨.bl b,H,I,rfl,h⟩
theorem Wx{j pos}:PE X (.Constant .none j pos) (tC .non):=fun _ _ _ H _ I h=>Constant_none ⟨.non,H,I,rfl,h⟩
theorem Cy{x j pos}:PE X (.Constant (.str x) j pos) (tC (.str x)):=fun _ _ _ H _ I h=>Calls.Constant_str ⟨.str x,H,I.tok _,⟨_,rfl⟩,h⟩
def Gl(X:Cx)(x:Str):Prop:=X.env.kindOf x=some .globalImplicit
theorem ld_glob{E:`T}{pins:`Q}{s:Shared}{σ:St}{H:Hp}{x:Str}{u:Value}{pos:Pos}{Q:`T}(I:`J)(hg:Gl X x)(hm:X.mg x=some u)(h:Q u s)
  (hd:`k:=by decide):wpAny `X X.A (eval (.Name x pos) X.env) Q E s:=
 Calls.Name_function_global I.ok.kind hg (Calls.loadGlobal_global (by rw[I.ok.glob];exact I.mod.glob.keeps I.bk) hm h) hd
theorem ld_blt{E:`T}{pins:`Q}{s:Shared}{σ:St}{H:Hp}{x:Str}{u:Value}{pos:Pos}{Q:`T}(I:`J)(hg:Gl X x)(hm:X.mg x=none)(hv:bootBuiltins x=some u)(h:Q u s)
  (hn:x≠"__name__":=by decide)(hd:`k:=by decide):wpAny `X X.A (eval (.Name x pos) X.env) Q E s:=by
 obtain⟨mb,h1,h2⟩:=I.mod.blt
 exact Calls.Name_function_global I.ok.kind hg (Calls.loadGlobal_builtin (by rw[I.ok.glob];exact I.mod.glob.keeps I.bk) hm (by rw[I.ok.blt];exact h1.keeps I.bk) ((h2 x hn).trans hv) h) hd
theorem ahV{x:Str}{v:V}{u:Value}{pos:Pos}(hg:Gl X x)(hm:X.mg x=some u)(r:RelV v u)(hd:`k:=by decide):PE X (.Name x pos) (tC v):=
 fun _ _ _ H _ I h=>ld_glob I hg hm ⟨v,H,I,r,h⟩ hd
theorem aaC{x:Str}{v:V}{u:Value}{pos:Pos}(hg:Gl X x)(hm:X.mg x=none)(hv:bootBuiltins x=some u)(r:RelV v u)(hn:x≠"__name__":=by decide)(hd:`k:=by decide):PE X (.Name x pos) (tC v):=
 fun _ _ _ H _ I h=>ld_blt I hg hm hv ⟨v,H,I,r,h⟩ hn hd
variable{a b:Expr}{ta tb:TE}{pos:Pos}
def tB(t:TE):TT:=fun σ H Q=>t σ H fun x H1=>∃c,x=.bl c/\Q c H1
theorem ad5{e:Expr}{t:TE}(h:PE X e t)(he:∀whole,isTrue e X.env whole=(do let v<-whole;standAt e.pos;holding [v] (truthy v)):=by intro _;rfl):PT X e (tB t):=by
 intro pins s σ H Q I hw
 refine isTrue_plain (thn (h pins s σ H _ I hw) fun v s1⟨x,H1,I1,r1,q1⟩=>?_) (he _)
 obtain⟨d,rfl,q⟩:=q1
 cases r1
 exact wpAny_truthy_bool ⟨H1,I1,q⟩
variable{tA tB':TT}{rest:List Expr}
def abm(t u:TT):TT:=fun σ H Q=>t σ H fun c H1=>if c=true then u σ H1 Q else Q false H1
def tOr(t u:TT):TT:=fun σ H Q=>t σ H fun c H1=>if c=true then Q true H1 else u σ H1 Q
def ai4(t:TT):TT:=fun σ H Q=>t σ H fun c H1=>Q (!c) H1
theorem aaB(ha:PT X a tA):PW X (.BoolOp .And [a] pos) tA:=by
 intro wh pins s σ H Q I h
 refine isTrue_and (thn (ha pins s σ H Q I h) fun c s1 e=>?_)
 cases c with
 |true=>exact isTrue_and_nil e
 |false=>exact e
theorem ad3(ha:PT X a tA):PW X (.BoolOp .Or [a] pos) tA:=by
 intro wh pins s σ H Q I h
 refine isTrue_or (thn (ha pins s σ H Q I h) fun c s1 e=>?_)
 cases c with
 |false=>exact isTrue_or_nil e
 |true=>exact e
theorem ad4(ha:PT X a tA)(hb:PW X (.BoolOp .And (b::rest) pos) tB'):PW X (.BoolOp .And (a::b::rest) pos) (abm tA tB'):=by
 intro wh pins s σ H Q I h
 refine isTrue_and (thn (ha pins s σ H _ I h) fun c s1⟨H1,I1,q1⟩=>?_)
 cases c with
 |true=>exact hb wh pins s1 σ H1 Q I1 q1
 |false=>exact⟨H1,I1,q1⟩
theorem ag1(ha:PT X a tA)(hb:PW X (.BoolOp .Or (b::rest) pos) tB'):PW X (.BoolOp .Or (a::b::rest) pos) (tOr tA tB'):=by
 intro wh pins s σ H Q I h
 refine isTrue_or (thn (ha pins s σ H _ I h) fun c s1⟨H1,I1,q1⟩=>?_)
 cases c with
 |true=>exact⟨H1,I1,q1⟩
 |false=>exact hb wh pins s1 σ H1 Q I1 q1
theorem ad6(ha:PT X a tA):PT X (.UnaryOp .Not a pos) (ai4 tA):=by
 intro pins s σ H Q I h
 exact isTrue_not (ha pins s σ H (fun c H1=>Q (!c) H1) I h)
def agW(ta tb:TE):TE:=fun σ H Q=>ta σ H fun x H1=>∃c,x=.bl c/\if c=true then tb σ H1 Q else Q (.bl false) H1
def ai3(ta tb:TE):TE:=fun σ H Q=>ta σ H fun x H1=>∃c,x=.bl c/\if c=true then Q (.bl true) H1 else tb σ H1 Q
theorem ajx{op}{t:TE}(h:PE X a t):PE X (.BoolOp op [a] pos) t:=fun pins s σ H Q I hw=>BoolOp_one (h pins s σ H Q I hw)
theorem ajy(ha:PE X a ta)(hb:PE X (.BoolOp .And (b::rest) pos) tb):PE X (.BoolOp .And (a::b::rest) pos) (agW ta tb):=by
 intro pins s σ H Q I h
 refine BoolOp_and (thn (ha pins s σ H _ I h) fun v s1⟨x,H1,I1,r1,q1⟩=>?_)
 obtain⟨c,rfl,q1⟩:=q1
 cases r1
 refine wpAny_truthy_bool ?_
 cases c with
 |true=>exact hb pins s1 σ H1 Q I1 q1
 |false=>exact⟨.bl false,H1,I1,rfl,q1⟩
theorem alH(ha:PE X a ta)(hb:PE X (.BoolOp .Or (b::rest) pos) tb):PE X (.BoolOp .Or (a::b::rest) pos) (ai3 ta tb):=by
 intro pins s σ H Q I h
 refine BoolOp_or (thn (ha pins s σ H _ I h) fun v s1⟨x,H1,I1,r1,q1⟩=>?_)
 obtain⟨c,rfl,q1⟩:=q1
 cases r1
 refine wpAny_truthy_bool ?_
 cases c with
 |false=>exact hb pins s1 σ H1 Q I1 q1
 |true=>exact⟨.bl true,H1,I1,rfl,q1⟩
def tIf(t:TT)(ta tb:TE):TE:=fun σ H Q=>t σ H fun c H1=>if c=true then ta σ H1 Q else tb σ H1 Q
theorem afM{c:Expr}(hc:PT X c tA)(ha:PE X a ta)(hb:PE X b tb):PE X (.IfExp c a b pos) (tIf tA ta tb):=by
 intro pins s σ H Q I h
 refine wpAny_IfExp (thn (hc pins s σ H _ I h) fun d s1⟨H1,I1,q1⟩=>?_)
 cases d with
 |true=>exact ha pins s1 σ H1 Q I1 q1
 |false=>exact hb pins s1 σ H1 Q I1 q1
end
def SqL(K:W.Frag)(H:Hp)(a:Addr)(xs:`F):Prop:=
 Rd H a (.lst xs)\/
  ∃(o:Obj)(its:Array Value)(n:Nat),K.lookup a=some o/\o.cls=.type "list"/\o.dict=none/\o.data=.seq its n/\its.size<=sizeLine/\Vals xs its.toList
def SqT(K:W.Frag)(H:Hp)(a:Addr)(xs:`F):Prop:=
 Rd H a (.tup xs)\/
  ∃(o:Obj)(its:Array Value)(n:Nat),K.lookup a=some o/\o.cls=`b/\o.data=.seq its n/\its.size<=sizeLine/\Vals xs its.toList
def absV:Value->Option V
 | .none=>some .non
 | .bool b=>some (.bl b)
 | .int i _=>some (.int i)
 | .str x _=>some (.str x)
 | .bytes b _=>some (.byt b)
 | .float b _=>some (.flt b)
 | .ref a=>some `G
 | .type n=>some (.ty n)
 |_=>none
theorem RelV.abs{x:V}{u:Value}(r:RelV x u):absV u=some x:=by
 cases x with
 |non=>cases r;rfl
 |bl _=>cases r;rfl
 |int _=>obtain⟨t,rfl⟩:=r;rfl
 |str _=>obtain⟨t,rfl⟩:=r;rfl
 |byt _=>obtain⟨t,rfl⟩:=r;rfl
 |flt _=>obtain⟨t,rfl⟩:=r;rfl
 |ref _=>cases r;rfl
 |ty _=>cases r;rfl
theorem RelV.inj{x y:V}{u:Value}(r:RelV x u)(q:RelV y u):x=y:=Option.some.inj (r.abs.symm.trans q.abs)
theorem Vals.inj:∀{xs ys:`F}{us:`M},Vals xs us->Vals ys us->xs=ys
 |_,_,_,.nil,.nil=>rfl
 |_,_,_,.cons r t,.cons r' t'=>by rw[r.inj r',Vals.inj t t']
section
variable{X:Cx}{pins:`Q}{σ:St}{H:Hp}{s:Shared}{a:Addr}{xs ys:`F}
theorem SqL.of{K:W.Frag}(h:H a=some (.lst xs)):SqL K H a xs:=.inl (.inl h)
theorem SqT.of{K:W.Frag}(h:H a=some (.tup xs)):SqT K H a xs:=.inl (.inl h)
theorem Inv.list(I:`J)(h:SqL X.K H a xs):∃its:`M,Vals xs its/\PlainL s.heap a its.toArray/\xs.length<=sizeLine:=by
 rcases h with h|⟨o,its,n,hk,hc,hd,hs,hz,r⟩
 ·obtain⟨z,its,n,r,e⟩:=h.ok I.hok
  exact⟨its,r,⟨_,n,e,rfl,rfl,rfl⟩,z⟩
 ·refine⟨its.toList,r,⟨o,n,I.kIn a o hk,hc,hd,by simpa using hs⟩,?_⟩
  have e:=r.length
  simp only[Array.length_toList]at e
  lia
theorem Inv.tuple(I:`J)(h:SqT X.K H a xs):∃its:`M,Vals xs its/\IsTup s.heap a its.toArray/\xs.length<=sizeLine:=by
 rcases h with h|⟨o,its,n,hk,hc,hs,hz,r⟩
 ·obtain⟨z,its,r,p⟩:=h.ok I.hok
  exact⟨its,r,p,z⟩
 ·refine⟨its.toList,r,⟨o,I.kIn a o hk,hc,n,by simpa using hs⟩,?_⟩
  have e:=r.length
  simp only[Array.length_toList]at e
  lia
theorem Inv.list_inj(I:`J)(h:SqL X.K H a xs)(h':SqL X.K H a ys):xs=ys:=by
 obtain⟨its,r,⟨o,n,e,_,_,d⟩,_⟩:=I.list h
 obtain⟨its',r',⟨o',n',e',_,_,d'⟩,_⟩:=I.list h'
 rw[e]at e';cases e'
 rw[d]at d'
 injection d' with d1 _
 have:its=its':=by simpa using congrArg Array.toList d1
 subst this
 exact r.inj r'
theorem Inv.GX(I:`J)(h:SqT X.K H a xs)(h':SqT X.K H a ys):xs=ys:=by
 obtain⟨its,r,⟨o,e,_,n,d⟩,_⟩:=I.tuple h
 obtain⟨its',r',⟨o',e',_,n',d'⟩,_⟩:=I.tuple h'
 rw[e]at e';cases e'
 rw[d]at d'
 injection d' with d1 _
 have:its=its':=by simpa using congrArg Array.toList d1
 subst this
 exact r.inj r'
end
abbrev Cx.wish(X:Cx)(E:`T):Cx:={X with xe:=E}
abbrev Cx.nox(X:Cx):Cx:=X.wish fun _ _=>False
theorem Cx.Ok.wish{X:Cx}(ok:X.Ok)(E:`T):(X.wish E).Ok:=
 ⟨ok.mod,ok.kind,ok.glob,ok.blt,ok.above,ok.inj,ok.has,ok.cab,ok.hd,ok.frames,ok.stk,ok.exf,ok.bs,ok.bsz,ok.noex,ok.exfs,ok.funs,ok.frf⟩
theorem Cx.Ok.unwish{X:Cx}{E:`T}(ok:(X.wish E).Ok):X.Ok:=
 ⟨ok.mod,ok.kind,ok.glob,ok.blt,ok.above,ok.inj,ok.has,ok.cab,ok.hd,ok.frames,ok.stk,ok.exf,ok.bs,ok.bsz,ok.noex,ok.exfs,ok.funs,ok.frf⟩
section
variable{X:Cx}{pins:`Q}{σ:St}{H:Hp}{s:Shared}{E:`T}
theorem Inv.wish(I:`J)(E:`T):Inv (X.wish E) pins σ H s:=⟨I.ok.wish E,I.os,I.bare,I.base,I.loc,I.cell,I.free,I.freeC,I.pin,I.hok,I.len⟩
theorem Inv.unwish(I:Inv (X.wish E) pins σ H s):`J:=⟨I.ok.unwish,I.os,I.bare,I.base,I.loc,I.cell,I.free,I.freeC,I.pin,I.hok,I.len⟩
theorem SP.unwish{D:Ends}{f:Flow}{s':Shared}(h:SP (X.wish E) pins D f s'):SP X pins D f s':=by
 cases f with
 |next=>obtain⟨σ',H',I,q⟩:=h;exact⟨σ',H',I.unwish,q⟩
 |brk=>obtain⟨σ',H',I,q⟩:=h;exact⟨σ',H',I.unwish,q⟩
 |cont=>obtain⟨σ',H',I,q⟩:=h;exact⟨σ',H',I.unwish,q⟩
 |ret u=>obtain⟨v,σ',H',I,r,q⟩:=h;exact⟨v,σ',H',I.unwish,r,q⟩
theorem PSs.nox{st:List Stmt}{t:TS}(h:PSs X.nox st t):PSs X st t:=fun pins s σ H D I hw=>
 wpAny_mono (h pins s σ H D (I.wish _) hw) (fun _ _ q=>q.unwish) fun _ _ z=>False.elim z
end
section
variable{X:Cx}{st:Stmt}{rest:List Stmt}{t u:TS}{e:Expr}{te:TE}{pos:Pos}
def tNext:TS:=fun D σ H=>D.nx σ H
def tSeq(t u:TS):TS:=fun D σ H=>t {D with nx:=u D} σ H
theorem pss_nil:PSs X [] tNext:=fun _ _ σ H _ I h=>wpAny_execs_nil ⟨σ,H,I,h⟩
theorem pss_cons(h1:PS X st t)(h2:PSs X rest u):PSs X (st::rest) (tSeq t u):=by
 intro pins s σ H D I h
 refine wpAny_execs_cons (thn (h1 pins s σ H {D with nx:=u D} I h) fun f s1 q=>?_)
 cases f with
 |next=>
  obtain⟨σ',H',I',q⟩:=q
  exact h2 pins s1 σ' H' D I' q
 |ret v=>exact q
 |brk=>exact q
 |cont=>exact q
theorem pss_one(h1:PS X st t):PSs X [st] t:=by
 intro pins s σ H D I h
 refine wpAny_execs_cons (thn (h1 pins s σ H D I h) fun f s1 q=>?_)
 cases f with
 |next=>exact wpAny_execs_nil q
 |ret v=>exact q
 |brk=>exact q
 |cont=>exact q
def agU:TS:=fun D σ H=>D.ct σ H
theorem ahI:PS X (.Pass pos) tNext:=fun _ _ σ H _ I h=>wpAny_Pass ⟨σ,H,I,h⟩
theorem Zb:PS X (.Continue pos) agU:=fun _ _ σ H _ I h=>wpAny_Continue ⟨σ,H,I,h⟩
theorem Inv.quiet{pins:`Q}{σ:St}{H:Hp}{s:Shared}(I:`J):interactive X.env=false:=by simp[interactive,I.ok.kind]
def tDrop(te:TE):TS:=fun D σ H=>te σ H fun _ H1=>D.nx σ H1
theorem ps_expr(he:PE X e te)(hs:swapsWith e none pos.line X.env=pure false:=by rfl):PS X (.Expr e pos) (tDrop te):=by
 intro pins s σ H D I h
 exact wpAny_Expr_any (thn (he pins s σ H _ I h) fun v s1⟨x,H1,I1,r1,q1⟩=>⟨σ,H1,I1,q1⟩) I.quiet hs
def tRet(te:TE):TS:=fun D σ H=>te σ H D.rt
theorem ps_ret(he:PE X e te):PS X (.Return (some e) pos) (tRet te):=by
 intro pins s σ H D I h
 exact wpAny_Return_some (thn (he pins s σ H _ I h) fun v s1⟨x,H1,I1,r1,q1⟩=>⟨x,σ,H1,I1,r1,q1⟩)
def agS:TS:=fun D _ H=>D.rt .non H
theorem ahH:PS X (.Return none pos) agS:=fun _ _ σ H _ I h=>wpAny_Return_none ⟨.non,σ,H,I,rfl,h⟩
def tIfS(c:TT)(t u:TS):TS:=fun D σ H=>c σ H fun b H1=>if b=true then t D σ H1 else u D σ H1
theorem ps_if{c:Expr}{a b:List Stmt}{tc:TT}(hc:PT X c tc)(ha:PSs X a t)(hb:PSs X b u):PS X (.If c a b pos) (tIfS tc t u):=by
 intro pins s σ H D I h
 refine wpAny_If (thn (hc pins s σ H _ I h) fun d s1⟨H1,I1,q1⟩=>?_)
 cases d with
 |true=>exact ha pins s1 σ H1 D I1 q1
 |false=>exact hb pins s1 σ H1 D I1 q1
def adu:TS:=fun _ _ _=>False
theorem afB:PS X st adu:=fun _ _ _ _ _ _ h=>h.elim
end
abbrev TG:=V->St->Hp->(St->`S)->Prop
abbrev TGs:=`F->St->Hp->(St->`S)->Prop
def PG(X:Cx)(target:Expr)(t:TG):Prop:=
 ∀(pins:`Q)(s:Shared)(σ:St)(H:Hp)(v:V)(u:Value)(Q:St->`S),`J->RelV v u->t v σ H Q->
  wpAny `X X.A (assign target X.env u) (fun _ s'=>∃σ' H',Inv X pins σ' H' s'/\Q σ' H') X.xe s
def PGs(X:Cx)(ts:List Expr)(t:TGs):Prop:=
 ∀(pins:`Q)(s:Shared)(σ:St)(H:Hp)(vs:`F)(us:`M)(Q:St->`S),`J->Vals vs us->t vs σ H Q->
  wpAny `X X.A (assignInOrder ((assignEach ts X.env).map (·.2)) us) (fun _ s'=>∃σ' H',Inv X pins σ' H' s'/\Q σ' H') X.xe s
abbrev N5:=V->V->V->Hp->`S->Prop
def YL(X:Cx)(t:N5):Prop:=
 ∀(pins:`Q)(s:Shared)(σ:St)(H:Hp)(o i v:V)(ov iv u:Value)(Q:`S),`J->RelV o ov->RelV i iv->RelV v u->t o i v H Q->
  wpAny `X X.A (setItem ov iv u) (fun _ s'=>∃H',Inv X pins σ H' s'/\Q H') X.xe s
abbrev TIp:=V->V->Hp->VK->Prop
def PIp(X:Cx)(op:Operator)(t:TIp):Prop:=
 ∀(pins:`Q)(s:Shared)(σ:St)(H:Hp)(x y:V)(v u:Value)(Q:VK),`J->RelV x v->RelV y u->t x y H Q->
  wpAny `X X.A (inplaceOp op v u) (EP X pins σ Q) X.xe s
section
variable{X:Cx}{pos:Pos}
def gName(i:Nat):TG:=fun v σ H Q=>Q (σ.set i (some v)) H
theorem pg_name{i:Nat}{x:Str}(hN:X.N.Nodup)(hi:X.N[i]?=some x)(hx:Loc X.env.scope x)(hf:X.fn x=true\/X.env.scope.names.lookup x=some .local:=by first|exact .inl rfl|exact .inr rfl|assumption):PG X (.Name x pos) (gName i):=by
 intro pins s σ H v u Q I r h
 exact wpAny_assign_Name (store_ok I hN hi hx r (fun s' I'=>⟨_,H,I',h⟩) hf)
def ab7:TGs:=fun vs σ H Q=>vs=[]/\Q σ H
def ag9(t:TG)(u:TGs):TGs:=fun vs σ H Q=>∃v r,vs=v::r/\t v σ H fun σ' H'=>u r σ' H' Q
theorem ahS:PGs X [] ab7:=by
 intro pins s σ H vs us Q I r h
 obtain⟨e,h⟩:=h
 subst e
 cases r
 exact assignInOrder_nil ⟨σ,H,I,h⟩
theorem afJ{e:Expr}{es:List Expr}{t:TG}{u:TGs}(h1:PG X e t)(h2:PGs X es u)
  (hs:(assignEach (e::es) X.env).map (·.2)=assign e X.env::(assignEach es X.env).map (·.2):=by rfl):PGs X (e::es) (ag9 t u):=by
 intro pins s σ H vs us Q I r h
 obtain⟨v,vr,e1,h⟩:=h
 subst e1
 cases r with
 |cons r rr=>
  rw[hs]
  refine assignInOrder_cons (thn (h1 pins s σ H _ _ _ I r h) fun _ s1⟨σ1,H1,I1,q1⟩=>?_)
  exact h2 pins s1 σ1 H1 _ _ Q I1 rr q1
def akb(K:W.Frag)(n:Nat)(t:TGs):TG:=fun v σ H Q=>∃a xs,v=`G/\SqT K H a xs/\xs.length=n/\t xs σ H Q
theorem aju{es:List Expr}{k:Nat}{t:TGs}{n:Nat}(hc:X.calm=true)(h:PGs X es t)
  (hn:(assignEach es X.env).length=n:=by rfl)(hst:(assignEach es X.env).findIdx? (·.1)=none:=by rfl):PG X (.Tuple es k pos) (akb X.K n t):=by
 intro pins s σ H v u Q I r hw
 obtain⟨a,xs,e1,hq,hl,hw⟩:=hw
 subst e1
 cases r
 obtain⟨its,rv,ht,hz⟩:=I.tuple hq
 refine assign_Tuple_tuple (I.ok.hd hc) ht (by simp[hn,<-hl,rv.length]) hst fun h' hx=>?_
 have I1:Inv X pins σ H {s with heap:=h'}:=I.kept (t':=s.toks) fun b o e=>hx b o (Nat.ne_of_lt (Heap.lt_size e)) e
 exact h pins _ σ H xs _ Q I1 (by simpa using rv) hw
def akc(to ti:TE)(t:N5):TG:=fun v σ H Q=>to σ H fun o H1=>ti σ H1 fun i H2=>t o i v H2 fun H3=>Q σ H3
theorem ajv{o i:Expr}{to ti:TE}{t:N5}(ho:PE X o to)(hi:PE X i ti)(hs:YL X t)
  (ha:∀v,assign (.Subscript o i pos) X.env v=(do
   let ov<-holding [v] (eval o X.env)
   let iv<-holding [v,ov] (eval i X.env)
   standAt pos
   holding [v,ov,iv] (setItem ov iv v)
   release [v,ov,iv] []):=by intro _;rfl):PG X (.Subscript o i pos) (akc to ti t):=by
 intro pins s σ H v u Q I r h
 rw[ha]
 refine wpAny_bind (wpAny_holding (thn (ho pins s σ H _ I h) fun ov s1⟨x,H1,I1,r1,q1⟩=>?_))
 refine wpAny_bind (wpAny_holding (thn (hi pins s1 σ H1 _ I1 q1) fun iv s2⟨y,H2,I2,r2,q2⟩=>?_))
 refine wpAny_bind (wpAny_standAt (wpAny_bind (wpAny_holding (thn (hs pins s2 σ H2 x y v ov iv u _ I2 r1 r2 r q2) fun _ s3⟨H3,I3,q3⟩=>?_))))
 exact wpAny_release ⟨σ,H3,I3,q3⟩
def tAsg(te:TE)(g:TG):TS:=fun D σ H=>te σ H fun x H1=>g x σ H1 D.nx
theorem ajp{tg e:Expr}{te:TE}{g:TG}(he:PE X e te)(hg:PG X tg g)(hs:swapsWithSole [tg] e pos.line X.env=pure false:=by rfl)(hw:swappedStores [tg] e X.env=pure none:=by rfl)
  (h1:(assignEach [tg] X.env).map (·.2)=[assign tg X.env]:=by rfl):PS X (.Assign [tg] e pos) (tAsg te g):=by
 intro pins s σ H D I h
 refine wpAny_Assign_stores (thn (he pins s σ H _ I h) fun v s1⟨x,H1,I1,r1,q1⟩=>?_) hs hw
 rw[h1]
 exact thn (hg pins s1 σ H1 x v _ I1 r1 q1) fun _ s2 q=>q
theorem ps_set{i:Nat}{x:Str}{e:Expr}{te:TE}{pos':Pos}(hN:X.N.Nodup)(hi:X.N[i]?=some x)(hx:Loc X.env.scope x)(he:PE X e te)(hs:swapsWith e (some (.Name x pos')) pos.line X.env=pure false:=by rfl)(hf:X.fn x=true\/X.env.scope.names.lookup x=some .local:=by first|exact .inl rfl|exact .inr rfl|assumption):
  PS X (.Assign [.Name x pos'] e pos) (tAsg te (gName i)):=by
 intro pins s σ H D I h
 refine wpAny_Assign_Name (thn (he pins s σ H _ I h) fun v s1⟨y,H1,I1,r1,q1⟩=>?_) hs
 exact store_ok I1 hN hi hx r1 (fun s2 I2=>⟨_,H1,I2,q1⟩) hf
def ai6(i:Nat)(te:TE)(ti:TIp):TS:=fun D σ H=>∃x,σ[i]?=some (some x)/\te σ H fun y H1=>ti x y H1 fun z H2=>D.nx (σ.set i (some z)) H2
theorem ajo{i:Nat}{x:Str}{e:Expr}{te:TE}{op:Operator}{ti:TIp}{pos':Pos}(hN:X.N.Nodup)(hi:X.N[i]?=some x)(hx:Loc X.env.scope x)(he:PE X e te)(ho:PIp X op ti)(hf:X.fn x=true\/X.env.scope.names.lookup x=some .local:=by first|exact .inl rfl|exact .inr rfl|assumption):
  PS X (.AugAssign (.Name x pos') op e pos) (ai6 i te ti):=by
 intro pins s σ H D I h
 obtain⟨v,e1,h⟩:=h
 obtain⟨m,hn,hl⟩:=I.loc
 have vis:Vis X.env.scope x:=by rcases hx with k|k;exact .inl k;exact .inr (.inl k)
 obtain⟨u,r,l⟩:=hl i x v hi e1 vis
 refine wpAny_AugAssign_Name ?_
 have go:wpAny `X X.A (eval e X.env) (fun w s₂=>wpAny `X X.A (inplaceOp op u w) (fun r s₃=>wpAny `X X.A (storeName X.env x r) (fun _=>SP X pins D .next) X.xe s₃) X.xe s₂) X.xe s:=by
  refine thn (he pins s σ H _ I h) fun w s1⟨y,H1,I1,r1,q1⟩=>?_
  refine thn (ho pins s1 σ H1 v y u w _ I1 r r1 q1) fun z s2⟨zv,H2,I2,r2,q2⟩=>?_
  exact store_ok I2 hN hi hx r2 (fun s3 I3=>⟨_,H2,I3,q2⟩) hf
 rcases l with⟨hk,hm⟩|⟨hk,c,hc,hcell⟩
 ·exact wpAny_loadName_local I.ok.kind hk hn hm go
 ·rcases hk with hk|hk
  ·exact wpAny_loadName_cell I.ok.kind hk hc hcell go
  ·rcases hx with k|k
   ·have:X.env.scope.names.lookup x=some .free:=hk
    rw[k]at this;cases this
   ·have:X.env.scope.names.lookup x=some .free:=hk
    rw[k]at this;cases this
def agV(to ti te:TE)(K7:V->V->Hp->VK->Prop)(tip:TIp)(K4:N5):TS:=fun D σ H=>to σ H fun o H1=>ti σ H1 fun i H2=>K7 o i H2 fun x H3=>te σ H3 fun y H4=>tip x y H4 fun z H5=>K4 o i z H5 fun H6=>D.nx σ H6
def agN(X:Cx)(t:V->V->Hp->VK->Prop):Prop:=
 ∀(pins:`Q)(s:Shared)(σ:St)(H:Hp)(o i:V)(ov iv:Value)(Q:VK),`J->RelV o ov->RelV i iv->t o i H Q->
  wpAny `X X.A (getItem ov iv) (EP X pins σ Q) X.xe s
theorem ahJ{o i e:Expr}{to ti te:TE}{K7:V->V->Hp->VK->Prop}{tip:TIp}{K4:N5}{op:Operator}{tpos:Pos}(ho:PE X o to)(hi:PE X i ti)(hg:agN X K7)(he:PE X e te)(hp:PIp X op tip)(hs:YL X K4)
  (ha:∀ov iv new,augStore i ov iv new=(do holding [new,ov,iv] (setItem ov iv new);release [new,ov,iv] [];pure .next):=by intros;rfl):PS X (.AugAssign (.Subscript o i tpos) op e pos) (agV to ti te K7 tip K4):=by
 intro pins s σ H D I h
 refine wpAny_AugAssign_SubscriptAny (thn (ho pins s σ H _ I h) fun ov s1⟨x1,H1,I1,r1,q1⟩=>?_) ha
 refine thn (hi pins s1 σ H1 _ I1 q1) fun iv s2⟨x2,H2,I2,r2,q2⟩=>?_
 refine thn (hg pins s2 σ H2 x1 x2 ov iv _ I2 r1 r2 q2) fun old s3⟨x3,H3,I3,r3,q3⟩=>?_
 refine thn (he pins s3 σ H3 _ I3 q3) fun v s4⟨x4,H4,I4,r4,q4⟩=>?_
 refine thn (hp pins s4 σ H4 x3 x4 old v _ I4 r3 r4 q4) fun new s5⟨x5,H5,I5,r5,q5⟩=>?_
 exact thn (hs pins s5 σ H5 x1 x2 x5 ov iv new _ I5 r1 r2 r5 q5) fun _ s6⟨H6,I6,q6⟩=>⟨σ,H6,I6,q6⟩
def ipI(f:Int->Int->Int):TIp:=fun x y H Q=>∃i j,x=.int i/\y=.int j/\Q (.int (f i j)) H
theorem HX:PIp X .Add (ipI fun i j=>i+j):=by
 intro pins s σ H x y v u Q I r1 r2 h
 obtain⟨i,j,e1,e2,q⟩:=h
 subst e1;subst e2
 obtain⟨t,rfl⟩:=r1
 obtain⟨t',rfl⟩:=r2
 exact iadd_int ⟨.int _,H,I.tok _,⟨_,rfl⟩,q⟩
end
section
variable{X:Cx}{pos:Pos}
def adq(c:TT)(tb:TS):TS:=fun D σ H=>∃W:Nat->St->`S,(∃m,W m σ H)/\∀m σ H,W m σ H->
 c σ H fun b H1=>if b=true then∃N:St->`S,(∀σ' H',N σ' H'->∃m',m'<m/\W m' σ' H')/\tb {D with nx:=N,ct:=N,bk:=D.nx} σ H1 else D.nx σ H1
theorem Wq{c:Expr}{body:List Stmt}{tc:TT}{tb:TS}(hp:PassesOwn `X X.A X.env X.xe)(hc:PT X c tc)(hb:PSs X body tb):PS X (.While c body [] pos) (adq tc tb):=by
 intro pins s σ H D I h
 obtain⟨W,⟨m0,w0⟩,turn⟩:=h
 refine wpAny_While (codeAny_whileLoop (fun n s'=>∃σ' H',Inv X pins σ' H' s'/\W n σ' H') ?_ m0 ⟨σ,H,I,w0⟩)
 rintro n s1⟨σ1,H1,I1,w1⟩
 refine wpAny_passesOwn hp (thn (hc pins s1 σ1 H1 _ I1 (turn n σ1 H1 w1)) fun b s2⟨H2,I2,q2⟩=>?_)
 cases b with
 |true=>
  obtain⟨N,hN,q2⟩:=q2
  rw[if_pos rfl]
  refine wpAny_passesOwn hp (thn (hb pins s2 σ1 H2 _ I2 q2) fun f s3 q3=>?_)
  cases f with
  |next=>
   obtain⟨σ3,H3,I3,n3⟩:=q3
   obtain⟨m',hm,w3⟩:=hN σ3 H3 n3
   exact⟨m',hm,σ3,H3,I3,w3⟩
  |cont=>
   obtain⟨σ3,H3,I3,n3⟩:=q3
   obtain⟨m',hm,w3⟩:=hN σ3 H3 n3
   exact⟨m',hm,σ3,H3,I3,w3⟩
  |brk=>exact q3
  |ret v=>exact q3
 |false=>
  rw[if_neg Bool.false_ne_true]
  exact wpAny_execs_nil ⟨σ1,H2,I2,q2⟩
end
structure It where
 go:Nat->`S
 yld:Nat->Hp->V->`S
 stop:Nat->`S
def FpOk(X:Cx)(pins:`Q)(H:Hp)(b:Addr):Prop:=
 H b=none/\b≠X.env.locals/\b∉X.fs/\(b∈X.ex\/X.s₀.heap.objs.size<=b)/\(∀x c,X.env.cells.lookup x=some c->c≠b)/\∀p∈X.pn++pins,p.1≠b
theorem Inv.fpOk{X:Cx}{pins:`Q}{σ:St}{H H':Hp}{s:Shared}{b:Addr}(I:`J)(hb:s.heap.objs.size<=b)(hn:H' b=none):FpOk X pins H' b:=by
 refine⟨hn,Nat.ne_of_gt (Nat.lt_of_lt_of_le I.lt hb),I.nofs hb,.inr (Nat.le_trans I.sz hb),fun x c e z=>?_,fun p hp z=>?_⟩
 ·obtain⟨v,q⟩:=I.cell x c e
  exact absurd (Nat.lt_of_lt_of_le q.lt (by rw[z];exact hb)) (Nat.lt_irrefl _)
 ·exact absurd (Nat.lt_of_lt_of_le (Heap.lt_size (I.pin p hp).1) (by rw[z];exact hb)) (Nat.lt_irrefl _)
structure Turn(P:Program)(w:World)(K:W.Frag)(tg:Expr)(J:It)(fp:List Addr)(it:Addr)(tn:Nat->Heap->Prop):Prop where
 mem:it∈fp
 obj:∀i h,tn i h->∀b∈fp,∃o,h.get? b=some o/\∀v,o.data≠.cell v
 keep:∀i h h',tn i h->(∀b∈fp,∀o,h.get? b=some o->h'.get? b=some o)->tn i h'
 item:∀(X:Cx),X.prog=P->X.w=w->X.K=K->X.calm=true->∀(i:Nat)(pins:`Q)(s:Shared)(σ:St)(H:Hp)(E:`T),`J->(∀b∈fp,FpOk X pins H b)->tn i s.heap->J.go i H->
  wpAny (model P w) X.A (pyNext (.ref it)) (fun r s1=>∃u,r=some u/\
   wpAny (model P w) X.A (letOwnedTupleGo tg (.ref it) u) (fun _ s2=>∃x H',Inv X pins σ H' s2/\RelV x u/\J.yld i H x H'/\tn (i+1) s2.heap/\∀b∈fp,H' b=none) E s1) E s
 done:∀(X:Cx),X.prog=P->X.w=w->X.K=K->X.calm=true->∀(i:Nat)(pins:`Q)(s:Shared)(σ:St)(H:Hp)(E:`T),`J->(∀b∈fp,FpOk X pins H b)->tn i s.heap->J.stop i H->
  wpAny (model P w) X.A (pyNext (.ref it)) (fun r s1=>r=none/\Inv X pins σ H s1) E s
 self:∀(A:Around)(i:Nat)(s:Shared)(Q:`T)(E:`T),tn i s.heap->Q (.ref it) s->wpAny (model P w) A (pyIter (.ref it)) Q E s
abbrev TI:=St->Hp->(It->`S)->Prop
def PIE(X:Cx)(pins:`Q)(σ:St)(tg:Expr)(R:It->`S)(itv:Value)(s2:Shared):Prop:=
 ∃(it:Addr)(fp:List Addr)(tn:Nat->Heap->Prop)(J:It)(H':Hp),itv=.ref it/\Inv X pins σ H' s2/\Turn X.prog X.w X.K tg J fp it tn/\tn 0 s2.heap/\(∀b∈fp,FpOk X pins H' b)/\R J H'
def PI(X:Cx)(tg iter:Expr)(wi:TI):Prop:=
 ∀(pins:`Q)(s:Shared)(σ:St)(H:Hp)(R:It->`S),`J->wi σ H R->
  wpAny `X X.A (eval iter X.env) (fun v s1=>wpAny `X X.A (pyIter v) (PIE X pins σ tg R) X.xe s1) X.xe s
theorem go_of{M:Model}{A:Around}{E:`T}{s:Shared}{tg:Expr}{it:Addr}{u:Value}{o:Obj}{n:String}{vs:Array Value}{Q:Unit->Shared->Prop}(ho:s.heap.get? it=some o)(hc:o.cls=.type n)(hd:o.data=.fields vs)
  (hn:["enumerate","zip","dict_itemiterator","dict_reverseitemiterator","odict_iterator","itertools.zip_longest","itertools.pairwise"].contains n=false)(hQ:Q () s):wpAny M A (letOwnedTupleGo tg (.ref it) u) Q E s:=by
 unfold letOwnedTupleGo
 cases tg<;>first
  |exact wpAny_pure hQ
  |(cases u<;>first
    |exact wpAny_pure hQ
    |(refine wpAny_bind (wpAny_load ho ?_);rw[hc,hd];show wpAny M A (if(["enumerate","zip","dict_itemiterator","dict_reverseitemiterator","odict_iterator","itertools.zip_longest","itertools.pairwise"].contains n&&vs[0]? ==some (rawInt _))=true then _ else _) Q E s;rw[if_neg (by intro h;rw[hn,Bool.false_and]at h;cases h)];exact wpAny_pure hQ))
def Itl(K:W.Frag)(a:Addr):It:=
 ⟨fun i H=>∃xs x,SqL K H a xs/\xs[i]?=some x,fun i H x H'=>H'=H/\∀xs,SqL K H a xs->xs[i]?=some x,fun i H=>∃xs,SqL K H a xs/\xs.length<=i⟩
def Itt(K:W.Frag)(a:Addr):It:=
 ⟨fun i H=>∃xs x,SqT K H a xs/\xs[i]?=some x,fun i H x H'=>H'=H/\∀xs,SqT K H a xs->xs[i]?=some x,fun i H=>∃xs,SqT K H a xs/\xs.length<=i⟩
def Itr(lo:Int)(n:Nat):It:=⟨fun i _=>i<n,fun i H x H'=>H'=H/\x=.int (lo+i),fun i _=>n<=i⟩
theorem turn_list{P:Program}{w:World}{K:W.Frag}{tg:Expr}(a it:Addr):Turn P w K tg (Itl K a) [it] it (fun i h=>h.IsListIter it a i)where
 mem:=`H
 obj:=fun i h st b hb=>by
  have e:b=it:=by simpa using hb
  subst e
  obtain⟨o,e,c,d⟩:=st
  exact⟨o,e,fun v z=>by rw[d]at z;cases z⟩
 keep:=fun i h h' st k=>st.at fun o e=>k it `H o e
 item:=by
  intro X hP hw hK hc i pins s σ H E I hf st hg
  subst hP hw hK
  obtain⟨xs,x,hq,hx⟩:=hg
  obtain⟨its,rv,p,hz⟩:=I.list hq
  obtain⟨u,hu,ru⟩:=rv.get hx
  obtain⟨f0,f1,f2,f3,f4,f5⟩:=hf it `H
  refine wpAny_pyNext_list_item st p.isList (x:=u) (by simpa using hu) fun h' st' sb=>?_
  have I1:Inv X pins σ H {s with heap:=h'}:=I.turned (t':=s.toks) (fun b o hb e=>(sb.2 b hb).trans e) f0 f1 f3 f4 f5
  obtain⟨o,e,c,d⟩:=id st'
  exact⟨u,rfl,go_of (s:={s with heap:=h'}) e c d `B ⟨x,H,I1,ru,⟨rfl,fun ys hy=>by rw[I.list_inj hy hq];exact hx⟩,st',fun b hb=>(hf b hb).1⟩⟩
 done:=by
  intro X hP hw hK hc i pins s σ H E I hf st hg
  subst hP hw hK
  obtain⟨xs,hq,hx⟩:=hg
  obtain⟨its,rv,p,hz⟩:=I.list hq
  obtain⟨f0,f1,f2,f3,f4,f5⟩:=hf it `H
  have hl:=rv.length
  exact wpAny_pyNext_list_end (I.ok.hd hc) st p.isList (by simp;lia) fun h' eb=>⟨rfl,I.turned (t':=s.toks) (fun b o hb e=>eb b o hb e) f0 f1 f3 f4 f5⟩
 self:=fun _ _ _ _ _ st h=>wpAny_pyIter_listiter st h
theorem abj{P:Program}{w:World}{K:W.Frag}{tg:Expr}(a it:Addr):Turn P w K tg (Itt K a) [it] it (fun i h=>h.IsTupleIter it a i)where
 mem:=`H
 obj:=fun i h st b hb=>by
  have e:b=it:=by simpa using hb
  subst e
  obtain⟨o,e,c,d⟩:=st
  exact⟨o,e,fun v z=>by rw[d]at z;cases z⟩
 keep:=fun i h h' st k=>st.at fun o e=>k it `H o e
 item:=by
  intro X hP hw hK hc i pins s σ H E I hf st hg
  subst hP hw hK
  obtain⟨xs,x,hq,hx⟩:=hg
  obtain⟨its,rv,p,hz⟩:=I.tuple hq
  obtain⟨u,hu,ru⟩:=rv.get hx
  obtain⟨f0,f1,f2,f3,f4,f5⟩:=hf it `H
  refine wpAny_pyNext_tuple_item st (show s.heap.IsTuple a its.toArray from p) (x:=u) (by simpa using hu) fun h' st' sb=>?_
  have I1:Inv X pins σ H {s with heap:=h'}:=I.turned (t':=s.toks) (fun b o hb e=>(sb.2 b hb).trans e) f0 f1 f3 f4 f5
  obtain⟨o,e,c,d⟩:=id st'
  exact⟨u,rfl,go_of (s:={s with heap:=h'}) e c d `B ⟨x,H,I1,ru,⟨rfl,fun ys hy=>by rw[I.GX hy hq];exact hx⟩,st',fun b hb=>(hf b hb).1⟩⟩
 done:=by
  intro X hP hw hK hc i pins s σ H E I hf st hg
  subst hP hw hK
  obtain⟨xs,hq,hx⟩:=hg
  obtain⟨its,rv,p,hz⟩:=I.tuple hq
  obtain⟨f0,f1,f2,f3,f4,f5⟩:=hf it `H
  have hl:=rv.length
  exact wpAny_pyNext_tuple_end (I.ok.hd hc) st (show s.heap.IsTuple a its.toArray from p) (by simp;lia) fun h' eb=>⟨rfl,I.turned (t':=s.toks) (fun b o hb e=>eb b o hb e) f0 f1 f3 f4 f5⟩
 self:=fun _ _ _ _ _ st h=>wpAny_pyIter_tupleiter st h
theorem abk{P:Program}{w:World}{K:W.Frag}{tg:Expr}(it:Addr)(lo:Int)(n:Nat):Turn P w K tg (Itr lo n) [it] it (fun i h=>IsRangeIter h it (lo+(i:Nat)*1) ((n:Int)-(i:Nat)) 1)where
 mem:=`H
 obj:=fun i h st b hb=>by
  have e:b=it:=by simpa using hb
  subst e
  exact⟨_,st,fun v z=>by
   have z':Data.fields _=Data.cell v:=z
   cases z'⟩
 keep:=fun i h h' st k=>k it `H _ st
 item:=by
  intro X hP hw hK hc i pins s σ H E I hf st hg
  subst hP hw hK
  obtain⟨f0,f1,f2,f3,f4,f5⟩:=hf it `H
  have W:=Walks.range (prog:=X.prog) (w:=X.w) (I.ok.hd hc) it lo 1 n
  refine W.item i s _ _ hg st fun v h' tk hv st' kk=>?_
  obtain⟨t,rfl⟩:=hv
  have I1:Inv X pins σ H {s with heap:=h',toks:=tk}:=I.turned (fun b o hb e=>kk b o (by simpa using hb) e) f0 f1 f3 f4 f5
  refine⟨_,rfl,go_of (s:={s with heap:=h',toks:=tk}) (n:="range_iterator") st' rfl rfl `B ⟨.int (lo+i),H,I1,⟨t,?_⟩,⟨rfl,rfl⟩,st',fun b hb=>(hf b hb).1⟩⟩
  rw[Int.mul_one]
 done:=by
  intro X hP hw hK hc i pins s σ H E I hf st hg
  subst hP hw hK
  obtain⟨f0,f1,f2,f3,f4,f5⟩:=hf it `H
  exact wpAny_pyNext_range_end (I.ok.hd hc) st (by have:n<=i:=hg;lia) fun h' eb=>⟨rfl,I.turned (t':=s.toks) (fun b o hb e=>eb b o hb e) f0 f1 f3 f4 f5⟩
 self:=fun _ _ _ _ _ st h=>wpAny_pyIter_rangeiter st h
section
variable{X:Cx}{tg:Expr}
def iList(K:W.Frag)(tl:TE):TI:=fun σ H R=>tl σ H fun x H1=>∃a,x=`G/\(∃xs,SqL K H1 a xs)/\R (Itl K a) H1
def aj3(K:W.Frag)(tl:TE):TI:=fun σ H R=>tl σ H fun x H1=>∃a,x=`G/\(∃xs,SqT K H1 a xs)/\R (Itt K a) H1
theorem pi_list{l:Expr}{tl:TE}(hl:PE X l tl):PI X tg l (iList X.K tl):=by
 intro pins s σ H R I h
 refine thn (hl pins s σ H _ I h) fun v s1⟨x,H1,I1,r1,q1⟩=>?_
 obtain⟨a,e,⟨xs,hq⟩,q⟩:=q1
 subst e
 cases r1
 obtain⟨its,rv,p,hz⟩:=I1.list hq
 refine wpAny_pyIter_list p.isList ?_
 refine⟨s1.heap.objs.size,[s1.heap.objs.size],_,_,H1,rfl,I1.kept (t':=s1.toks) fun b o e=>Heap.get?_push_of_some _ e,turn_list a _,⟨_,Heap.get?_push_size _ rfl,rfl,rfl⟩,fun b hb=>?_,q⟩
 have e:b=s1.heap.objs.size:=by simpa using hb
 subst e
 exact I1.fpOk `P (I1.hok.fresh `P)
theorem ajs{l:Expr}{tl:TE}(hl:PE X l tl):PI X tg l (aj3 X.K tl):=by
 intro pins s σ H R I h
 refine thn (hl pins s σ H _ I h) fun v s1⟨x,H1,I1,r1,q1⟩=>?_
 obtain⟨a,e,⟨xs,hq⟩,q⟩:=q1
 subst e
 cases r1
 obtain⟨its,rv,p,hz⟩:=I1.tuple hq
 refine wpAny_pyIter_tuple (show s1.heap.IsTuple a its.toArray from p) ?_
 refine⟨s1.heap.objs.size,[s1.heap.objs.size],_,_,H1,rfl,I1.kept (t':=s1.toks) fun b o e=>Heap.get?_push_of_some _ e,abj a _,⟨_,Heap.get?_push_size _ rfl,rfl,rfl⟩,fun b hb=>?_,q⟩
 have e:b=s1.heap.objs.size:=by simpa using hb
 subst e
 exact I1.fpOk `P (I1.hok.fresh `P)
theorem aft{pins:`Q}{σ:St}{H:Hp}{s:Shared}{R:It->`S}{E:`T}{lo hi:Int}{t u v:Tok}{tk:Nat}(I:`J)(h1:-(2^62)<=lo)(h2:lo<2^62)(h3:-(2^62)<=hi)(h4:hi<2^62)
  (q:R (Itr lo (hi-lo).toNat) H):wpAny `X X.A (pyIter (.ref s.heap.objs.size)) (PIE X pins σ tg R) E {s with heap:=s.heap.push {cls:=.type "range",data:=.fields #[.int lo t,.int hi u,.int 1 v]},toks:=tk}:=by
 refine wpAny_pyIter_range (IsRange.new ..) (small_one h1 h2 h3 h4) ?_
 have I1:Inv X pins σ H {s with heap:=s.heap.push {cls:=.type "range",data:=.fields #[.int lo t,.int hi u,.int 1 v]},toks:=tk}:=I.kept fun b o e=>Heap.get?_push_of_some _ e
 refine⟨(s.heap.push {cls:=.type "range",data:=.fields #[.int lo t,.int hi u,.int 1 v]}).objs.size,[(s.heap.push {cls:=.type "range",data:=.fields #[.int lo t,.int hi u,.int 1 v]}).objs.size],_,_,H,rfl,
  I1.kept (t':=tk) fun b o e=>Heap.get?_push_of_some _ e,abk _ lo (hi-lo).toNat,?_,fun b hb=>?_,q⟩
 ·have e1:lo+((0:Nat):Int)*1=lo:=`H
  have e2:(((hi-lo).toNat:Nat):Int)-((0:Nat):Int)=Builtin.Range.rangeSize lo hi 1:=by rw[rangeSize_one];split<;>lia
  show IsRangeIter _ _ (lo+((0:Nat):Int)*1) ((((hi-lo).toNat:Nat):Int)-((0:Nat):Int)) 1
  rw[e1,e2]
  exact Heap.get?_push_size _ rfl
 ·have e:b=(s.heap.push {cls:=.type "range",data:=.fields #[.int lo t,.int hi u,.int 1 v]}).objs.size:=by simpa using hb
  subst e
  exact I1.fpOk `P (I1.hok.fresh `P)
def ag5(ta:TA):TI:=fun σ H R=>ta σ H fun vs H1=>∃j:Int,vs=[.int j]/\-(2^62)<=j/\j<2^62/\R (Itr 0 j.toNat) H1
theorem aed{a:Expr}{ta:TA}{p pos:Pos}(hg:Gl X "range")(hm:X.mg "range"=none)(ha:PA X [a] ta)(hs:starEach [a] X.env=[(false,eval a X.env)]:=by rfl):PI X tg (.Call (.Name "range" p) [a] [] pos) (ag5 ta):=by
 intro pins s σ H R I h
 refine Call_ (ld_blt I hg hm boot_range (PyProof.Rows.callWith_type1 (thn (ha pos pins s σ H _ I h) fun us s1⟨vs,H1,I1,r1,q1⟩=>?_) hs rfl))
 obtain⟨j,e,q1,q2,q⟩:=q1
 subst e
 cases r1 with
 |cons r rr=>
  cases rr
  obtain⟨t,rfl⟩:=r
  exact call_range_1 (aft I1 `A `A q1 q2 (by simpa using q))
def tFor(wi:TI)(g:TG)(tb:TS):TS:=fun D σ H=>wi σ H fun J H1=>∃W:Nat->Nat->St->`S,(∃m,W 0 m σ H1)/\∀i m σ H,W i m σ H->
 (J.stop i H/\D.nx σ H)\/(J.go i H/\∃N:St->`S,(∀σ' H',N σ' H'->∃m',m'<m/\W (i+1) m' σ' H')/\∀x H',J.yld i H x H'->g x σ H' fun σ2 H2=>tb {D with nx:=N,ct:=N,bk:=D.nx} σ2 H2)
def pinsAt(fp:List Addr)(h:Heap):`Q:=fp.filterMap fun b=>(h.get? b).map fun o=>(b,o)
theorem mem_pinsAt{fp:List Addr}{h:Heap}{b:Addr}{o:Obj}(hb:b∈fp)(e:h.get? b=some o):(b,o)∈pinsAt fp h:=List.mem_filterMap.mpr ⟨b,hb,by rw[e];rfl⟩
theorem of_pinsAt{fp:List Addr}{h:Heap}{p:Addr×Obj}(hp:p∈pinsAt fp h):p.1∈fp/\h.get? p.1=some p.2:=by
 obtain⟨b,hb,e⟩:=List.mem_filterMap.mp hp
 cases q:h.get? b with
 |none=>rw[q]at e;cases e
 |some o=>
  rw[q]at e
  have e':(b,o)=p:=Option.some.inj e
  subst e'
  exact⟨hb,q⟩
theorem Inv.pinned{pins:`Q}{σ:St}{H:Hp}{s:Shared}{fp:List Addr}(I:`J)(hf:∀b∈fp,FpOk X pins H b)(ho:∀b∈fp,∃o,s.heap.get? b=some o/\∀v,o.data≠.cell v):Inv X (pins++pinsAt fp s.heap) σ H s:=
 I.pins_of fun p hp=>(List.mem_append.mp hp).elim (fun z=>I.pin p (List.mem_append_right _ z)) fun z=>by
  obtain⟨hb,e⟩:=of_pinsAt z
  obtain⟨f0,f1,f2,_⟩:=hf p.1 hb
  obtain⟨o,e',d⟩:=ho p.1 hb
  rw[e]at e';cases e'
  exact⟨e,f0,f1,f2,d⟩
theorem Inv.unpinned{pins pl:`Q}{σ:St}{H:Hp}{s:Shared}(I:Inv X (pins++pl) σ H s):`J:=I.pins_of fun p hp=>I.pin p (List.mem_append_right _ (List.mem_append_left _ hp))
theorem ps_for{iter:Expr}{body:List Stmt}{wi:TI}{g:TG}{tb:TS}{pos:Pos}(hp:PassesOwn `X X.A X.env X.xe)(hc:X.calm=true)(hi:PI X tg iter wi)(hg:PG X tg g)(hb:PSs X body tb)
  (hs:∀x,foldedSetIterable iter X.env x=pure x:=by intro _;rfl):PS X (.For tg iter body [] pos) (tFor wi g tb):=by
 intro pins s σ H D I h
 refine wpAny_For (thn (hi pins s σ H _ I h) fun v s1 h1=>thn h1 fun itv s2 h2=>?_) hs
 obtain⟨it,fp,tn,J,H2,e,I2,T,st2,f2,W,⟨m0,w0⟩,turn⟩:=h2
 subst e
 have stat:∀{H':Hp},(∀b∈fp,H' b=none)->∀b∈fp,FpOk X pins H' b:=fun hn b hb=>⟨hn b hb,(f2 b hb).2⟩
 refine codeAny_forLoop_any (fun n s'=>∃i σ' H',Inv X pins σ' H' s'/\tn i s'.heap/\(∀b∈fp,H' b=none)/\W i n σ' H') ?_ m0 ⟨0,σ,H2,I2,st2,fun b hb=>(f2 b hb).1,w0⟩
 rintro n s3⟨i,σ3,H3,I3,st3,fr3,w3⟩
 rcases turn i n σ3 H3 w3 with⟨stop,qn⟩|⟨go,N,hN,step⟩
 ·refine wpAny_passesOwn hp (thn (T.done X rfl rfl rfl hc i pins s3 σ3 H3 X.xe I3 (stat fr3) st3 stop) fun r s4⟨hr,I4⟩=>?_)
  subst hr
  exact wpAny_execs_nil ⟨σ3,H3,I4,qn⟩
 ·refine wpAny_passesOwn hp (thn (T.item X rfl rfl rfl hc i pins s3 σ3 H3 X.xe I3 (stat fr3) st3 go) fun r s4⟨u,hr,h4⟩=>?_)
  subst hr
  refine wpAny_passesOwn hp (thn h4 fun _ s5⟨x,H5,I5,r5,y5,st5,fr5⟩=>?_)
  have I5':=I5.pinned (stat fr5) (T.obj _ _ st5)
  refine wpAny_passesOwn hp (thn (hg _ s5 σ3 H5 x u _ I5' r5 (step x H5 y5)) fun _ s6⟨σ6,H6,I6,q6⟩=>?_)
  refine wpAny_passesOwn hp (thn (hb _ s6 σ6 H6 _ I6 q6) fun f s7 q7=>?_)
  have again:∀{σ7:St}{H7:Hp},Inv X (pins++pinsAt fp s5.heap) σ7 H7 s7->N σ7 H7->∃m,m<n/\∃i σ' H',Inv X pins σ' H' s7/\tn i s7.heap/\(∀b∈fp,H' b=none)/\W i m σ' H':=fun{σ7 H7}I7 n7=>by
   obtain⟨m',hm,w7⟩:=hN σ7 H7 n7
   refine⟨m',hm,i+1,σ7,H7,I7.unpinned,T.keep _ _ _ st5 fun b hb o e=>(I7.pin (b,o) (List.mem_append_right _ (List.mem_append_right _ (mem_pinsAt hb e)))).1,fun b hb=>?_,w7⟩
   obtain⟨o,e,d⟩:=T.obj _ _ st5 b hb
   exact(I7.pin (b,o) (List.mem_append_right _ (List.mem_append_right _ (mem_pinsAt hb e)))).2.1
  cases f with
  |next=>obtain⟨σ7,H7,I7,n7⟩:=q7;exact again I7 n7
  |cont=>obtain⟨σ7,H7,I7,n7⟩:=q7;exact again I7 n7
  |brk=>obtain⟨σ7,H7,I7,q7⟩:=q7;exact⟨σ7,H7,I7.unpinned,q7⟩
  |ret v=>obtain⟨x7,σ7,H7,I7,r7,q7⟩:=q7;exact⟨x7,σ7,H7,I7.unpinned,r7,q7⟩
end
theorem for_list{K:W.Frag}{a:Addr}{xs:`F}{g:TG}{tb:TS}{D:Ends}{σ:St}{H:Hp}(Pv:Nat->St->`S)(h0:Pv 0 σ H)(hl:∀i σ H,i<=xs.length->Pv i σ H->SqL K H a xs)
  (hs:∀i x σ H,xs[i]?=some x->Pv i σ H->g x σ H fun σ2 H2=>tb {D with nx:=Pv (i+1),ct:=Pv (i+1),bk:=D.nx} σ2 H2)(hd:∀σ H,Pv xs.length σ H->D.nx σ H):
  ∃W:Nat->Nat->St->`S,(∃m,W 0 m σ H)/\∀i m σ H,W i m σ H->
   ((Itl K a).stop i H/\D.nx σ H)\/((Itl K a).go i H/\∃N:St->`S,(∀σ' H',N σ' H'->∃m',m'<m/\W (i+1) m' σ' H')/\∀x H',(Itl K a).yld i H x H'->g x σ H' fun σ2 H2=>tb {D with nx:=N,ct:=N,bk:=D.nx} σ2 H2):=by
 refine⟨fun i m σ H=>m=xs.length-i/\i<=xs.length/\Pv i σ H,⟨xs.length,`H,`R,h0⟩,?_⟩
 rintro i m σ H⟨rfl,hi,p⟩
 have q:=hl i σ H hi p
 by_cases hlt:i<xs.length
 ·refine .inr ⟨⟨xs,xs[i],q,by simp[hlt]⟩,Pv (i+1),fun σ' H' p'=>⟨xs.length-(i+1),`A,rfl,hlt,p'⟩,fun x H' y=>?_⟩
  obtain⟨e,y⟩:=y
  subst e
  exact hs i x σ _ (y xs q) p
 ·have e:i=xs.length:=`A
  subst e
  exact .inl ⟨⟨xs,q,`P⟩,hd σ H p⟩
theorem aey{lo:Int}{n:Nat}{g:TG}{tb:TS}{D:Ends}{σ:St}{H:Hp}(Pv:Nat->St->`S)(h0:Pv 0 σ H)
  (hs:∀i σ H,i<n->Pv i σ H->g (.int (lo+i)) σ H fun σ2 H2=>tb {D with nx:=Pv (i+1),ct:=Pv (i+1),bk:=D.nx} σ2 H2)(hd:∀σ H,Pv n σ H->D.nx σ H):
  ∃W:Nat->Nat->St->`S,(∃m,W 0 m σ H)/\∀i m σ H,W i m σ H->
   ((Itr lo n).stop i H/\D.nx σ H)\/((Itr lo n).go i H/\∃N:St->`S,(∀σ' H',N σ' H'->∃m',m'<m/\W (i+1) m' σ' H')/\∀x H',(Itr lo n).yld i H x H'->g x σ H' fun σ2 H2=>tb {D with nx:=N,ct:=N,bk:=D.nx} σ2 H2):=by
 refine⟨fun i m σ H=>m=n-i/\i<=n/\Pv i σ H,⟨n,`H,`R,h0⟩,?_⟩
 rintro i m σ H⟨rfl,hi,p⟩
 by_cases hlt:i<n
 ·refine .inr ⟨hlt,Pv (i+1),fun σ' H' p'=>⟨n-(i+1),`A,rfl,hlt,p'⟩,fun x H' y=>?_⟩
  obtain⟨e,y⟩:=y
  subst e y
  exact hs i σ _ hlt p
 ·have e:i=n:=`A
  subst e
  exact .inl ⟨`P,hd σ H p⟩
abbrev R2:=V->V->Hp->VK->Prop
def OpR(X:Cx)(f:Value->Value->Sem Value)(r:R2):Prop:=
 ∀(pins:`Q)(s:Shared)(σ:St)(H:Hp)(x y:V)(v u:Value)(Q:VK),`J->RelV x v->RelV y u->r x y H Q->
  wpAny `X X.A (f v u) (EP X pins σ Q) X.xe s
def UnR(X:Cx)(f:Value->Sem Value)(r:V->Hp->VK->Prop):Prop:=
 ∀(pins:`Q)(s:Shared)(σ:St)(H:Hp)(x:V)(v:Value)(Q:VK),`J->RelV x v->r x H Q->
  wpAny `X X.A (f v) (EP X pins σ Q) X.xe s
def CallR(X:Cx)(f:Value)(r:`F->Hp->VK->Prop):Prop:=
 ∀(pins:`Q)(s:Shared)(σ:St)(H:Hp)(xs:`F)(us:`M)(Q:VK),`J->Vals xs us->r xs H Q->
  wpAny `X X.A (call f us) (EP X pins σ Q) X.xe s
def aq5(X:Cx)(r:V->Hp->(Bool->`S)->Prop):Prop:=
 ∀(pins:`Q)(s:Shared)(σ:St)(H:Hp)(x:V)(v:Value)(Q:Bool->`S),`J->RelV x v->r x H Q->
  wpAny `X X.A (truthy v) (TP X pins σ Q) X.xe s
def tOp(r:R2)(ta tb:TE):TE:=fun σ H Q=>ta σ H fun x H1=>tb σ H1 fun y H2=>r x y H2 Q
def tUn(r:V->Hp->VK->Prop)(ta:TE):TE:=fun σ H Q=>ta σ H fun x H1=>r x H1 Q
def rI(C:Int->Int->Prop)(g:Int->Int->V):R2:=fun x y H Q=>∃i j,x=.int i/\y=.int j/\C i j/\Q (g i j) H
def rI0(g:Int->Int->V):R2:=fun x y H Q=>∃i j,x=.int i/\y=.int j/\Q (g i j) H
def rU(g:Int->V):V->Hp->VK->Prop:=fun x H Q=>∃i,x=.int i/\Q (g i) H
section
variable{X:Cx}{a b c:Expr}{ta tb tc:TE}{pos:Pos}
theorem binT(ha:PE X a ta)(hb:PE X b tb){pins:`Q}{s:Shared}{σ:St}{H:Hp}{R:V->V->`S}(I:`J)
  (h:ta σ H fun x H1=>tb σ H1 fun y H2=>R x y H2){Q:`T}{f:Value->Value->Sem Value}
  (hf:∀v u s2 x y H2,Inv X pins σ H2 s2->RelV x v->RelV y u->R x y H2->wpAny `X X.A (f v u) Q X.xe s2):
  wpAny `X X.A (eval a X.env) (fun v s₁=>wpAny `X X.A (eval b X.env) (fun u s₂=>wpAny `X X.A (f v u) Q X.xe s₂) X.xe s₁) X.xe s:=by
 refine thn (ha pins s σ H _ I h) fun v s1⟨x,H1,I1,r1,q1⟩=>?_
 refine thn (hb pins s1 σ H1 _ I1 q1) fun u s2⟨y,H2,I2,r2,q2⟩=>?_
 exact hf v u s2 x y H2 I2 r1 r2 q2
theorem pe_op{op:Operator}{r:R2}(ho:OpR X (binaryOp op) r)(ha:PE X a ta)(hb:PE X b tb):PE X (.BinOp a op b pos) (tOp r ta tb):=by
 intro pins s σ H Q I h
 exact wpAny_BinOp (binT ha hb I h fun v u s2 x y H2 I2 rx ry q=>ho pins s2 σ H2 x y v u Q I2 rx ry q)
theorem ag2{op:UnaryOp}{r:V->Hp->VK->Prop}(ho:UnR X (unaryOp op) r)(ha:PE X a ta):PE X (.UnaryOp op a pos) (tUn r ta):=by
 intro pins s σ H Q I h
 exact UnaryOp_ (thn (ha pins s σ H _ I h) fun v s1⟨x,H1,I1,r1,q1⟩=>ho pins s1 σ H1 x v Q I1 r1 q1)
theorem opI{f:Value->Value->Sem Value}{C:Int->Int->Prop}{g:Int->Int->Int}
  (rule:∀(i j:Int)(t u:Tok)(s:Shared)(Q:`T)(E:`T),C i j->Q (.int (g i j) s.toks) {s with toks:=s.toks+1}->wpAny `X X.A (f (.int i t) (.int j u)) Q E s):
  OpR X f (rI C fun i j=>.int (g i j)):=by
 intro pins s σ H x y v u Q I rx ry h
 obtain⟨i,j,rfl,rfl,hc,q⟩:=h
 obtain⟨t,rfl⟩:=rx
 obtain⟨t',rfl⟩:=ry
 exact rule i j t t' s _ _ hc ⟨.int (g i j),H,I.tok _,⟨_,rfl⟩,q⟩
theorem opI0{f:Value->Value->Sem Value}{g:Int->Int->Int}
  (rule:∀(i j:Int)(t u:Tok)(s:Shared)(Q:`T)(E:`T),Q (.int (g i j) s.toks) {s with toks:=s.toks+1}->wpAny `X X.A (f (.int i t) (.int j u)) Q E s):
  OpR X f (rI0 fun i j=>.int (g i j)):=by
 intro pins s σ H x y v u Q I rx ry h
 obtain⟨i,j,rfl,rfl,q⟩:=h
 obtain⟨t,rfl⟩:=rx
 obtain⟨t',rfl⟩:=ry
 exact rule i j t t' s _ _ ⟨.int (g i j),H,I.tok _,⟨_,rfl⟩,q⟩
theorem opB0{f:Value->Value->Sem Value}{g:Int->Int->Bool}
  (rule:∀(i j:Int)(t u:Tok)(s:Shared)(Q:`T)(E:`T),Q (.bool (g i j)) s->wpAny `X X.A (f (.int i t) (.int j u)) Q E s):
  OpR X f (rI0 fun i j=>.bl (g i j)):=by
 intro pins s σ H x y v u Q I rx ry h
 obtain⟨i,j,rfl,rfl,q⟩:=h
 obtain⟨t,rfl⟩:=rx
 obtain⟨t',rfl⟩:=ry
 exact rule i j t t' s _ _ ⟨.bl (g i j),H,I,rfl,q⟩
def CDiv(i j:Int):Prop:=0<j/\j<1073741824
def CMul(i j:Int):Prop:=(-(2^64)<i/\i<2^64)\/(-(2^64)<j/\j<2^64)
theorem CMul.ok{i j:Int}(h:CMul i j):IntMulOk i j:=by
 rcases h with⟨h1,h2⟩|⟨h1,h2⟩
 ·exact .of_left (intBits_le_64 h1 h2)
 ·exact .of_right (intBits_le_64 h1 h2)
theorem op_add:OpR X (binaryOp .Add) (rI0 fun i j=>.int (i+j)):=opI0 fun _ _ _ _ _ _ _ q=>add_int q
theorem op_sub:OpR X (binaryOp .Sub) (rI0 fun i j=>.int (i-j)):=opI0 fun _ _ _ _ _ _ _ q=>sub_int q
theorem Hv:OpR X (binaryOp .Mult) (rI CMul fun i j=>.int (i*j)):=opI fun _ _ _ _ _ _ _ hc q=>mul_int q hc.ok
theorem op_fdiv:OpR X (binaryOp .FloorDiv) (rI CDiv fun i j=>.int (i/j)):=opI fun i j _ _ _ _ _ hc q=>by
 have h1:(0:Int)<j:=hc.1
 have h2:j<1073741824:=hc.2
 exact floordiv_int `A (by rw[Int.fdiv_eq_ediv_of_nonneg i `A];exact q) (.inl (PyProof.noPylong_small `A))
theorem op_mod:OpR X (binaryOp .Mod) (rI (fun _ j=>0<j) fun i j=>.int (i%j)):=opI fun i j _ _ _ _ _ hc q=>by
 have h1:(0:Int)<j:=hc
 exact mod_int' `A (by rw[Int.fmod_eq_emod_of_nonneg i `A];exact q)
theorem unI{f:Value->Sem Value}{g:Int->Int}
  (rule:∀(i:Int)(t:Tok)(s:Shared)(Q:`T)(E:`T),Q (.int (g i) s.toks) {s with toks:=s.toks+1}->wpAny `X X.A (f (.int i t)) Q E s):
  UnR X f (rU fun i=>.int (g i)):=by
 intro pins s σ H x v Q I rx h
 obtain⟨i,rfl,q⟩:=h
 obtain⟨t,rfl⟩:=rx
 exact rule i t s _ _ ⟨.int (g i),H,I.tok _,⟨_,rfl⟩,q⟩
theorem lF:UnR X (unaryOp .USub) (rU fun i=>.int (-i)):=unI fun _ _ _ _ _ q=>neg_int q
end
def scal:V->V->Bool
 | .non,.non=>true| .non,.int _=>true| .int _,.non=>true| .non,.bl _=>true| .bl _,.non=>true| .non,.str _=>true| .str _,.non=>true
 | .int _,.int _=>true| .bl _,.bl _=>true| .str _,.str _=>true| .byt _,.byt _=>true
 | .int _,.str _=>true| .str _,.int _=>true| .bl _,.str _=>true| .str _,.bl _=>true
 |_,_=>false
def rEq:R2:=fun x y H Q=>scal x y=true/\Q (.bl (decide (x=y))) H
def rNe:R2:=fun x y H Q=>scal x y=true/\Q (.bl (!decide (x=y))) H
theorem dec_int{i j:Int}:decide (V.int i=V.int j)=(i==j):=by
 rw[Bool.eq_iff_iff]
 simp
theorem dec_bl{i j:Bool}:decide (V.bl i=V.bl j)=(i==j):=by
 rw[Bool.eq_iff_iff]
 simp
theorem dec_str{i j:Str}:decide (V.str i=V.str j)=(i==j):=by
 rw[Bool.eq_iff_iff]
 simp
theorem dec_byt{i j:Array UInt8}:decide (V.byt i=V.byt j)=(i.toList==j.toList):=by
 rw[Bool.eq_iff_iff]
 cases i
 cases j
 simp
section
variable{X:Cx}{a b c:Expr}{ta tb tc:TE}{pos:Pos}
theorem fin_bl{pins:`Q}{σ:St}{H:Hp}{s:Shared}{Q:VK}{k k':Bool}(I:`J)(q:Q (.bl k) H)(e:k=k'):EP X pins σ Q (.bool k') s:=by
 subst e
 exact⟨.bl k,H,I,rfl,q⟩
theorem op_eq:OpR X (compareOp .Eq) rEq:=by
 intro pins s σ H x y v u Q I rx ry h
 obtain⟨hs,q⟩:=h
 cases x with
 |non=>
  cases rx
  cases y with
  |non=>cases ry;exact PySem.EqNone.eq_none_none (fin_bl I q `H)
  |bl j=>cases ry;exact PySem.EqNone.eq_none_bool (fin_bl I q `H)
  |int j=>obtain⟨t',rfl⟩:=ry;exact PySem.EqNone.eq_none_int (fin_bl I q `H)
  |str j=>obtain⟨t',rfl⟩:=ry;exact PySem.EqNone.eq_none_str (fin_bl I q `H)
  |_=>exact absurd (show false=true from hs) Bool.false_ne_true
 |bl i=>
  cases rx
  cases y with
  |non=>cases ry;exact PySem.EqNone.eq_bool_none (fin_bl I q `H)
  |bl j=>cases ry;exact eq_bool (fin_bl I q dec_bl)
  |str j=>obtain⟨t',rfl⟩:=ry;exact PySem.EqMixed.eq_bool_str (fin_bl I q `H)
  |_=>exact absurd (show false=true from hs) Bool.false_ne_true
 |int i=>
  obtain⟨t,rfl⟩:=rx
  cases y with
  |non=>cases ry;exact PySem.EqNone.eq_int_none (fin_bl I q `H)
  |int j=>obtain⟨t',rfl⟩:=ry;exact eq_int (fin_bl I q dec_int)
  |str j=>obtain⟨t',rfl⟩:=ry;exact PySem.EqMixed.eq_int_str (fin_bl I q `H)
  |_=>exact absurd (show false=true from hs) Bool.false_ne_true
 |str i=>
  obtain⟨t,rfl⟩:=rx
  cases y with
  |non=>cases ry;exact PySem.EqNone.eq_str_none (fin_bl I q `H)
  |bl j=>cases ry;exact PySem.EqMixed.eq_str_bool (fin_bl I q `H)
  |int j=>obtain⟨t',rfl⟩:=ry;exact PySem.EqMixed.eq_str_int (fin_bl I q `H)
  |str j=>obtain⟨t',rfl⟩:=ry;exact eq_str (fin_bl I q dec_str)
  |_=>exact absurd (show false=true from hs) Bool.false_ne_true
 |byt i=>
  obtain⟨t,rfl⟩:=rx
  cases y with
  |byt j=>obtain⟨t',rfl⟩:=ry;exact W.eq_bytes (fin_bl I q dec_byt)
  |_=>exact absurd (show false=true from hs) Bool.false_ne_true
 |_=>cases y<;>exact absurd (show false=true from hs) Bool.false_ne_true
theorem op_ne:OpR X (compareOp .NotEq) rNe:=by
 intro pins s σ H x y v u Q I rx ry h
 obtain⟨hs,q⟩:=h
 cases x with
 |non=>
  cases rx
  cases y with
  |non=>cases ry;exact PySem.EqNone.ne_none_none (fin_bl I q `H)
  |bl j=>cases ry;exact PySem.EqNone.ne_none_bool (fin_bl I q `H)
  |int j=>obtain⟨t',rfl⟩:=ry;exact PySem.EqNone.ne_none_int (fin_bl I q `H)
  |str j=>obtain⟨t',rfl⟩:=ry;exact PySem.EqNone.ne_none_str (fin_bl I q `H)
  |_=>exact absurd (show false=true from hs) Bool.false_ne_true
 |bl i=>
  cases rx
  cases y with
  |non=>cases ry;exact PySem.EqNone.ne_bool_none (fin_bl I q `H)
  |bl j=>cases ry;exact ne_bool (fin_bl I q (congrArg not dec_bl))
  |str j=>obtain⟨t',rfl⟩:=ry;exact PySem.EqMixed.ne_bool_str (fin_bl I q `H)
  |_=>exact absurd (show false=true from hs) Bool.false_ne_true
 |int i=>
  obtain⟨t,rfl⟩:=rx
  cases y with
  |non=>cases ry;exact PySem.EqNone.ne_int_none (fin_bl I q `H)
  |int j=>obtain⟨t',rfl⟩:=ry;exact ne_int (fin_bl I q (congrArg not dec_int))
  |str j=>obtain⟨t',rfl⟩:=ry;exact PySem.EqMixed.ne_int_str (fin_bl I q `H)
  |_=>exact absurd (show false=true from hs) Bool.false_ne_true
 |str i=>
  obtain⟨t,rfl⟩:=rx
  cases y with
  |non=>cases ry;exact PySem.EqNone.ne_str_none (fin_bl I q `H)
  |bl j=>cases ry;exact PySem.EqMixed.ne_str_bool (fin_bl I q `H)
  |int j=>obtain⟨t',rfl⟩:=ry;exact PySem.EqMixed.ne_str_int (fin_bl I q `H)
  |str j=>obtain⟨t',rfl⟩:=ry;exact ne_str (fin_bl I q (congrArg not dec_str))
  |_=>exact absurd (show false=true from hs) Bool.false_ne_true
 |byt i=>
  obtain⟨t,rfl⟩:=rx
  cases y with
  |byt j=>obtain⟨t',rfl⟩:=ry;exact W.ne_bytes (fin_bl I q (congrArg not dec_byt))
  |_=>exact absurd (show false=true from hs) Bool.false_ne_true
 |_=>cases y<;>exact absurd (show false=true from hs) Bool.false_ne_true
theorem Vj:OpR X (compareOp .Lt) (rI0 fun i j=>.bl (decide (i<j))):=opB0 fun _ _ _ _ _ _ _ q=>lt_int q
theorem alM:OpR X (compareOp .LtE) (rI0 fun i j=>.bl (decide (i<=j))):=opB0 fun _ _ _ _ _ _ _ q=>le_int q
theorem JC:OpR X (compareOp .Gt) (rI0 fun i j=>.bl (decide (j<i))):=opB0 fun _ _ _ _ _ _ _ q=>gt_int q
theorem Ow:OpR X (compareOp .Is) (fun x y H Q=>y=.non/\Q (.bl (decide (x=.non))) H):=by
 intro pins s σ H x y v u Q I rx ry h
 obtain⟨rfl,q⟩:=h
 cases ry
 refine is_none_gen (fin_bl I q ?_)
 cases x<;>first
  |(cases rx;rfl)
  |(obtain⟨t,rfl⟩:=rx;rfl)
theorem ahZ:OpR X (compareOp .IsNot) (fun x y H Q=>y=.non/\Q (.bl (!decide (x=.non))) H):=by
 intro pins s σ H x y v u Q I rx ry h
 obtain⟨rfl,q⟩:=h
 cases ry
 refine isnot_none_gen (fin_bl I q ?_)
 cases x<;>first
  |(cases rx;rfl)
  |(obtain⟨t,rfl⟩:=rx;rfl)
theorem nomark(b:Expr){op:CmpOp}(h:op≠.In:=by decide)(h2:op≠.NotIn:=by decide):behindInMarks op b=false:=by
 have e1:(op==CmpOp.In)=false:=by cases op<;>first|rfl|exact absurd rfl h
 have e2:(op==CmpOp.NotIn)=false:=by cases op<;>first|rfl|exact absurd rfl h2
 cases b<;>simp[behindInMarks,e1,e2]
theorem pe_cmpR{op:CmpOp}{r:R2}(ho:OpR X (compareOp op) r)(ha:PE X a ta)(hb:PE X b tb)(hm:behindInMarks op b=false):PE X (.Compare a [op] [b] pos) (tOp r ta tb):=by
 intro pins s σ H Q I h
 exact wpAny_Compare1 (binT ha hb I h fun v u s2 x y H2 I2 rx ry q=>ho pins s2 σ H2 x y v u Q I2 rx ry q) hm
def tTest(t:TE):TT:=fun σ H Q=>t σ H fun x H'=>∃k,x=.bl k/\Q k H'
theorem pt_cmpR{op:CmpOp}{r:R2}(ho:OpR X (compareOp op) r)(ha:PE X a ta)(hb:PE X b tb)(hm:behindInMarks op b=false):PT X (.Compare a [op] [b] pos) (tTest (tOp r ta tb)):=by
 intro pins s σ H Q I h
 refine wpAny_isTrue_Compare1 (thn (ha pins s σ H _ I h) fun v s1⟨x,H1,I1,r1,q1⟩=>thn (hb pins s1 σ H1 _ I1 q1) fun u s2⟨y,H2,I2,r2,q2⟩=>
  thn (ho pins s2 σ H2 x y v u _ I2 r1 r2 q2) fun c s3⟨z,H3,I3,r3,k,e,q3⟩=>?_) hm
 subst e
 cases r3
 exact wpAny_truthy_bool ⟨H3,I3,q3⟩
def YF(K:W.Frag)(x:V)(H:Hp)(k:Bool):Prop:=
 match x with
 | .non=>k=false
 | .bl b=>k=b
 | .int i=>k=(i !=0)
 | .str y=>y.length<=sizeLine/\k=((y.length:Int)!=0)
 | .byt y=>y.size<=sizeLine/\k=((y.size:Int)!=0)
 | .ref p=>(∃xs,SqL K H p xs/\k=!xs.isEmpty)\/(∃xs,SqT K H p xs/\k=!xs.isEmpty)\/∃kvs,H p=some (.dK kvs)/\k=!kvs.isEmpty
 |_=>False
theorem ab1{κ:Type}{kvs:List (κ×V)}{vs:List (κ×Value)}(r:KV kvs vs):(!vs.isEmpty)=!kvs.isEmpty:=by
 cases r<;>rfl
theorem Pn{xs:`F}{its:`M}(r:Vals xs its):(!its.toArray.isEmpty)=!xs.isEmpty:=by
 cases r<;>simp
theorem line63:(sizeLine:Nat)<2^63:=by rw[sizeLine_eq];decide
theorem adk:aq5 X (fun x H Q=>∃k,YF X.K x H k/\Q k H):=by
 intro pins s σ H x v Q I rx h
 obtain⟨k,e,q⟩:=h
 have hl:=line63
 have hs:sizeLine=16777216:=sizeLine_eq
 cases x with
 |non=>
  cases rx
  have e':k=false:=e
  subst e'
  exact truthy_none ⟨H,I,q⟩
 |bl b=>
  cases rx
  have e':k=b:=e
  subst e'
  exact wpAny_truthy_bool ⟨H,I,q⟩
 |int i=>
  obtain⟨t,rfl⟩:=rx
  have e':k=(i !=0):=e
  subst e'
  exact PySem.P.truthy_int ⟨H,I,q⟩
 |str y=>
  obtain⟨t,rfl⟩:=rx
  obtain⟨hy,e'⟩:y.length<=sizeLine/\k=((y.length:Int)!=0):=e
  subst e'
  exact PySem.P.truthy_str `A ⟨H,I.tok _,q⟩
 |byt y=>
  obtain⟨t,rfl⟩:=rx
  obtain⟨hy,e'⟩:y.size<=sizeLine/\k=((y.size:Int)!=0):=e
  subst e'
  exact W.truthy_bytes `A ⟨H,I.tok _,q⟩
 |ref p=>
  cases rx
  have e':(∃xs,SqL X.K H p xs/\k=!xs.isEmpty)\/(∃xs,SqT X.K H p xs/\k=!xs.isEmpty)\/∃kvs,H p=some (.dK kvs)/\k=!kvs.isEmpty:=e
  rcases e' with⟨xs,hx,e'⟩|⟨xs,hx,e'⟩|⟨kvs,hx,e'⟩
  ·subst e'
   obtain⟨its,r,pl,hz⟩:=I.list hx
   have hlen:=r.length
   exact wpAny_truthy_list pl.isList (by simp only[List.size_toArray];lia) ⟨H,I.tok _,by rw[Pn r];exact q⟩
  ·subst e'
   obtain⟨its,r,pl,hz⟩:=I.tuple hx
   have hlen:=r.length
   exact truthy_tuple pl (by simp only[List.size_toArray];lia) ⟨H,I.tok _,by rw[Pn r];exact q⟩
  ·subst e'
   obtain⟨hz,hS,vs,r,m⟩:kvs.length<=sizeLine/\(p==sysModules)=false/\∃vs,KV kvs vs/\s.heap.DictOf (mixKind X.prog X.w) p vs:=I.hok p _ hx
   have hlen:kvs.length=vs.length:=Paired.length r
   exact wpAny_truthy_dict hS m `A ⟨H,I.tok _,by rw[ab1 r];exact q⟩
 |_=>exact(show False from e).elim
theorem Wo(ha:PE X a ta)(he:∀whole,isTrue a X.env whole=(do let v<-whole;standAt a.pos;holding [v] (truthy v))):
  PT X a (fun σ H Q=>ta σ H fun x H'=>∃k,YF X.K x H' k/\Q k H'):=by
 intro pins s σ H Q I h
 exact isTrue_plain (thn (ha pins s σ H _ I h) fun v s1⟨x,H1,I1,r1,q1⟩=>adk pins s1 σ H1 x v Q I1 r1 q1) (he _)
theorem cJ:OpR X (binaryOp .Add) (fun x y H Q=>∃i j,x=.str i/\y=.str j/\i.length+j.length<=sizeLine/\Q (.str (i++j)) H):=by
 intro pins s σ H x y v u Q I rx ry h
 obtain⟨i,j,rfl,rfl,hz,q⟩:=h
 obtain⟨t,rfl⟩:=rx
 obtain⟨t',rfl⟩:=ry
 exact add_str (fun t' tk=>⟨.str (i++j),H,I.tok _,⟨_,rfl⟩,q⟩) hz
theorem vals1{x:V}{us:`M}(r:Vals [x] us):∃u,us=[u]/\RelV x u:=by
 cases r with
 |cons r1 r2=>cases r2;exact⟨_,rfl,r1⟩
theorem vals2{x y:V}{us:`M}(r:Vals [x,y] us):∃u w',us=[u,w']/\RelV x u/\RelV y w':=by
 cases r with
 |cons r1 r2=>
  cases r2 with
  |cons r3 r4=>cases r4;exact⟨_,_,rfl,r1,r3⟩
theorem aeK(hc:X.calm=true):CallR X (.builtin "min") (fun xs H Q=>∃i j,xs=[.int i,.int j]/\Q (.int (if j<i then j else i)) H):=by
 intro pins s σ H xs us Q I r h
 obtain⟨i,j,rfl,q⟩:=h
 obtain⟨u,w',rfl,⟨t,rfl⟩,⟨t',rfl⟩⟩:=vals2 r
 refine min_two_ints (I.ok.hd hc) fun h' tk k=>⟨_,H,I.kept k,?_,q⟩
 by_cases hj:j<i
 ·rw[if_pos hj,if_pos hj];exact⟨_,rfl⟩
 ·rw[if_neg hj,if_neg hj];exact⟨_,rfl⟩
theorem Iz:CallR X (.type "str") (fun xs H Q=>∃i,xs=[.int i]/\i.natAbs.log2<1920/\Q (.str (toString i)) H):=by
 intro pins s σ H xs us Q I r h
 obtain⟨i,rfl,hz,q⟩:=h
 obtain⟨u,rfl,t,rfl⟩:=vals1 r
 exact PySem.P.str_of_int hz ⟨.str _,H,I.tok _,⟨_,rfl⟩,q⟩
end
structure ObjM(h:Heap)(x dx C:Addr)(mA:`U):Prop where
 obj:h.get? x=some (W.instObj C dx)
 ns:h.Ns1 dx mA
 ne:dx≠x
theorem lookIn_ns{h:Heap}{dx:Addr}{mA:`U}(n:h.Ns1 dx mA):∃od,h.get? dx=some od/\∀name,W.lookIn name od=some (mA name):=by
 obtain⟨o,es,ep,ho,hd,hk,_,hm⟩:=n
 refine⟨o,ho,fun name=>?_⟩
 have e:=hm name
 unfold nsFind findBy at e
 rw[<-Array.find?_toList]at e
 unfold W.lookIn
 rw[hd]
 dsimp only
 split
 ·rename_i y q
  rw[q]at e
  exact congrArg some e
 ·rename_i q
  rw[q]at e
  have a:es.toList.any (·.refKey)=false:=by
   rw[List.any_eq_false]
   intro y hy
   obtain⟨z,t,hkey⟩:=hk y (Array.mem_toList_iff.mp hy)
   simp[DictEntry.refKey,hkey]
  have a':¬es.toList.any (·.refKey)=true:=by rw[a];exact Bool.false_ne_true
  rw[if_neg a']
  exact congrArg some e
theorem ObjM.look{h:Heap}{x dx C:Addr}{mA:`U}(I:ObjM h x dx C mA):∃od,W.InstAt h x (W.instObj C dx) C (some od)/\∀name,W.lookIn name od=some (mA name):=
 let⟨od,ho,hl⟩:=lookIn_ns I.ns
 ⟨od,⟨I.obj,rfl,rfl,ho⟩,hl⟩
section
variable{prog:Program}{w:World}{A:Around}{E:`T}{s:Shared}{K:W.Frag}{x dx C f:Addr}{mA:`U}{name:Str}{v:Value}
theorem get_map{expr:Bool}{Q:`T}(X:K.In s.heap)(I:ObjM s.heap x dx C mA)(hg:W.plainGet K C name=true)(hh:W.hasDictIn K C=true)
  (ha:W.findIn K (.ref C) name=some none)(hv:mA name=some v)(hv':W.handedIn v=true)(h:Q v {s with toks:=s.toks+1}):
  wpAny `a A (getAttr (.ref x) name expr) Q E s:=by
 obtain⟨od,J,hl⟩:=I.look
 exact W.get_value X J (W.plainGet_of hg).1 (W.findObj_own hh ha rfl (by rw[hl,hv])) hv' h
theorem get_meth{pl:Sem Bool}{Q:Value×`M->Shared->Prop}(X:K.In s.heap)(I:ObjM s.heap x dx C mA)(hg:W.plainGet K C name=true)
  (hf:W.findIn K (.ref C) name=some (some (.ref f)))(ht:W.isFn K (.ref f)=true)(hv:mA name=none)(h:Q (.ref f,[.ref x]) s):
  wpAny `a A (getMethod (.ref x) name pl) Q E s:=by
 obtain⟨od,J,hl⟩:=I.look
 exact W.method_fn X J (W.plainGet_of hg).1 (W.plainGet_of hg).2 hf (beq_iff_eq.mp ht) (by show(W.lookIn name od).map (·.isSome)=some false;rw[hl,hv];rfl) h
theorem set_map{ns:List Str}{Q:Unit->Shared->Prop}(X:K.In s.heap)(I:ObjM s.heap x dx C mA)
  (hs:W.findIn K (.ref C) "__setattr__"=some (some (.builtin "object.__setattr__")))(hp:W.plainOver K C=true)(ht:W.takerIn K C name=some none)(hh:W.hasDictIn K C=true)
  (hw:PySem.Within mA ns)(hsz:ns.length<=sizeLine)
  (h:∀h',ObjM h' x dx C (fun y=>if y=name then some v else mA y)->Heap.SameBut dx s.heap h'->Q () {s with heap:=h',toks:=s.toks+2}):
  wpAny `a A (setAttr (.ref x) name v) Q E s:=by
 obtain⟨od,J,hl⟩:=I.look
 refine W.set_plain X J hs (W.osa_open (s:={s with toks:=s.toks+1}) (r:=none) X J hp ht fun b=>?_)
 obtain⟨cd,hc,hd'⟩:=W.any_some hh
 have hx:s.heap.get? x=some ⟨.ref C,some dx,.plain,#[]⟩:=I.obj
 refine wpAny_bind (wpAny_pure (wpAny_bind (wpAny_bind (wpAny_loadPart hx (wpAny_bind (W.Looks.here (s:={s with toks:=s.toks+1}) (W.looks_clsIn X hc) ?_))))))
 rw[hd']
 refine wpAny_pure (a:=some dx) (wpAny_bind (wpAny_pure (wpAny_bind ?_)))
 refine wpAny_nsSet1 (s:={s with toks:=s.toks+1}) I.ns fun h' hn2 hs2=>?_
 obtain⟨oD,esD,epD,hoD,hdD,hcD⟩:=hn2.count (PySem.Within.cons name v hw)
 refine wpAny_bind (wpAny_lookBehind hoD (by rw[hdD];exact pastItsLine_dict (Nat.le_trans hcD (by rw[List.length_cons];lia))) ?_)
 exact wpAny_pure (h _ ⟨(hs2.2 _ (Ne.symm I.ne)).trans I.obj,hn2,I.ne⟩ hs2)
theorem make_map{R:Result->Shared->Prop}{vs:`M}{kw:List (Str×Value)}(X:K.In s.heap)(hm:W.makesIn K C=true)
  (hi:W.findIn K (.ref C) "__init__"=some (some (.ref f)))(hf:W.typeIn K (.ref f)=some (.type "function"))
  (h:codeAny `a (A.under (.builtin "type.__call__" ⟨.ref C::vs,kw⟩)) (.call (.ref f) ⟨.ref (s.heap.objs.size+1)::vs,kw⟩) (W.InitBack (s.heap.objs.size+1) R)
   {s with heap:=(s.heap.push W.emptyDict).push (W.instObj C s.heap.objs.size)}):
  codeAny `a A (.call (.ref C) ⟨vs,kw⟩) R s:=by
 obtain⟨hh,g,d,t,os⟩:=s
 exact W.make_core (W.makes_of X hm) (W.looks_findIn X hi) (fun self=>W.bind_fn X self hf) (.inl rfl) h
end
def putF(f:Str)(v:V):`c->`c
 |[]=>[(f,v)]
 |(g,x)::r=>if g=f then(g,v)::r else(g,x)::putF f v r
theorem lookup_putF(f g:Str)(v:V):∀fs:`c,(putF f v fs).lookup g=if g=f then some v else fs.lookup g
 |[]=>by
  show List.lookup g [(f,v)]=_
  by_cases h:g=f
  ·have hb:(g==f)=true:=beq_iff_eq.mpr h
   simp only[List.lookup,hb,if_pos h]
  ·have hb:(g==f)=false:=beq_eq_false_iff_ne.mpr h
   simp only[List.lookup,hb,if_neg h]
 |(k,x)::r=>by
  have ih:=lookup_putF f g v r
  rw[show putF f v ((k,x)::r)=(if k=f then(k,v)::r else(k,x)::putF f v r)from rfl]
  by_cases hk:k=f
  ·rw[if_pos hk]
   by_cases h:g=k
   ·have hb:(g==k)=true:=beq_iff_eq.mpr h
    simp only[List.lookup,hb,if_pos (h.trans hk)]
   ·have hb:(g==k)=false:=beq_eq_false_iff_ne.mpr h
    simp only[List.lookup,hb,if_neg (fun e:g=f=>h (e.trans hk.symm))]
  ·rw[if_neg hk]
   by_cases h:g=k
   ·have hb:(g==k)=true:=beq_iff_eq.mpr h
    simp only[List.lookup,hb,if_neg (fun e:g=f=>hk (h.symm.trans e))]
   ·have hb:(g==k)=false:=beq_eq_false_iff_ne.mpr h
    simp only[List.lookup,hb]
    exact ih
theorem keys_putF(f:Str)(v:V):∀fs:`c,f∈(putF f v fs).map (·.1)/\∀g,g∈fs.map (·.1)->g∈(putF f v fs).map (·.1)
 |[]=>⟨by simp[putF],fun g h=>by simp at h⟩
 |(k,x)::r=>by
  obtain⟨i1,i2⟩:=keys_putF f v r
  rw[show putF f v ((k,x)::r)=(if k=f then(k,v)::r else(k,x)::putF f v r)from rfl]
  by_cases hk:k=f
  ·rw[if_pos hk]
   subst hk
   exact⟨`H,fun g h=>by simpa using h⟩
  ·rw[if_neg hk]
   refine⟨?_,fun g h=>?_⟩
   ·rw[List.map_cons]
    exact List.mem_cons_of_mem _ i1
   ·rw[List.map_cons]at h|-
    rcases List.mem_cons.mp h with e|e
    ·exact List.mem_cons.mpr (.inl e)
    ·exact List.mem_cons_of_mem _ (i2 g e)
theorem length_putF(f:Str)(v:V):∀fs:`c,(putF f v fs).length<=fs.length+1
 |[]=>by simp[putF]
 |(k,x)::r=>by
  have ih:=length_putF f v r
  rw[show putF f v ((k,x)::r)=(if k=f then(k,v)::r else(k,x)::putF f v r)from rfl]
  by_cases hk:k=f
  ·rw[if_pos hk,List.length_cons,List.length_cons];lia
  ·rw[if_neg hk,List.length_cons,List.length_cons];lia
theorem RelO.some_of{v:V}{o:Option Value}(r:RelO (some v) o):∃u,o=some u/\RelV v u:=by
 cases o with
 |none=>exact(show False from r).elim
 |some u=>exact⟨u,rfl,r⟩
theorem RelO.none_of{o:Option Value}(r:RelO none o):o=none:=by
 cases o with
 |none=>rfl
 |some u=>exact(show False from r).elim
theorem handed_of{v:V}{u:Value}(r:RelV v u):W.handedIn u=true:=by
 cases v with
 |non=>cases(show u=Value.none from r);rfl
 |bl b=>cases(show u=Value.bool b from r);rfl
 |int i=>obtain⟨t,e⟩:=(show∃t,u=Value.int i t from r);cases e;rfl
 |str x=>obtain⟨t,e⟩:=(show∃t,u=Value.str x t from r);cases e;rfl
 |byt b=>obtain⟨t,e⟩:=(show∃t,u=Value.bytes b t from r);cases e;rfl
 |flt b=>obtain⟨t,e⟩:=(show∃t,u=Value.float b t from r);cases e;rfl
 |ref a=>cases(show u=Value.ref a from r);rfl
 |ty n=>cases(show u=Value.type n from r);rfl
section
variable{P:Program}{w:World}{H H':Hp}{h h':Heap}{a C dx:Addr}{fs fs':`c}
theorem ins_get(hok:HOk P w H h)(e:H a=some (.ins C dx fs)):∃mA,ObjM h a dx C mA/\(∀f,RelO (fs.lookup f) (mA f))/\PySem.Within mA (fs.map (·.1))/\fs.length<=1000/\H dx=some (.own a):=by
 obtain⟨d,z,ne,ob,mA,n,r,q⟩:=(show ObjOk P w H h a (.ins C dx fs)from hok a _ e)
 exact⟨mA,⟨ob,n,ne⟩,r,q,z,d⟩
end
structure Cls(K:W.Frag)(C:Addr):Prop where
 pg:W.plainGet K C Str.empty=true
 hd:W.hasDictIn K C=true
 po:W.plainOver K C=true
 sa:W.findIn K (.ref C) "__setattr__"=some (some (.builtin "object.__setattr__"))
theorem Cls.get{K:W.Frag}{C:Addr}(c:Cls K C)(f:Str):W.plainGet K C f=true:=c.pg
def NoAttr(K:W.Frag)(C:Addr)(f:Str):Prop:=W.findIn K (.ref C) f=some none
theorem NoAttr.taker{K:W.Frag}{C:Addr}{f:Str}(n:NoAttr K C f):W.takerIn K C f=some none:=by
 unfold W.takerIn
 rw[show W.findIn K (.ref C) f=some none from n]
 rfl
structure Meth(K:W.Frag)(C:Addr)(m:Str)(f:Addr):Prop where
 at_:W.findIn K (.ref C) m=some (some (.ref f))
 fn:W.isFn K (.ref f)=true
 kp:W.keepIn K (.ref f)=true
section
variable{X:Cx}{pins:`Q}{σ:St}{H:Hp}{s:Shared}{a C dx:Addr}{fs:`c}{f:Str}{v:V}{A:Around}{E:`T}
theorem getattr_ok{b:Bool}{Q:`T}(I:`J)(e:H a=some (.ins C dx fs))(c:Cls X.K C)(n:NoAttr X.K C f)(l:fs.lookup f=some v)
  (h:∀u s',Inv X pins σ H s'->RelV v u->Q u s'):wpAny `X A (getAttr `G f b) Q E s:=by
 obtain⟨mA,O,r,_,_,_⟩:=ins_get I.hok e
 obtain⟨u,hu,ru⟩:=RelO.some_of (v:=v) (o:=mA f) (by rw[<-l];exact r f)
 exact get_map I.kIn O (c.get f) c.hd n hu (handed_of ru) (h u _ (I.tok _) ru)
theorem getmeth_ok{m:Str}{g:Addr}{pl:Sem Bool}{Q:Value×`M->Shared->Prop}(I:`J)(e:H a=some (.ins C dx fs))(c:Cls X.K C)(k:Meth X.K C m g)(l:fs.lookup m=none)
  (h:Q (.ref g,[`G]) s):wpAny `X A (getMethod `G m pl) Q E s:=by
 obtain⟨mA,O,r,_,_,_⟩:=ins_get I.hok e
 have hn:mA m=none:=RelO.none_of (by rw[<-l];exact r m)
 exact get_meth I.kIn O (c.get m) k.at_ k.fn hn h
theorem setattr_ok{y:V}{u:Value}{Q:Unit->Shared->Prop}(I:`J)(e:H a=some (.ins C dx fs))(c:Cls X.K C)(n:NoAttr X.K C f)(hl:fs.length<1000)(ry:RelV y u)
  (h:∀s',Inv X pins σ (upd H a (.ins C dx (putF f y fs))) s'->Q () s'):wpAny `X A (setAttr `G f u) Q E s:=by
 obtain⟨mA,O,r,wi,_,ho⟩:=ins_get I.hok e
 have hz:(fs.map (·.1)).length<=sizeLine:=by rw[List.length_map,sizeLine_eq];lia
 refine set_map I.kIn O c.sa c.po n.taker c.hd wi hz fun h' O' sb=>h _ ?_
 have hd:∃o,h'.get? dx=some o:=let⟨o,_,_,e',_⟩:=O'.ns;⟨o,e'⟩
 refine I.write (x:=a) (e:=dx) (by rw[e];exact True.intro) (.inr ho) (fun b q hb z=>(sb.2 b hb).trans z) hd ?_
 refine⟨by rw[upd_ne O.ne];exact ho,?_,O.ne,O'.obj,_,O'.ns,fun g=>?_,fun g hg=>?_⟩
 ·have:=length_putF f y fs;lia
 ·show RelO ((putF f y fs).lookup g) (if g=f then some u else mA g)
  rw[lookup_putF]
  by_cases q:g=f
  ·rw[if_pos q,if_pos q];exact ry
  ·rw[if_neg q,if_neg q];exact r g
 ·by_cases q:g=f
  ·rw[q];exact(keys_putF f y fs).1
  ·refine(keys_putF f y fs).2 g (wi g fun z=>hg ?_)
   show(if g=f then some u else mA g)=none
   rw[if_neg q];exact z
theorem Inv.made(I:`J):Inv X pins σ (upd (upd H s.heap.objs.size (.own (s.heap.objs.size+1))) (s.heap.objs.size+1) (.ins C s.heap.objs.size []))
  {s with heap:=(s.heap.push W.emptyDict).push (W.instObj C s.heap.objs.size)}:=by
 have e1:(s.heap.push W.emptyDict).get? s.heap.objs.size=some W.emptyDict:=Heap.get?_push_size s.heap rfl
 have e2:((s.heap.push W.emptyDict).push (W.instObj C s.heap.objs.size)).get? (s.heap.objs.size+1)=some (W.instObj C s.heap.objs.size):=by
  have:=Heap.get?_push_size (s.heap.push W.emptyDict) (o:=W.instObj C s.heap.objs.size) rfl
  rwa[Heap.size_push]at this
 have e3:(s.heap.push W.emptyDict).Ns s.heap.objs.size (fun _=>none):=⟨W.emptyDict,#[],_,e1,rfl,(fun e he=>absurd he `H),fun _=>rfl⟩
 have I1:=I.laid (a:=s.heap.objs.size) (o:=.own (s.heap.objs.size+1)) (h':=s.heap.push W.emptyDict) (t':=s.toks) (fun b u q=>Heap.get?_push_of_some _ q) `P ⟨_,e1⟩
 refine I1.laid (a:=s.heap.objs.size+1) (o:=.ins C s.heap.objs.size []) (t':=s.toks) (fun b u q=>Heap.get?_push_of_some _ q) (Nat.le_of_eq (Heap.size_push _ _)) ?_
 have ne:s.heap.objs.size≠s.heap.objs.size+1:=Nat.ne_of_lt (Nat.lt_succ_self _)
 refine⟨by rw[upd_ne ne,upd_same],`R,ne,e2,fun _=>none,(Heap.Ns1.of_empty e3).at fun o q=>Heap.get?_push_of_some _ q,fun _=>True.intro,fun y hy=>absurd rfl hy⟩
theorem attr_of{prog:Program}{w:World}{env:Env}{e:Expr}{f:Str}{pos:Pos}{s:Shared}{Q:`T}(hb:attributeBase e f env (eval e env)=eval e env)
  (h:wpAny `a A (eval e env) (fun o s₁=>wpAny `a A (getAttr o f true) Q E s₁) E s):wpAny `a A (eval (.Attribute e f pos) env) Q E s:=
 Attribute_any_ h (by rw[arm_eval_Attribute,hb])
end
def tFld(K:W.Frag)(ta:TE)(f:Str):TE:=fun σ H Q=>ta σ H fun x H1=>∃a C dx fs v,x=`G/\H1 a=some (.ins C dx fs)/\Cls K C/\NoAttr K C f/\fs.lookup f=some v/\Q v H1
def sFld(K:W.Frag)(ta tv:TE)(f:Str):TS:=fun D σ H=>tv σ H fun y H1=>ta σ H1 fun x H2=>∃a C dx fs,x=`G/\H2 a=some (.ins C dx fs)/\Cls K C/\NoAttr K C f/\fs.length<1000/\
 D.nx σ (upd H2 a (.ins C dx (putF f y fs)))
def acP(X:Cx)(op:Operator)(rd:V->V->Hp->VK->Prop):Prop:=
 ∀(pins:`Q)(s:Shared)(σ:St)(H:Hp)(x y:V)(u v:Value)(Q:VK),`J->RelV x u->RelV y v->rd x y H Q->wpAny `X X.A (inplaceOp op u v) (EP X pins σ Q) X.xe s
def aat(K:W.Frag)(ta tv:TE)(rd:V->V->Hp->VK->Prop)(f:Str):TS:=fun D σ H=>ta σ H fun x H1=>∃a C dx fs v,x=`G/\H1 a=some (.ins C dx fs)/\Cls K C/\NoAttr K C f/\fs.lookup f=some v/\
 tv σ H1 fun y H2=>rd v y H2 fun z H3=>∃dx' fs',H3 a=some (.ins C dx' fs')/\fs'.length<1000/\D.nx σ (upd H3 a (.ins C dx' (putF f z fs')))
section
variable{X:Cx}{o e value:Expr}{f:Str}{pos pos' tpos:Pos}{ta tv:TE}
theorem pe_fld(he:PE X e ta)(hb:attributeBase e f X.env (eval e X.env)=eval e X.env):PE X (.Attribute e f pos) (tFld X.K ta f):=by
 intro pins s σ H Q I h
 refine attr_of hb (thn (he pins s σ H _ I h) fun u s1⟨x,H1,I1,rx,a,C,dx,fs,v,ex,ea,c,n,l,q⟩=>?_)
 subst ex
 obtain rfl:u=Value.ref a:=rx
 exact getattr_ok I1 ea c n l fun u' s2 I2 ru=>⟨v,H1,I2,ru,q⟩
theorem ps_fld(ha:PE X o ta)(hv:PE X value tv)(hs:swapsWith value (some (.Attribute o f pos')) pos.line X.env=pure false):PS X (.Assign [.Attribute o f pos'] value pos) (sFld X.K ta tv f):=by
 intro pins s σ H D I h
 refine plainObj_wpAny_Assign_Attribute (thn (hv pins s σ H _ I h) fun u s1⟨y,H1,I1,ry,q⟩=>thn (ha pins s1 σ H1 _ I1 q) fun ov s2⟨x,H2,I2,rx,a,C,dx,fs,ex,ea,c,n,l,q2⟩=>?_) hs
 subst ex
 obtain rfl:ov=Value.ref a:=rx
 exact setattr_ok I2 ea c n l ry fun s3 I3=>⟨σ,_,I3,q2⟩
theorem ad7{op:Operator}{rd:V->V->Hp->VK->Prop}(ha:PE X o ta)(hv:PE X value tv)(hop:acP X op rd):PS X (.AugAssign (.Attribute o f tpos) op value pos) (aat X.K ta tv rd f):=by
 intro pins s σ H D I h
 refine wpAny_AugAssign_AttributeAny (thn (ha pins s σ H _ I h) fun ov s1⟨x,H1,I1,rx,a,C,dx,fs,v,ex,ea,c,n,l,q⟩=>?_)
 subst ex
 obtain rfl:ov=Value.ref a:=rx
 refine getattr_ok I1 ea c n l fun u s2 I2 ru=>thn (hv pins s2 σ H1 _ I2 q) fun w3 s3⟨y,H2,I3,ry,q3⟩=>thn (hop pins s3 σ H2 v y u w3 _ I3 ru ry q3) fun w4 s4⟨z,H3,I4,rz,dx',fs',ea',l',q4⟩=>?_
 exact setattr_ok I4 ea' c n l' rz fun s5 I5=>⟨σ,_,I5,q4⟩
def amU:V->V->Hp->VK->Prop:=fun x y H Q=>∃i j,x=.int i/\y=.int j/\Q (.int (i+j)) H
def amO:V->V->Hp->VK->Prop:=fun x y H Q=>∃i j,x=.int i/\y=.int j/\Q (.int (i-j)) H
theorem aj1:acP X .Add amU:=by
 rintro pins s σ H x y u v Q I rx ry⟨i,j,rfl,rfl,q⟩
 obtain⟨t,rfl⟩:=(show∃t,u=Value.int i t from rx)
 obtain⟨t',rfl⟩:=(show∃t',v=Value.int j t' from ry)
 exact PyProof.Rows.iadd_int ⟨.int (i+j),H,I.tok _,⟨_,rfl⟩,q⟩
theorem ajZ:acP X .Sub amO:=by
 rintro pins s σ H x y u v Q I rx ry⟨i,j,rfl,rfl,q⟩
 obtain⟨t,rfl⟩:=(show∃t,u=Value.int i t from rx)
 obtain⟨t',rfl⟩:=(show∃t',v=Value.int j t' from ry)
 exact PyProof.Rows.isub_int ⟨.int (i-j),H,I.tok _,⟨_,rfl⟩,q⟩
end
section
variable{X:Cx}{pins:`Q}{σ:St}{H:Hp}{s:Shared}{A:Around}{E:`T}{Q:`T}{c:Value}{b:Bool}
inductive TyOf(K:W.Frag)(H:Hp):V->Value->Prop where
 |non:TyOf K H .non (.type "NoneType")
 |bl(x:Bool):TyOf K H (.bl x) (.type "bool")
 |int(i:Int):TyOf K H (.int i) (.type "int")
 |str(x:Str):TyOf K H (.str x) (.type "str")
 |flt(x:UInt64):TyOf K H (.flt x) (.type "float")
 |lst{a:Addr}{xs:`F}(e:H a=some (.lst xs)):TyOf K H `G (.type "list")
 |frz{a:Addr}{o:Obj}{xs:`F}(e:H a=some (.frz o (.lst xs))):TyOf K H `G (.type "list")
 |tup{a:Addr}{xs:`F}(e:H a=some (.tup xs)):TyOf K H `G `b
 |dK{a:Addr}{kvs:List (Key×V)}(e:H a=some (.dK kvs)):TyOf K H `G (.type "dict")
 |dT{a:Addr}{kvs:List (List Key×V)}(e:H a=some (.dT kvs)):TyOf K H `G (.type "dict")
 |ins{a C dx:Addr}{fs:`c}(e:H a=some (.ins C dx fs))(cl:Cls K C)(ha:W.findIn K (.ref C) "__class__"=some (some (.builtin "object.__class__")))
   (hn:W.specialIn K (.builtin "object.__class__") "__get__"=some (some (.builtin "getset_descriptor.__get__")))(htk:W.takesIn K (.builtin "object.__class__")=some true)
   (hm:W.mroIn K C (.type "object")=some true):TyOf K H `G (.ref C)
theorem Us{x:V}{u t:Value}(I:`J)(rx:RelV x u)(ty:TyOf X.K H x t)(e:W.kitOne X.K t c=some b)(h:∀tk,Q (.bool b) {s with toks:=tk}):
  wpAny `X A (call (.builtin "isinstance") [u,c]) Q E s:=by
 cases ty with
 |non=>cases(show u=Value.none from rx);exact W.kia_one W.kitx_none I.kIn True.intro e (fun z=>nomatch z) h
 |bl y=>cases(show u=Value.bool y from rx);exact W.kia_one W.kitx_bool I.kIn True.intro e (fun z=>nomatch z) h
 |int i=>obtain⟨t,q⟩:=(show∃t,u=Value.int i t from rx);cases q;exact W.kia_one W.kitx_int I.kIn True.intro e (fun z=>nomatch z) h
 |str y=>obtain⟨t,q⟩:=(show∃t,u=Value.str y t from rx);cases q;exact W.kia_one W.kitx_str I.kIn True.intro e (fun z=>nomatch z) h
 |flt y=>obtain⟨t,q⟩:=(show∃t,u=Value.float y t from rx);cases q;exact W.kia_one W.kitx_float I.kIn True.intro e (fun z=>nomatch z) h
 | @lst a xs ea=>
  cases(show u=Value.ref a from rx)
  obtain⟨_,_,n,_,h1⟩:=(show ObjOk X.prog X.w H s.heap a (.lst xs)from I.hok a _ ea)
  exact W.kia_one W.kitx_list I.kIn ⟨_,h1,rfl⟩ e (fun z=>nomatch z) h
 | @frz a ob xs ea=>
  cases(show u=Value.ref a from rx)
  obtain⟨_,_,_,n,_,h1⟩:=(show ObjOk X.prog X.w H s.heap a (.frz ob (.lst xs))from I.hok a _ ea)
  exact W.kia_one W.kitx_list I.kIn ⟨_,h1,rfl⟩ e (fun z=>nomatch z) h
 | @tup a xs ea=>
  cases(show u=Value.ref a from rx)
  obtain⟨_,_,_,p⟩:=(show ObjOk X.prog X.w H s.heap a (.tup xs)from I.hok a _ ea)
  obtain⟨o,h1,h2,_⟩:=p
  exact W.kia_one W.kitx_tuple I.kIn ⟨o,h1,h2⟩ e (fun z=>nomatch z) h
 | @dK a kvs ea=>
  cases(show u=Value.ref a from rx)
  obtain⟨_,_,vs,_,p⟩:=(show ObjOk X.prog X.w H s.heap a (.dK kvs)from I.hok a _ ea)
  obtain⟨o,es,ep,h1,h2,_⟩:=p
  exact W.kia_one W.kitx_dict I.kIn ⟨o,h1,h2.1⟩ e (fun z=>nomatch z) h
 | @dT a kvs ea=>
  cases(show u=Value.ref a from rx)
  obtain⟨_,_,xs,_,o,es,ep,h1,h2,_⟩:=(show ObjOk X.prog X.w H s.heap a (.dT kvs)from I.hok a _ ea)
  exact W.kia_one W.kitx_dict I.kIn ⟨o,h1,h2.1⟩ e (fun z=>nomatch z) h
 | @ins a C dx fs ea cl ha hn htk hm=>
  cases(show u=Value.ref a from rx)
  obtain⟨mA,O,_⟩:=ins_get I.hok ea
  obtain⟨od,J,_⟩:=O.look
  exact W.kia_one (W.kitx_own (cl.get _) cl.hd ha hn htk hm) I.kIn J e (fun z=>nomatch z) h
end
structure Room(k:Nat)(A:Around):Prop where
 hd:A.handled=none
 dp:A.depth+k+5<recursionLimit
 un:A.units+16*k+200<cLine
theorem Room.mono{j k:Nat}{A:Around}(r:Room k A)(h:j<=k):Room j A:=⟨r.hd,by have:=r.dp;lia,by have:=r.un;lia⟩
theorem Room.deeper{k:Nat}{A:Around}(r:Room (k+1) A)(env:Env):Room k (A.deeper env):=
 ⟨r.hd,by have:=r.dp;show A.depth+1+k+5<_;lia,by have:=r.un;show A.units+3+16*k+200<_;lia⟩
theorem make_depth{A:Around}{C:Addr}{us:`M}{kw:List (Str×Value)}:(A.under (.builtin "type.__call__" ⟨.ref C::us,kw⟩)).depth=A.depth+1:=by
 first|rfl|simp[Around.under,Code.weight,Code.isCreation,Code.isGuard,Code.isCaller,Code.frames,Code.isFrame,guardIds]
theorem make_units{A:Around}{C:Addr}{us:`M}{kw:List (Str×Value)}:(A.under (.builtin "type.__call__" ⟨.ref C::us,kw⟩)).units=A.units+1:=by
 first|rfl|simp[Around.under,Code.cUnits,Code.frames,Code.isFrame]
theorem Room.make{k:Nat}{A:Around}(r:Room (k+1) A)(C:Addr)(us:`M)(kw:List (Str×Value)):Room k (A.under (.builtin "type.__call__" ⟨.ref C::us,kw⟩)):=
 ⟨r.hd,by have:=r.dp;rw[make_depth];lia,by have:=r.un;rw[make_units];lia⟩
theorem Room.depth{k:Nat}{A:Around}(r:Room k A):A.depth<recursionLimit:=by have:=r.dp;lia
def tNil:TA:=fun _ H Q=>Q [] H
def tCons(ta:TE)(tr:TA):TA:=fun σ H Q=>ta σ H fun x H1=>tr σ H1 fun xs H2=>Q (x::xs) H2
section
variable{X:Cx}{e:Expr}{es:List Expr}{te:TE}{t:TA}{pos:Pos}
theorem pa_nil:PA X [] tNil:=fun _ _ _ _ H Q I h=>Calls.spliced_nil ⟨[],H,I,.nil,h⟩
theorem pa_cons(ha:PE X e te)(hr:PA X es t)(hs:`n:=by rfl):PA X (e::es) (tCons te t):=by
 intro pos pins s σ H Q I h
 rw[hs]
 show wpAny _ _ (spliced ((false,eval e X.env)::backTo pos (starEach es X.env))) _ _ s
 refine Calls.spliced_cons (thn (ha pins s σ H _ I h) fun u s1⟨x,H1,I1,r1,q1⟩=>?_)
 exact thn (hr pos pins s1 σ H1 _ I1 q1) fun us s2⟨xs,H2,I2,r2,q2⟩=>⟨x::xs,H2,I2,.cons r1 r2,q2⟩
def ai2(t:TA):TE:=fun σ H Q=>t σ H fun xs H1=>xs.length<=sizeLine/\∀p,H1 p=none->Q (.ref p) (upd H1 p (.tup xs))
def tLst(t:TA):TE:=fun σ H Q=>t σ H fun xs H1=>xs.length<=sizeLine/\∀p,H1 p=none->Q (.ref p) (upd H1 p (.lst xs))
theorem ajw{x1}(h:PA X es t):PE X (.Tuple es x1 pos) (ai2 t):=by
 intro pins s σ H Q I hq
 refine wpAny_Tuple_spliced (thn (h pos pins s σ H _ I hq) fun us s1⟨xs,H1,I1,r,z,q⟩=>⟨by rw[<-r.length];exact z,?_⟩)
 have hf:H1 s1.heap.objs.size=none:=I1.hok.fresh `P
 refine⟨.ref s1.heap.objs.size,upd H1 s1.heap.objs.size (.tup xs),I1.laid (t':=s1.toks) (fun b u e=>Heap.get?_push_of_some _ e) `P ?_,rfl,q _ hf⟩
 exact⟨z,us,r,⟨_,Heap.get?_push_size _ rfl,rfl,_,rfl⟩⟩
theorem pe_lst(h:PA X es t):PE X (.List es pos) (tLst t):=by
 intro pins s σ H Q I hq
 refine wpAny_List_spliced (thn (h pos pins s σ H _ I hq) fun us s1⟨xs,H1,I1,r,z,q⟩=>⟨by rw[<-r.length];exact z,?_⟩)
 have hf:H1 s1.heap.objs.size=none:=I1.hok.fresh `P
 refine⟨.ref s1.heap.objs.size,upd H1 s1.heap.objs.size (.lst xs),I1.laid (t':=s1.toks) (fun b u e=>Heap.get?_push_of_some _ e) `P ?_,rfl,q _ hf⟩
 exact⟨z,us,0,r,Heap.get?_push_size _ rfl⟩
end
abbrev Sp:=`F->Hp->VK->XK->Prop
abbrev CXT:=List Env->Hp->Shared->XK->`T
structure Env0(P:Program)(w:World)(K:W.Frag)(mg:`U)(base:Heap)(A:Around)(outer:List Env)(s:Shared)(H:Hp):Prop where
 frames:A.frames=some outer
 mod:Mod K mg base
 bs:∀b o,base.get? b=some o->s.heap.get? b=some o/\H b=none
 bsz:base.objs.size<=s.heap.objs.size
 funs:s.heap.FunFrames base outer
 frf:∀b∈frs outer,H b=none
 hok:HOk P w H s.heap
 bare:AllBare s.gens
def CE(outer:List Env)(P:Program)(w:World)(H:Hp)(s:Shared)(Q:VK)(u:Value)(s':Shared):Prop:=
 ∃v H',s'.os=s.os/\AllBare s'.gens/\Un (frs outer) [] H H' s.heap s'.heap/\HOk P w H' s'.heap/\RelV v u/\Q v H'
def CR(CX:CXT)(outer:List Env)(P:Program)(w:World)(H:Hp)(s:Shared)(Q:VK)(E:XK)(r:Result)(s':Shared):Prop:=
 match r with
 | .ok (.ret u)=>CE outer P w H s Q u s'
 | .ok _=>False
 | .error e=>CX outer H s E e s'
structure FnOk(P:Program)(w:World)(K:W.Frag)(mg:`U)(base:Heap)(CX:CXT)(k:Nat)(f:Addr)(fd:FuncData)(ps:List Str)(sp:Sp):Prop where
 len:∀vs H Q E,sp vs H Q E->vs.length=ps.length
 run:∀(A:Around)(outer:List Env)(s:Shared)(H:Hp)(args:Args)(us:`M)(vs:`F)(Q:VK)(E:XK),Room k A->Env0 P w K mg base A outer s H->BindsTo s fd args (ps.zip us)->Vals vs us->sp vs H Q E->
  codeAny (model P w) A (.call (.ref f) args) (CR CX outer P w H s Q E) s
theorem FnOk.mono{P:Program}{w:World}{K:W.Frag}{mg:`U}{base:Heap}{CX:CXT}{j k:Nat}{f:Addr}{fd:FuncData}{ps:List Str}{sp:Sp}(F:FnOk P w K mg base CX j f fd ps sp)(h:j<=k):
  FnOk P w K mg base CX k f fd ps sp:=⟨F.len,fun A outer s H args us vs Q E hr=>F.run A outer s H args us vs Q E (hr.mono h)⟩
theorem FnOk.imp{P:Program}{w:World}{K:W.Frag}{mg:`U}{base:Heap}{CX:CXT}{k:Nat}{f:Addr}{fd:FuncData}{ps:List Str}{sp sp':Sp}(F:FnOk P w K mg base CX k f fd ps sp)
  (h:∀vs H Q E,sp' vs H Q E->sp vs H Q E):FnOk P w K mg base CX k f fd ps sp':=
 ⟨fun vs H Q E q=>F.len vs H Q E (h _ _ _ _ q),fun A outer s H args us vs Q E hr he hb hv hs=>F.run A outer s H args us vs Q E hr he hb hv (h _ _ _ _ hs)⟩
theorem Env0.make{P:Program}{w:World}{K:W.Frag}{mg:`U}{base:Heap}{A:Around}{outer:List Env}{s:Shared}{H:Hp}(e:Env0 P w K mg base A outer s H)(C:Addr)(us:`M)(kw:List (Str×Value)):
  Env0 P w K mg base (A.under (.builtin "type.__call__" ⟨.ref C::us,kw⟩)) outer s H:=⟨by first|exact e.frames|(simpa[Around.under,Code.envs,Code.isFrame,pushEnvs]using e.frames),e.mod,e.bs,e.bsz,e.funs,e.frf,e.hok,e.bare⟩
section
variable{X:Cx}{pins:`Q}{σ:St}{H:Hp}{s s':Shared}
theorem Inv.env0(I:`J):Env0 X.prog X.w X.K X.mg X.base X.A X.stack s H:=
 ⟨I.ok.frames,I.ok.mod,I.bs,Nat.le_trans I.ok.bsz I.sz,I.stack,I.stkFree,I.hok,I.bare⟩
theorem Inv.after{Q:VK}{u:Value}(I:`J)(h:CE X.stack X.prog X.w H s Q u s'):EP X pins σ Q u s':=by
 obtain⟨v,H',os,bare,un,hok,r,q⟩:=h
 obtain⟨hh,g,d,t,os'⟩:=s'
 obtain rfl:os'=s.os:=os
 exact⟨v,H',I.call (h':=hh) (g':=g) (d':=d) (t':=t) (ch:=[]) un hok bare (fun b z=>absurd z `H),r,q⟩
end
def tCall(sp:Sp)(dvs:`F)(E:XK)(t:TA):TE:=fun σ H Q=>t σ H fun vs H1=>sp (vs++dvs) H1 Q E
def tMeth(C:Addr)(m:Str)(sp:Sp)(dvs:`F)(E:XK)(ta:TE)(t:TA):TE:=fun σ H Q=>ta σ H fun x H1=>∃a dx fs,x=`G/\H1 a=some (.ins C dx fs)/\fs.lookup m=none/\
 t σ H1 fun vs H2=>sp (x::(vs++dvs)) H2 Q E
def tMake(C:Addr)(sp:Sp)(dvs:`F)(E:XK)(t:TA):TE:=fun σ H Q=>t σ H fun vs H1=>∀x dx,H1 x=none->H1 dx=none->dx≠x->
 sp (.ref x::(vs++dvs)) (upd (upd H1 dx (.own x)) x (.ins C dx [])) (fun v H2=>v=.non/\Q (.ref x) H2) E
def Binds(K:W.Frag)(fd:FuncData)(ps:List Str)(ds:`M):Prop:=
 ∀(s:Shared)(us:`M),K.In s.heap->(us++ds).length=ps.length->BindsTo s fd ⟨us,[]⟩ (ps.zip (us++ds))
theorem Binds.all{K:W.Frag}{fd:FuncData}{ps:List Str}(h:∀us:`M,us.length=ps.length->bindArgs fd ⟨us,[]⟩=pure (ps.zip us)):Binds K fd ps []:=fun s us _ hl=>by
 rw[List.append_nil]at hl|-
 exact .of_eq (h us hl)
def Passes(CX:CXT)(X:Cx)(E:XK):Prop:=∀(pins:`Q)(σ:St)(H:Hp)(s:Shared)(e:Value)(s':Shared),`J->CX X.stack H s E e s'->X.xe e s'
section
variable{X:Cx}{CX:CXT}{k:Nat}{f C:Addr}{fd:FuncData}{ps:List Str}{sp:Sp}{dvs:`F}{ds:`M}{E:XK}{x m:Str}{p pos apos:Pos}{e o:Expr}{es:List Expr}{ta:TE}{t:TA}
theorem run_fn{pins:`Q}{σ:St}{H:Hp}{s:Shared}{Q:VK}{us:`M}{vs:`F}(F:FnOk X.prog X.w X.K X.mg X.base CX k f fd ps sp)(hr:Room k X.A)(hb:Binds X.K fd ps ds)(hd:Vals dvs ds)(hx:Passes CX X E)
  (I:`J)(r:Vals vs us)(h:sp (vs++dvs) H Q E):wpAny `X X.A (call (.ref f) us) (EP X pins σ Q) X.xe s:=by
 have r2:Vals (vs++dvs) (us++ds):=r.append hd
 have hl:(us++ds).length=ps.length:=by rw[<-r2.length];exact F.len _ _ _ _ h
 refine wpAny_call (codeAny_mono (F.run X.A X.stack s H ⟨us,[]⟩ (us++ds) (vs++dvs) Q E hr I.env0 (hb s us I.kIn hl) r2 h) fun r s' hq=>?_)
 cases r with
 |error e=>exact hx pins σ H s e s' I hq
 |ok fl=>
  cases fl with
  |ret u=>exact I.after hq
  |next=>exact False.elim hq
  |brk=>exact False.elim hq
  |cont=>exact False.elim hq
theorem pe_call(F:FnOk X.prog X.w X.K X.mg X.base CX k f fd ps sp)(hr:Room k X.A)(hg:Gl X x)(hm:X.mg x=some (.ref f))(hk:W.keepIn X.K (.ref f)=true)(hb:Binds X.K fd ps ds)(hd:Vals dvs ds)(hx:Passes CX X E)
  (ha:PA X (e::es) t)(hdb:`k:=by decide)(he:`n:=by rfl)(hpl:(backTo pos (starEach es X.env)).any (·.1)=false:=by rfl):
  PE X (.Call (.Name x p) (e::es) [] pos) (tCall sp dvs E t):=by
 intro pins s σ H Q I h
 refine wpAny_Call_Name_kw (ld_glob I hg hm ?_ hdb)
 refine W.callWith_K (h₀:=X.base) I.ok.mod.kin hk (thn (ha pos pins s σ H _ I h) fun us s1⟨vs,H1,I1,r,q⟩=>⟨I1.kIn,?_⟩) he hpl
 exact run_fn F hr hb hd hx I1 r q
theorem pe_meth{pl:Sem Bool}(he:PE X o ta)(c:Cls X.K C)(hm:Meth X.K C m f)(F:FnOk X.prog X.w X.K X.mg X.base CX k f fd ps sp)(hr:Room k X.A)(hb:Binds X.K fd ps ds)(hd:Vals dvs ds)(hx:Passes CX X E)(ha:PA X (e::es) t)
  (hst:`n:=by rfl)(hpl:(backTo pos (starEach es X.env)).any (·.1)=false:=by rfl)
  (ht:eval (.Call (.Attribute o m apos) (e::es) [] pos) X.env=(do
   let ov<-eval o X.env
   standAt apos.atName
   let(f,first)<-holding [ov] (getMethod ov m pl)
   callWith pos f first (backTo pos (starEach (e::es) X.env)) (backToKw pos (keywordEach [] X.env))):=by rfl):
  PE X (.Call (.Attribute o m apos) (e::es) [] pos) (tMeth C m sp dvs E ta t):=by
 intro pins s σ H Q I h
 refine W.methodCall_KW (pl:=pl) (thn (he pins s σ H _ I h) fun u s1⟨x,H1,I1,rx,a,dx,fs,ex,ea,l,q⟩=>?_) ht
 subst ex
 obtain rfl:u=Value.ref a:=rx
 refine getmeth_ok I1 ea c hm l ?_
 refine W.callWith_K (first:=[`G]) (h₀:=X.base) I.ok.mod.kin hm.kp (thn (ha pos pins s1 σ H1 _ I1 q) fun us s2⟨vs,H2,I2,r,q2⟩=>⟨I2.kIn,?_⟩) hst hpl
 exact run_fn (us:=`G::us) (vs:=`G::vs) F hr hb hd hx I2 (.cons rfl r) q2
theorem afL{pl:Sem Bool}(he:PE X o ta)(c:Cls X.K C)(hm:Meth X.K C m f)(F:FnOk X.prog X.w X.K X.mg X.base CX k f fd ps sp)(hr:Room k X.A)(hb:Binds X.K fd ps ds)(hd:Vals dvs ds)(hx:Passes CX X E)
  (ht:eval (.Call (.Attribute o m apos) [] [] pos) X.env=(do
   let ov<-eval o X.env
   standAt apos.atName
   let(f,first)<-holding [ov] (getMethod ov m pl)
   callWith pos f first (backTo pos (starEach [] X.env)) (backToKw pos (keywordEach [] X.env))):=by rfl):
  PE X (.Call (.Attribute o m apos) [] [] pos) (tMeth C m sp dvs E ta tNil):=by
 intro pins s σ H Q I h
 refine W.methodCall_KW (pl:=pl) (thn (he pins s σ H _ I h) fun u s1⟨x,H1,I1,rx,a,dx,fs,ex,ea,l,q⟩=>?_) ht
 subst ex
 obtain rfl:u=Value.ref a:=rx
 refine getmeth_ok I1 ea c hm l ?_
 exact W.callWith_K0 (first:=[`G]) I1.kIn hm.kp (run_fn (us:=[`G]) (vs:=[`G]) F hr hb hd hx I1 (.cons rfl .nil) q)
structure Mk(K:W.Frag)(C f:Addr):Prop where
 makes:W.makesIn K C=true
 init:W.findIn K (.ref C) "__init__"=some (some (.ref f))
 fn:W.isFn K (.ref f)=true
 kp:W.keepIn K (.ref C)=true
theorem run_make{pins:`Q}{σ:St}{H:Hp}{s:Shared}{Q:VK}{us:`M}{vs:`F}(M:Mk X.K C f)(F:FnOk X.prog X.w X.K X.mg X.base CX k f fd ps sp)(hr:Room (k+1) X.A)(hb:Binds X.K fd ps ds)(hd:Vals dvs ds)
  (hx:Passes CX X E)(I:`J)(r:Vals vs us)
  (h:∀x dx,H x=none->H dx=none->dx≠x->sp (.ref x::(vs++dvs)) (upd (upd H dx (.own x)) x (.ins C dx [])) (fun v H2=>v=.non/\Q (.ref x) H2) E):
  wpAny `X X.A (call (.ref C) us) (EP X pins σ Q) X.xe s:=by
 have hq:=h (s.heap.objs.size+1) s.heap.objs.size (I.hok.fresh (Nat.le_succ _)) (I.hok.fresh `P) (Nat.ne_of_lt (Nat.lt_succ_self _))
 have I2:=Inv.made (C:=C) I
 have r2:Vals (V.ref (s.heap.objs.size+1)::(vs++dvs)) (Value.ref (s.heap.objs.size+1)::(us++ds)):=.cons rfl (r.append hd)
 have hl:(Value.ref (s.heap.objs.size+1)::us++ds).length=ps.length:=by
  have e:=r2.length
  rw[F.len _ _ _ _ hq]at e
  exact e.symm
 refine wpAny_call (make_map (f:=f) I.kIn M.makes M.init (beq_iff_eq.mp M.fn) (codeAny_mono (F.run _ X.stack _ _ ⟨Value.ref (s.heap.objs.size+1)::us,[]⟩ (Value.ref (s.heap.objs.size+1)::(us++ds)) _ _ E (hr.make C us [])
  (I2.env0.make C us []) (hb _ (Value.ref (s.heap.objs.size+1)::us) I2.kIn hl) r2 hq) fun r s' hq'=>?_))
 cases r with
 |error e=>exact hx pins σ _ _ e s' I2 hq'
 |ok fl=>
  cases fl with
  |ret u=>
   obtain⟨v,H',I3,rv,ev,q3⟩:=I2.after hq'
   subst ev
   exact⟨rv,⟨V.ref (s.heap.objs.size+1),H',I3,rfl,q3⟩⟩
  |next=>exact False.elim hq'
  |brk=>exact False.elim hq'
  |cont=>exact False.elim hq'
theorem ahU(M:Mk X.K C f)(F:FnOk X.prog X.w X.K X.mg X.base CX k f fd ps sp)(hr:Room (k+1) X.A)(hg:Gl X x)(hm:X.mg x=some (.ref C))(hb:Binds X.K fd ps ds)(hd:Vals dvs ds)(hx:Passes CX X E)
  (ha:PA X (e::es) t)(hdb:`k:=by decide)(he:`n:=by rfl)(hpl:(backTo pos (starEach es X.env)).any (·.1)=false:=by rfl):
  PE X (.Call (.Name x p) (e::es) [] pos) (tMake C sp dvs E t):=by
 intro pins s σ H Q I h
 refine wpAny_Call_Name_kw (ld_glob I hg hm ?_ hdb)
 refine W.callWith_K (h₀:=X.base) I.ok.mod.kin M.kp (thn (ha pos pins s σ H _ I h) fun us s1⟨vs,H1,I1,r,q⟩=>⟨I1.kIn,?_⟩) he hpl
 exact run_make M F hr hb hd hx I1 r q
theorem pe_make0(M:Mk X.K C f)(F:FnOk X.prog X.w X.K X.mg X.base CX k f fd ps sp)(hr:Room (k+1) X.A)(hg:Gl X x)(hm:X.mg x=some (.ref C))(hb:Binds X.K fd ps ds)(hd:Vals dvs ds)(hx:Passes CX X E)
  (hdb:`k:=by decide):PE X (.Call (.Name x p) [] [] pos) (tMake C sp dvs E tNil):=by
 intro pins s σ H Q I h
 refine wpAny_Call_Name_kw (ld_glob I hg hm ?_ hdb)
 exact W.callWith_K0 I.kIn M.kp (run_make (us:=[]) M F hr hb hd hx I .nil h)
end
section
variable{X:Cx}{CX:CXT}{k:Nat}{f C:Addr}{fd:FuncData}{ps ks:List Str}{sp:Sp}{E:XK}{x m:Str}{p pos apos kpos:Pos}{e o:Expr}{es:List Expr}{kws:List Keyword}{te ta:TE}{t tk:TA}{nm:Option Str}
variable{g:`M->`M->`M}{gV:`F->`F->`F}
end
structure FnScope(N P:List Str)(sc:Scope):Prop where
 kind:sc.kind=.function
 co:sc.isCoroutine=false
 gen:sc.isGenerator=false
 nd:N.Nodup
 pre:N.take P.length=P
 par:∀x∈P,sc.names.lookup x=some .local\/sc.names.lookup x=some .cell
 nofree:∀y∈sc.names,y.2≠.free
theorem bindL_out{kindOf:Str->Option NameKind}{x:Str}:∀{binds:List (Str×Value)}{m:`U},(∀v,(x,v)∉binds)->bindL kindOf binds m x=m x
 |[],_,_=>rfl
 |(n,v)::r,m,h=>by
  unfold bindL
  rw[bindL_out fun w hw=>h w (List.mem_cons_of_mem _ hw)]
  split
  ·have:x≠n:=by rintro rfl;exact h v List.mem_cons_self
   simp[this]
  ·rfl
theorem bindC_out{kindOf:Str->Option NameKind}{x:Str}:∀{binds:List (Str×Value)}{m:`U},(∀v,(x,v)∉binds)->bindC kindOf binds m x=m x
 |[],_,_=>rfl
 |(n,v)::r,m,h=>by
  unfold bindC
  rw[bindC_out fun w hw=>h w (List.mem_cons_of_mem _ hw)]
  split
  ·rfl
  ·have:x≠n:=by rintro rfl;exact h v List.mem_cons_self
   simp[this]
theorem bindL_get{kindOf:Str->Option NameKind}{x:Str}{v:Value}:∀{P:List Str}{vs:`M}{i:Nat}{m:`U},P.Nodup->P[i]?=some x->vs[i]?=some v->kindOf x=some .local->
  bindL kindOf (P.zip vs) m x=some v
 |[],_,_,_,_,h,_,_=>by simp at h
 |_::_,[],_,_,_,_,h,_=>by simp at h
 |p::P,w::vs,0,m,nd,h1,h2,hk=>by
  simp at h1 h2;subst h1;subst h2
  show bindL kindOf ((p,w)::P.zip vs) m p=_
  unfold bindL
  rw[bindL_out fun v hv=>(List.nodup_cons.mp nd).1 (List.of_mem_zip hv).1,if_pos hk]
  simp
 |p::P,w::vs,i+1,m,nd,h1,h2,hk=>by
  show bindL kindOf ((p,w)::P.zip vs) m x=_
  unfold bindL
  exact bindL_get (i:=i) (List.nodup_cons.mp nd).2 (by simpa using h1) (by simpa using h2) hk
theorem bindC_get{kindOf:Str->Option NameKind}{x:Str}{v:Value}:∀{P:List Str}{vs:`M}{i:Nat}{m:`U},P.Nodup->P[i]?=some x->vs[i]?=some v->kindOf x≠some .local->
  bindC kindOf (P.zip vs) m x=some v
 |[],_,_,_,_,h,_,_=>by simp at h
 |_::_,[],_,_,_,_,h,_=>by simp at h
 |p::P,w::vs,0,m,nd,h1,h2,hk=>by
  simp at h1 h2;subst h1;subst h2
  show bindC kindOf ((p,w)::P.zip vs) m p=_
  unfold bindC
  rw[bindC_out fun v hv=>(List.nodup_cons.mp nd).1 (List.of_mem_zip hv).1,if_neg hk]
  simp
 |p::P,w::vs,i+1,m,nd,h1,h2,hk=>by
  show bindC kindOf ((p,w)::P.zip vs) m x=_
  unfold bindC
  exact bindC_get (i:=i) (List.nodup_cons.mp nd).2 (by simpa using h1) (by simpa using h2) hk
def start(N:List Str)(vs:`F):St:=vs.map some++List.replicate (N.length-vs.length) none
def cxOf(CX:CXT)(P:Program)(w:World)(K:W.Frag)(mg:`U)(base:Heap)(N:List Str)(qual:Str)(scope:Scope)(f:Addr)(cd:Value)(A:Around)(outer:List Env)(s:Shared)(H:Hp)(E:XK):Cx where
 prog:=P
 w:=w
 K:=K
 mg:=mg
 base:=base
 A:=A.deeper (envOfC qual scope s.heap.objs.size f cd)
 N:=N
 s₀:=s
 H₀:=H
 env:=envOfC qual scope s.heap.objs.size f cd
 outer:=outer
 stack:=envOfC qual scope s.heap.objs.size f cd::outer
 ex:=[]
 calm:=true
 fn:=fun _=>true
 pn:=[]
 xe:=fun e s'=>wpAny (model P w) (A.deeper (envOfC qual scope s.heap.objs.size f cd)) (leaving (envOfC qual scope s.heap.objs.size f cd) e) (fun _ s''=>CX outer H s E e s'') (fun e' s''=>CX outer H s E e' s'') s'
theorem cell_has{sc:Scope}{n:Nat}{x:Str}(h:sc.names.lookup x=some .cell):∃c,(cellsFrom n sc.names []).lookup x=some c:=by
 have q:=W.cellsFrom_some sc.names n [] (.inl h)
 exact Option.isSome_iff_exists.mp q
theorem inv_start{CX:CXT}{P:Program}{w:World}{K:W.Frag}{mg:`U}{base:Heap}{N ps:List Str}{qual:Str}{scope:Scope}{f:Addr}{cd:Value}{A:Around}{outer:List Env}{s s1:Shared}{H:Hp}{E:XK}{us:`M}{vs:`F}
  (S:FnScope N ps scope)(hd:A.handled=none)(e0:Env0 P w K mg base A outer s H)(hl:vs.length=ps.length)(r:Vals vs us)
  (x:InCallC s s.heap.objs.size (bindL (envOfC qual scope s.heap.objs.size f cd).kindOf (ps.zip us) fun _=>none) (cellsFrom (s.heap.objs.size+1) scope.names []) (bindC (envOfC qual scope s.heap.objs.size f cd).kindOf (ps.zip us) fun _=>none) s1):
  Inv (cxOf CX P w K mg base N qual scope f cd A outer s H E) [] (start N vs) H s1:=by
 have hpl:ps.length<=N.length:=by have:=congrArg List.length S.pre;rw[List.length_take]at this;lia
 obtain⟨h1,tk,rfl,hk⟩:=x.done
 have noA:∀b:Addr,b∉(cxOf CX P w K mg base N qual scope f cd A outer s H E).ex:=fun b z=>absurd (show b∈([]:List Addr)from z) `H
 refine⟨⟨e0.mod,S.kind,rfl,rfl,`P,fun y z c h1 h2=>?_,fun y hy=>?_,fun y c _ h=>?_,fun _=>hd,Around.frames_deeper e0.frames,.inr ⟨rfl,rfl⟩,fun b z=>absurd z (noA b),e0.bs,e0.bsz,fun b _ _=>noA b,fun b z=>absurd z (noA b),e0.funs,e0.frf⟩,
  rfl,e0.bare,Un.kept hk,⟨_,x.toInCall.ns,fun i y v h1 h2 h3=>?_⟩,fun y c h=>⟨_,x.cell y c h⟩,e0.hok.fresh `P,fun y c h=>?_,fun p hp=>absurd (show p∈([]:`Q)from hp) `H,e0.hok.kept hk,?_⟩
 ·exact name_of_addr x.apart (PySem.mem_of_lookup h1) (PySem.mem_of_lookup h2)
 ·have hy:scope.names.lookup y=some .cell\/scope.names.lookup y=some .free:=hy
  rcases hy with hy|hy
  ·exact cell_has hy
  ·exact absurd rfl (S.nofree _ (PySem.mem_of_lookup hy))
 ·exact Nat.le_of_lt (x.above y c (PySem.mem_of_lookup h))
 ·have hi:i<vs.length:=by
   unfold start at h2
   by_cases hi:i<vs.length
   ·exact hi
   ·rw[List.getElem?_append_right (by simpa using hi)]at h2
    rw[List.getElem?_replicate]at h2
    split at h2<;>cases h2
  have ha:vs[i]?=some v:=by
   unfold start at h2
   rw[List.getElem?_append_left (by simpa using hi),List.getElem?_map]at h2
   cases e:vs[i]? with
   |none=>rw[e]at h2;cases h2
   |some a=>rw[e]at h2;cases h2;rfl
  obtain⟨u,hu,rv⟩:=r.get ha
  have hp:ps[i]?=some y:=by
   rw[<-S.pre,List.getElem?_take_of_lt `A];exact h1
  have ndP:ps.Nodup:=by rw[<-S.pre];exact S.nd.sublist (List.take_sublist _ _)
  refine⟨u,rv,?_⟩
  rcases S.par y (List.mem_of_getElem? hp)with k|k
  ·exact .inl ⟨k,bindL_get ndP hp hu k⟩
  ·obtain⟨c,e⟩:=cell_has (n:=s.heap.objs.size+1) k
   refine .inr ⟨.inl k,c,e,?_⟩
   have q:=x.cell y c e
   rw[bindC_get ndP hp hu (by show scope.names.lookup y≠_;rw[k];decide)]at q
   exact q
 ·exact e0.hok.fresh (Nat.le_of_lt (x.above y c (PySem.mem_of_lookup h)))
 ·unfold start
  show _=N.length
  rw[List.length_append,List.length_map,List.length_replicate]
  lia
theorem fn_of{CX:CXT}{P:Program}{w:World}{K:W.Frag}{mg:`U}{base:Heap}{k:Nat}{f:Addr}{name qual:Str}{params:Arguments}{body:List Stmt}{scope:Scope}{dV kV doc pm cdv ct oc:Value}{an od:Option Addr}
  {osl:`g}{N ps:List Str}{sp:Sp}(lk:K.lookup f=some ⟨oc,od,.func (W.fnOf name qual params body scope dV kV doc pm an cdv ct),osl⟩)(hcd:W.codeIn K cdv qual=true)(S:FnScope N ps scope)
  (len:∀vs H Q E,sp vs H Q E->vs.length=ps.length)
  (hbody:∀(A:Around)(outer:List Env)(s:Shared)(H:Hp)(vs:`F)(Q:VK)(E:XK),Room k (A.deeper (envOfC qual scope s.heap.objs.size f cdv))->sp vs H Q E->
   ∃t,PSs (cxOf CX P w K mg base N qual scope f cdv A outer s H E) body t/\t {nx:=fun _ H'=>Q .non H',rt:=Q} (start N vs) H):
  FnOk P w K mg base CX (k+1) f (W.fnOf name qual params body scope dV kV doc pm an cdv ct) ps sp:=by
 refine⟨len,fun A outer s H args us vs Q E hr e0 hb r hsp=>?_⟩
 have hl:=len _ _ _ _ hsp
 have KX:K.In s.heap:=e0.mod.kin.keeps fun b o e=>(e0.bs b o e).1
 have lim:s.heap.NoLimit:=e0.mod.nolimit.keeps fun b o e=>(e0.bs b o e).1
 have hkind:∀y∈ps.zip us,scope.names.lookup y.1=some .local\/(scope.names.lookup y.1=some .cell/\((cellsFrom (s.heap.objs.size+1) scope.names []).lookup y.1).isSome=true):=fun⟨n,v⟩hy=>by
  rcases S.par n (List.of_mem_zip hy).1 with q|q
  ·exact .inl q
  ·exact .inr ⟨q,W.cellsFrom_some _ _ _ (.inl q)⟩
 refine codeAny_call_function hr.depth (KX _ _ lk) rfl S.co S.gen rfl (W.codeRec_of KX hcd) (hb _ _ _ _ ?_)
 refine wpAny_newFunctionEnv_cells S.kind hkind fun env he s1 x=>?_
 subst he
 refine⟨lim.keeps x.toInCall.keep,codeAny_func ?_⟩
 obtain⟨t,ht,hq⟩:=hbody A outer s H vs Q E (hr.deeper _) hsp
 have I:Inv (cxOf CX P w K mg base N qual scope f cdv A outer s H E) [] (start N vs) H s1:=inv_start S hr.hd e0 hl r x
 refine wpAny_mono (ht [] s1 (start N vs) H _ I hq) (fun fl s' hs=>?_) fun e s' hs=>hs
 have fin:∀{σ':St}{H':Hp}{v:V}{u:Value},Inv (cxOf CX P w K mg base N qual scope f cdv A outer s H E) [] σ' H' s'->RelV v u->Q v H'->CE outer P w H s Q u s':=
  fun{σ' H' v u}J rv q=>⟨v,H',J.os,J.bare,J.base,J.hok,rv,q⟩
 cases fl with
 |ret u=>
  obtain⟨v,σ',H',J,rv,q⟩:=hs
  exact fin J rv q
 |next=>
  obtain⟨σ',H',J,q⟩:=hs
  exact fin (v:=V.non) (u:=Value.none) J rfl q
 |brk=>
  obtain⟨_,_,_,q⟩:=hs
  exact False.elim q
 |cont=>
  obtain⟨_,_,_,q⟩:=hs
  exact False.elim q
section
variable{X:Cx}{x:Str}{p pos:Pos}{e:Expr}{es:List Expr}{t:TA}{id T:String}{r:`F->Hp->VK->Prop}
def tCB(r:`F->Hp->VK->Prop)(t:TA):TE:=fun σ H Q=>t σ H fun vs H1=>r vs H1 Q
theorem pe_callB(hc:CallR X (.builtin id) r)(hg:Gl X x)(hm:X.mg x=none)(hv:bootBuiltins x=some (.builtin id))(ha:PA X (e::es) t)(hn:x≠"__name__":=by decide)(hdb:`k:=by decide)
  (he:`n:=by rfl)(hpl:(backTo pos (starEach es X.env)).any (·.1)=false:=by rfl):PE X (.Call (.Name x p) (e::es) [] pos) (tCB r t):=by
 intro pins s σ H Q I h
 refine wpAny_Call_Name_kw (ld_blt I hg hm hv ?_ hn hdb)
 exact PyProof.Rows.callWith_builtin1 (thn (ha pos pins s σ H _ I h) fun us s1⟨vs,H1,I1,r1,q1⟩=>hc pins s1 σ H1 vs us Q I1 r1 q1) he hpl
theorem Ug(hc:CallR X (.type T) r)(hg:Gl X x)(hm:X.mg x=none)(hv:bootBuiltins x=some (.type T))(ha:PA X (e::es) t)(hn:x≠"__name__":=by decide)(hdb:`k:=by decide)
  (he:`n:=by rfl)(hpl:(backTo pos (starEach es X.env)).any (·.1)=false:=by rfl):PE X (.Call (.Name x p) (e::es) [] pos) (tCB r t):=by
 intro pins s σ H Q I h
 refine wpAny_Call_Name_kw (ld_blt I hg hm hv ?_ hn hdb)
 exact PyProof.Rows.callWith_type1 (thn (ha pos pins s σ H _ I h) fun us s1⟨vs,H1,I1,r1,q1⟩=>hc pins s1 σ H1 vs us Q I1 r1 q1) he hpl
end
end L2
namespace HT
open PySem PyProof.Rows
section
open PySem.SeqAt
open PySem.AutoSeq1(wpAny_loadPart')
open PySem.MeetsSeq PySem.MeetsSeq2 PySem.MeetsSeq3
end
section
variable{prog:Program}{w:World}{A:Around}{E:`T}{s:Shared}
theorem aiE{t b:Addr}{vs ws:`M}{Q:`T}(ht:IsTup s.heap t vs.toArray)(hb:IsTup s.heap b ws.toArray)(hv:vs≠[])
  (h1:ws=[]->Q (.ref t) s)(h2:ws≠[]->Q (.ref s.heap.objs.size) {s with heap:=s.heap.push {cls:=`b,data:=.seq (vs++ws).toArray}})
  (hsz:vs.length+ws.length<=sizeLine):wpAny `a A (binaryOp .Add (.ref t) (.ref b)) Q E s:=by
 obtain⟨⟨cls,dd,data,sl⟩,ho,hc,n,hd⟩:=id ht
 obtain⟨⟨cls2,dd2,data2,sl2⟩,ho2,hc2,n2,hd2⟩:=id hb
 simp only at hc hd hc2 hd2
 subst hc hd hc2 hd2
 have e:vs.toArray++ws.toArray=(vs++ws).toArray:=`H
 by_cases hw:ws=[]
 ·exact concat_meets ⟨_,ho,rfl⟩ ⟨_,ho2,rfl⟩ noFill_tuple_add seq_tuple_add PySem.F.slot_tuple_add PySem.F.entry_tuple_add (PySem.F.args_tuple_add_2 _ _)
   (tuple_addW1 t b vs.toArray ws.toArray n n2 dd dd2 sl sl2 (by simpa using hv) (by simp[hw])) ⟨ho,ho2,h1 hw⟩
 ·refine concat_meets ⟨_,ho,rfl⟩ ⟨_,ho2,rfl⟩ noFill_tuple_add seq_tuple_add PySem.F.slot_tuple_add PySem.F.entry_tuple_add (PySem.F.args_tuple_add_2 _ _)
   (tuple_addW2 t b vs.toArray ws.toArray n n2 dd dd2 sl sl2 (by simpa using hv) (by simpa using hw) (by rw[List.size_toArray,List.size_toArray];exact hsz)) ⟨ho,ho2,?_⟩
  rw[e]
  exact h2 hw
def sIx(n d:Nat):Option Int->Nat
 |none=>d
 |some v=>if v<0 then(v+(n:Int)).toNat else min v.toNat n
theorem Wb(n d:Nat):sIx n d none=d:=rfl
theorem uh(n d k:Nat):sIx n d (some (k:Int))=min k n:=by
 show(if(k:Int)<0 then((k:Int)+(n:Int)).toNat else min (k:Int).toNat n)=min k n
 rw[if_neg `A,Int.toNat_natCast]
theorem Wc(n d:Nat)(hd:d<=n)(o:Option Int):sIx n d o<=n:=by
 cases o with
 |none=>exact hd
 |some v=>
  show(if v<0 then(v+(n:Int)).toNat else min v.toNat n)<=n
  by_cases hv:v<0
  ·rw[if_pos hv];lia
  ·rw[if_neg hv];exact Nat.min_le_right _ _
theorem aaW(v:Int)(n d:Nat):(if v<0 then max (v+(n:Int)) 0 else min v (n:Int))=((sIx n d (some v):Nat):Int):=by
 show(if v<0 then max (v+(n:Int)) 0 else min v (n:Int))=(((if v<0 then(v+(n:Int)).toNat else min v.toNat n):Nat):Int)
 by_cases hv:v<0
 ·simp only[if_pos hv];lia
 ·simp only[if_neg hv];lia
theorem acF(lo hi:Option Int)(n:Nat):Builtin.Slice.sliceAdjust lo hi 1 (n:Int)=(((sIx n 0 lo:Nat):Int),((sIx n n hi:Nat):Int)):=by
 have h1:¬((1:Int)<0):=`A
 unfold Builtin.Slice.sliceAdjust
 simp only[h1,if_false]
 refine Prod.ext ?_ ?_
 ·cases lo with
  |none=>rfl
  |some v=>exact aaW v n 0
 ·cases hi with
  |none=>rfl
  |some v=>exact aaW v n n
theorem abE(i j:Nat):Builtin.Slice.slicePlaces (i:Int) (j:Int) 1=j-i:=by
 unfold Builtin.Slice.slicePlaces
 have h1:(1:Int)>0:=`A
 simp only[h1,if_true,Int.ediv_one]
 split<;>lia
theorem Og{v:Value}{o:Option Int}{Q:Option Int->Shared->Prop}(p:IsPart v o)(h:Q o s):wpAny `a A (Builtin.Slice.slicePartIndex v) Q E s:=by
 cases p with
 |none=>exact slicePart_none h
 |int i t=>exact slicePart_int h
theorem yC{sl:Addr}{vl vu:Value}{lo hi:Option Int}{n:Nat}{Q:Int×Int×Nat->Shared->Prop}(hs:s.heap.IsSliceOf sl vl vu .none)(pl:IsPart vl lo)(pu:IsPart vu hi)
  (h:Q (((sIx n 0 lo:Nat):Int),1,sIx n n hi-sIx n 0 lo) s):wpAny `a A (Builtin.Slice.sliceApplied (.ref sl) (pure (n:Int))) Q E s:=by
 obtain⟨os,hos,hcs,hds⟩:=id hs
 unfold Builtin.Slice.sliceApplied Builtin.Slice.sliceFields
 refine wpAny_bind (wpAny_bind (wpAny_field hos hds (x:=vl) rfl (wpAny_bind (wpAny_field hos hds (x:=vu) rfl (wpAny_bind (wpAny_field hos hds (x:=.none) rfl (wpAny_pure ?_)))))))
 refine wpAny_bind (slicePart_none ?_)
 show wpAny _ _ (if((1:Int)==0)=true then _ else _) _ _ s
 rw[if_neg `B]
 refine wpAny_bind (Og pl (wpAny_bind (Og pu (wpAny_bind (wpAny_pure ?_)))))
 show wpAny _ _ (match Builtin.Slice.sliceAdjust lo hi 1 (n:Int)with|(lo,hi)=>pure (lo,(1:Int),Builtin.Slice.slicePlaces lo hi 1)) _ _ s
 rw[acF lo hi n]
 show wpAny _ _ (pure (((sIx n 0 lo:Nat):Int),(1:Int),Builtin.Slice.slicePlaces ((sIx n 0 lo:Nat):Int) ((sIx n n hi:Nat):Int) 1)) _ _ s
 rw[abE]
 exact wpAny_pure h
theorem afI(xs:Array Value)(i k:Nat):((List.range k).filterMap fun(m:Nat)=>xs[((i:Int)+(m:Int)*1).toNat]?).toArray=((xs.toList.drop i).take k).toArray:=by
 have e:(fun(m:Nat)=>xs[((i:Int)+(m:Int)*1).toNat]?)=fun m=>xs[i+m]?:=by
  funext m
  have:((i:Int)+(m:Int)*1).toNat=i+m:=`A
  rw[this]
 rw[e]
 have:=pick_run xs i k
 rw[List.filterMap_map]at this
 have e2:((fun x=>xs[x]?)∘fun x=>i+x)=fun m=>xs[i+m]?:=rfl
 rw[e2]at this
 rw[this]
theorem Kd{t sl:Addr}{items:Array Value}{vl vu:Value}{lo hi:Option Int}{Q:`T}(ht:IsTup s.heap t items)(hs:s.heap.IsSliceOf sl vl vu .none)(pl:IsPart vl lo)(pu:IsPart vu hi)
  (hw:¬(sIx items.size 0 lo=0/\sIx items.size items.size hi=items.size))
  (h:Q (.ref s.heap.objs.size) {s with heap:=s.heap.push {cls:=`b,data:=.seq ((items.toList.drop (sIx items.size 0 lo)).take (sIx items.size items.size hi-sIx items.size 0 lo)).toArray}})
  (hsz:items.size<=sizeLine):wpAny `a A (getItem (.ref t) (.ref sl)) Q E s:=by
 have Vk:sizeOk (.seq ((items.toList.drop (sIx items.size 0 lo)).take (sIx items.size items.size hi-sIx items.size 0 lo)).toArray):=by
  show((items.toList.drop (sIx items.size 0 lo)).take (sIx items.size items.size hi-sIx items.size 0 lo)).toArray.size<=sizeLine
  rw[List.size_toArray,List.length_take,List.length_drop,Array.length_toList]
  lia
 have hj:sIx items.size items.size hi<=items.size:=Wc _ _ `P hi
 obtain⟨os,hos,hcs,hds⟩:=id hs
 have hTs:s.TypeIs (.ref sl) "slice":=⟨os,hos,hcs⟩
 unfold getItem
 try with_reducible refine wpAny_holding ?_
 first|refine wpAny_bind (wpAny_pure ?_)|skip
 refine wpAny_bind (wpAny_sequenceKey ht.typeIs `B ?_)
 refine wpAny_bind (wpAny_callSpecial?_slot (name:=Str.ofString "__getitem__") ht.typeIs PyProof.Rows.slot_tuple_getitem
  (wpAny_call_entry PyProof.Rows.slot_tuple_getitem ht.typeIs entry_tuple_getitem ?_ (args_tuple_getitem _ _)))
 show wpAny _ _ (Builtin.Tuple.tupleItemsOf (.ref t)>>=_) _ _ s
 refine wpAny_bind (tupleItemsOf_ ht ?_)
 refine wpAny_bind (wpAny_typeOf hTs ?_)
 rw[if_pos `B]
 refine wpAny_bind (yC hs pl pu ?_)
 have hno:¬((((sIx items.size 0 lo:Nat):Int)==0&&(1:Int)==1&&(sIx items.size items.size hi-sIx items.size 0 lo)==items.size)=true):=by
  intro q
  rw[Bool.and_eq_true,Bool.and_eq_true]at q
  have q1:((sIx items.size 0 lo:Nat):Int)=0:=eq_of_beq q.1.1
  have q2:sIx items.size items.size hi-sIx items.size 0 lo=items.size:=eq_of_beq q.2
  exact hw ⟨`A,`A⟩
 show wpAny _ _ (if(((sIx items.size 0 lo:Nat):Int)==0&&(1:Int)==1&&(sIx items.size items.size hi-sIx items.size 0 lo)==items.size)=true then _ else _) _ _ s
 rw[if_neg hno,afI]
 first
  |exact wpAny_bind (m:=Builtin.Tuple.tupleExact _) (wpAny_newObj_type (wpAny_pure ⟨_,rfl,wpAny_pure h⟩) Vk)
  |exact wpAny_bind (m:=Builtin.Tuple.tupleExact _) (wpAny_newObj_type (wpAny_bind (wpAny_pure (wpAny_pure ⟨_,rfl,wpAny_pure h⟩))) Vk)
  |exact wpAny_bind (wpAny_bind (m:=Builtin.Tuple.tupleExact _) (wpAny_newObj_type (wpAny_pure (wpAny_pure ⟨_,rfl,wpAny_pure h⟩)) Vk))
  |exact wpAny_bind (wpAny_bind (m:=Builtin.Tuple.tupleExact _) (wpAny_newObj_type (wpAny_pure ⟨_,rfl,wpAny_pure h⟩) Vk))
end
end HT
namespace L2
open PySem PySem.Spec PyProof.Rows
abbrev TO:=St->Hp->(Option Int->`S)->Prop
def PO(X:Cx)(e:Option Expr)(t:TO):Prop:=
 ∀(pins:`Q)(s:Shared)(σ:St)(H:Hp)(Q:Option Int->`S),`J->t σ H Q->
  wpAny `X X.A (evalPart e X.env) (fun u s'=>∃o H',Inv X pins σ H' s'/\IsPart u o/\Q o H') X.xe s
def Qv:TO:=fun _ H Q=>Q none H
def agT(t:TE):TO:=fun σ H Q=>t σ H fun x H1=>∃i,x=.int i/\Q (some i) H1
theorem intsAre_of{ns:List Int}:∀{us:`M},Vals (ns.map V.int) us->IntsAre us ns:=by
 induction ns with
 |nil=>intro us r;rw[List.map_nil]at r;cases r;exact .nil
 |cons n ns ih=>
  intro us r
  rw[List.map_cons]at r
  cases r with
  |cons r1 r2=>
   obtain⟨t,e⟩:=r1
   subst e
   exact .cons n t (ih r2)
section
variable{X:Cx}{e:Expr}{te:TE}{lo hi:Option Expr}{tl th:TO}{pos p2:Pos}
theorem ahL:PO X none Qv:=by
 intro pins s σ H Q I h
 rw[evalPart_none]
 exact wpAny_pure ⟨none,H,I,.none,h⟩
theorem ahK(h:PE X e te):PO X (some e) (agT te):=by
 intro pins s σ H Q I hw
 rw[evalPart_some]
 refine thn (h pins s σ H _ I hw) fun u s1⟨x,H1,I1,r1,q1⟩=>?_
 obtain⟨i,rfl,q⟩:=q1
 obtain⟨t,rfl⟩:=r1
 exact⟨some i,H1,I1,.int i t,q⟩
def SlR(X:Cx)(r:V->Option Int->Option Int->Hp->VK->Prop):Prop:=
 ∀(pins:`Q)(s:Shared)(σ:St)(H:Hp)(x:V)(v vl vu:Value)(lo hi:Option Int)(sl:Addr)(Q:VK),`J->RelV x v->s.heap.IsSliceOf sl vl vu .none->IsPart vl lo->IsPart vu hi->r x lo hi H Q->
  ∃T id,typeLookup (.type T) "__getitem__"=pure (some (.builtin id))/\s.TypeIs v T/\wpAny `X X.A (getItem v (.ref sl)) (EP X pins σ Q) X.xe s
def tSl(r:V->Option Int->Option Int->Hp->VK->Prop)(te:TE)(tl th:TO):TE:=fun σ H Q=>te σ H fun x H1=>tl σ H1 fun l H2=>th σ H2 fun u H3=>r x l u H3 Q
theorem afK{r:V->Option Int->Option Int->Hp->VK->Prop}(hr:SlR X r)(he:PE X e te)(hl:PO X lo tl)(hu:PO X hi th):PE X (.Subscript e (.Slice lo hi none p2) pos) (tSl r te tl th):=by
 intro pins s σ H Q I h
 refine Subscript_ (thn (he pins s σ H _ I h) fun v s1⟨x,H1,I1,r1,q1⟩=>?_)
 refine wpAny_Slice (thn (hl pins s1 σ H1 _ I1 q1) fun vl s2⟨l,H2,I2,pl,q2⟩=>thn (hu pins s2 σ H2 _ I2 q2) fun vu s3⟨u,H3,I3,pu,q3⟩=>?_)
 rw[evalPart_none]
 refine wpAny_pure ?_
 have I4:Inv X pins σ H3 {s3 with heap:=s3.heap.push {cls:=.type "slice",data:=.fields #[vl,vu,.none]}}:=I3.kept (t':=s3.toks) fun b ob q=>Heap.get?_push_of_some _ q
 obtain⟨T,id,hT,ht,hg⟩:=hr pins {s3 with heap:=s3.heap.push {cls:=.type "slice",data:=.fields #[vl,vu,.none]}} σ H3 x v vl vu l u s3.heap.objs.size Q I4 r1 (Heap.IsSliceOf.new ..) pl pu q3
 show wpAny `X X.A (subscriptTail e (.Slice lo hi none p2) v (.ref s3.heap.objs.size)) (EP X pins σ Q) X.xe {s3 with heap:=s3.heap.push {cls:=.type "slice",data:=.fields #[vl,vu,.none]}}
 exact tail_any (ops:=[.ref s3.heap.objs.size,v]) ht hT hg (by with_unfolding_all rfl)
def mJ(xs:`F)(lo hi:Option Int):`F:=(xs.drop (HT.sIx xs.length 0 lo)).take (HT.sIx xs.length xs.length hi-HT.sIx xs.length 0 lo)
theorem Ky(xs:`F)(lo hi:Option Int):(mJ xs lo hi).length<=xs.length:=by
 unfold mJ
 rw[List.length_take,List.length_drop]
 lia
def amP(K:W.Frag):V->Option Int->Option Int->Hp->VK->Prop:=fun x lo hi H Q=>∃a xs,x=`G/\SqT K H a xs/\
 ¬(HT.sIx xs.length 0 lo=0/\HT.sIx xs.length xs.length hi=xs.length)/\∀p,H p=none->Q (.ref p) (upd H p (.tup (mJ xs lo hi)))
theorem ai9:SlR X (amP X.K):=by
 intro pins s σ H x v vl vu lo hi sl Q I rx hs pl pu h
 obtain⟨a,xs,rfl,hx,hw,q⟩:=h
 cases rx
 obtain⟨its,r,ht,hz⟩:=I.tuple hx
 have hlen:its.toArray.size=xs.length:=by rw[List.size_toArray];exact r.length.symm
 refine⟨"tuple",_,PyProof.Rows.slot_tuple_getitem.lookup,ht.typeIs,?_⟩
 refine HT.Kd ht hs pl pu (by rw[hlen];exact hw) ?_ (by rw[hlen];exact hz)
 rw[hlen]
 refine⟨.ref s.heap.objs.size,_,I.laid (t':=s.toks) (o:=.tup (mJ xs lo hi)) (fun b ob q=>Heap.get?_push_of_some _ q) `P ?_,rfl,q _ (I.hok.fresh `P)⟩
 exact⟨Nat.le_trans (Ky xs lo hi) hz,_,(r.drop (HT.sIx xs.length 0 lo)).take (HT.sIx xs.length xs.length hi-HT.sIx xs.length 0 lo),IsTup.new _ _⟩
def alC(K:W.Frag):R2:=fun x y H Q=>∃a b xs ys,x=`G/\y=.ref b/\SqT K H a xs/\SqT K H b ys/\xs≠[]/\xs.length+ys.length<=sizeLine/\
 (ys=[]->Q `G H)/\(ys≠[]->∀p,H p=none->Q (.ref p) (upd H p (.tup (xs++ys))))
theorem Vals.CK{xs:`F}{us:`M}(r:Vals xs us):us=[]↔xs=[]:=by
 cases r with
 |nil=>simp
 |cons _ _=>simp
theorem ah2:OpR X (binaryOp .Add) (alC X.K):=by
 intro pins s σ H x y v u Q I rx ry h
 obtain⟨a,b,xs,ys,rfl,rfl,ha,hb,hx,hz,q1,q2⟩:=h
 cases rx
 cases ry
 obtain⟨its,r1,p1,_⟩:=I.tuple ha
 obtain⟨its2,r2,p2,_⟩:=I.tuple hb
 refine HT.aiE p1 p2 (fun z=>hx (r1.CK.mp z)) (fun z=>⟨`G,H,I,rfl,q1 (r2.CK.mp z)⟩) (fun z=>?_) (by rw[<-r1.length,<-r2.length];exact hz)
 refine⟨.ref s.heap.objs.size,_,I.laid (t':=s.toks) (o:=.tup (xs++ys)) (fun b ob q=>Heap.get?_push_of_some _ q) `P ?_,rfl,q2 (fun w=>z (r2.CK.mpr w)) _ (I.hok.fresh `P)⟩
 exact⟨by rw[List.length_append];exact hz,_,r1.append r2,IsTup.new _ _⟩
end
def ixN(n:Nat)(i:Int):Option Nat:=if 0<=i then(if i<n then some i.toNat else none)else if-(n:Int)<=i then some (i+n).toNat else none
def atI{α:Type}(xs:List α)(i:Int):Option α:=(ixN xs.length i).bind fun j=>xs[j]?
theorem ixN_seq{n:Nat}{i:Int}{j:Nat}(h:ixN n i=some j):seqIndex? i n=some j/\j<n/\-(n:Int)<=i/\i<n:=by
 unfold ixN at h
 by_cases h0:0<=i
 ·rw[if_pos h0]at h
  by_cases h1:i<n
  ·rw[if_pos h1]at h
   have e:i.toNat=j:=Option.some.inj h
   exact⟨by rw[seqIndex_of h0 h1,e],`A,`A,h1⟩
  ·rw[if_neg h1]at h;cases h
 ·rw[if_neg h0]at h
  by_cases h1:-(n:Int)<=i
  ·rw[if_pos h1]at h
   have e:(i+n).toNat=j:=Option.some.inj h
   exact⟨by rw[seqIndex_neg `A h1,e],`A,h1,`A⟩
  ·rw[if_neg h1]at h;cases h
theorem atI_get{α:Type}{xs:List α}{i:Int}{v:α}(h:atI xs i=some v):∃j,seqIndex? i xs.length=some j/\xs[j]?=some v/\j<xs.length/\-(xs.length:Int)<=i/\i<xs.length:=by
 unfold atI at h
 cases e:ixN xs.length i with
 |none=>rw[e]at h;cases h
 |some j=>
  rw[e]at h
  obtain⟨h1,h2,h3,h4⟩:=ixN_seq e
  exact⟨j,h1,h,h2,h3,h4⟩
theorem atI_nat{α:Type}{xs:List α}{j:Nat}{v:α}(h:xs[j]?=some v):atI xs (j:Int)=some v:=by
 have hj:j<xs.length:=(List.getElem?_eq_some_iff.mp h).1
 have e:ixN xs.length (j:Int)=some j:=by
  unfold ixN
  rw[if_pos `A,if_pos `A];simp
 unfold atI;rw[e];exact h
def PlainIx(b:Expr):Prop:=∀o i,subscripted b false o i=operate [o,i] (getItem o i)
def IxR(X:Cx)(r:R2):Prop:=
 ∀(value slice:Expr)(pins:`Q)(s:Shared)(σ:St)(H:Hp)(x y:V)(v u:Value)(Q:VK),`J->RelV x v->RelV y u->r x y H Q->
  subscripted slice false v u=operate [v,u] (getItem v u)->wpAny `X X.A (subscriptTail value slice v u) (EP X pins σ Q) X.xe s
def MtR(X:Cx)(id:String)(r:V->`F->Hp->VK->Prop):Prop:=
 ∀(pins:`Q)(s:Shared)(σ:St)(H:Hp)(x:V)(xs:`F)(v:Value)(us:`M)(Q:VK),`J->RelV x v->Vals xs us->r x xs H Q->
  wpAny `X X.A (call (.builtin id) (v::us)) (EP X pins σ Q) X.xe s
section
variable{X:Cx}{a b:Expr}{ta tb:TE}{pos:Pos}
theorem pe_ix{r:R2}(hr:IxR X r)(ha:PE X a ta)(hb:PE X b tb)(hs:PlainIx b):PE X (.Subscript a b pos) (tOp r ta tb):=by
 intro pins s σ H Q I h
 exact Subscript_ (binT ha hb I h fun v u s2 x y H2 I2 rx ry q=>hr a b pins s2 σ H2 x y v u Q I2 rx ry q (hs _ _))
def rIxL(K:W.Frag):R2:=fun x y H Q=>∃p xs i v,x=.ref p/\y=.int i/\SqL K H p xs/\atI xs i=some v/\Q v H
def afu(K:W.Frag):R2:=fun x y H Q=>∃p xs i v,x=.ref p/\y=.int i/\SqT K H p xs/\atI xs i=some v/\Q v H
theorem ix_list:IxR X (rIxL X.K):=by
 intro value slice pins s σ H x y v u Q I rx ry h hs
 obtain⟨p,xs,i,z,rfl,rfl,hq,he,q⟩:=h
 cases rx
 obtain⟨t,rfl⟩:=ry
 obtain⟨its,r,pl,hz⟩:=I.list hq
 obtain⟨j,h1,h2,h3,h4,h5⟩:=atI_get he
 obtain⟨w,ew,rw'⟩:=r.get h2
 have hl:=r.length
 have hn:=line63
 have fin:EP X pins σ Q w s:=⟨z,H,I,rw',q⟩
 by_cases h0:0<=i
 ·have hj:i.toNat=j:=by
   rw[seqIndex_of h0 h5]at h1
   exact Option.some.inj h1
  exact item_listR pl.isList h0 `A (by rw[hj];simpa using ew) fin hs
 ·have hj:(i+(its.toArray.size:Int)).toNat=j:=by
   rw[seqIndex_neg `A h4]at h1
   rw[List.size_toArray,<-hl]
   exact Option.some.inj h1
  exact subscriptTail_builtinR (x:=w) pl.isList.typeIs slot_list_getitem.lookup
   (wpAny_getItem_list_neg (Q:=fun r s'=>r=w/\EP X pins σ Q r s') pl.isList `A (by rw[List.size_toArray]<;>lia) `A (by rw[hj];simpa using ew) ⟨rfl,fin⟩) hs
theorem g_:IxR X (afu X.K):=by
 intro value slice pins s σ H x y v u Q I rx ry h hs
 obtain⟨p,xs,i,z,rfl,rfl,hq,he,q⟩:=h
 cases rx
 obtain⟨t,rfl⟩:=ry
 obtain⟨its,r,pl,hz⟩:=I.tuple hq
 obtain⟨j,h1,h2,h3,h4,h5⟩:=atI_get he
 obtain⟨w,ew,rw'⟩:=r.get h2
 have hl:=r.length
 have hn:=line63
 have fin:EP X pins σ Q w s:=⟨z,H,I,rw',q⟩
 exact subscriptTail_builtinR (x:=w) pl.typeIs slot_tuple_getitem.lookup
  (getItem_tuple (j:=j) (Q:=fun r s'=>r=w/\EP X pins σ Q r s') pl `A `A (by rw[List.size_toArray,<-hl];exact h1) (by simpa using ew) ⟨rfl,fin⟩) hs
theorem abS(its:`M)(n j:Nat)(u:Value):Obj.mapSeq (·.setIfInBounds j u) {cls:=.type "list",data:=.seq its.toArray n}={cls:=.type "list",data:=.seq (its.set j u).toArray n}:=by
 simp[Obj.mapSeq]
theorem Inv.lst{pins:`Q}{σ:St}{H:Hp}{s:Shared}{p:Addr}{xs:`F}(I:`J)(h:H p=some (.lst xs)):
  ∃(its:`M)(n:Nat),Vals xs its/\s.heap.get? p=some {cls:=.type "list",data:=.seq its.toArray n}/\xs.length<=sizeLine:=by
 obtain⟨z,its,n,r,e⟩:=I.hok p _ h
 exact⟨its,n,r,e,z⟩
theorem Inv.ajU{pins:`Q}{σ:St}{H:Hp}{s:Shared}{p:Addr}{xs ys:`F}{its its':`M}{n n':Nat}{f:Obj->Obj}(I:`J)(h:H p=some (.lst xs))
  (ho:s.heap.get? p=some {cls:=.type "list",data:=.seq its.toArray n})(hf:f {cls:=.type "list",data:=.seq its.toArray n}={cls:=.type "list",data:=.seq its'.toArray n'})(r:Vals ys its')(hz:ys.length<=sizeLine)(t:Nat):
  Inv X pins σ (upd H p (.lst ys)) {s with heap:=s.heap.update p f,toks:=t}:=by
 have e:(s.heap.update p f).get? p=some {cls:=.type "list",data:=.seq its'.toArray n'}:=by
  rw[Heap.get?_update_self f ho (by rw[hf]<;>rfl),hf]
 refine I.write (x:=p) (e:=p) (by rw[h];trivial) (.inl rfl) (fun b u hb q=>(Heap.get?_update_other _ _ (Ne.symm hb)).trans q) ⟨_,e⟩ ?_
 exact⟨hz,its',n',r,e⟩
def alx:V->V->V->Hp->`S->Prop:=fun o i v H Q=>∃p xs k j,o=.ref p/\i=.int k/\H p=some (.lst xs)/\ixN xs.length k=some j/\Q (upd H p (.lst (xs.set j v)))
theorem set_list:YL X alx:=by
 intro pins s σ H o i v ov iv u Q I ro ri rv h
 obtain⟨p,xs,k,j,rfl,rfl,hp,hj,q⟩:=h
 cases ro
 obtain⟨t,rfl⟩:=ri
 obtain⟨its,n,r,ho,hz⟩:=I.lst hp
 obtain⟨h1,h2,h3,h4⟩:=ixN_seq hj
 have hl:=r.length
 have hn:=line63
 have I':Inv X pins σ (upd H p (.lst (xs.set j v))) {s with heap:=s.heap.update p (Obj.mapSeq (·.setIfInBounds j u))}:=
  I.ajU hp ho (abS its n j u) (r.set rv j) (by rw[List.length_set];exact hz) s.toks
 by_cases h0:0<=k
 ·have hk:k.toNat=j:=by
   rw[seqIndex_of h0 h4]at h1
   exact Option.some.inj h1
  exact W.ki_setAt ho h0 `A (by rw[List.size_toArray,<-hl];exact h4) (by rw[hk];exact⟨_,I',q⟩)
 ·have hk:(k+(its.toArray.size:Int)).toNat=j:=by
   rw[seqIndex_neg `A h3]at h1
   rw[List.size_toArray,<-hl]
   exact Option.some.inj h1
  exact W.ki_setBack ho `A (by rw[List.size_toArray,<-hl];exact h3) `A (by rw[hk];exact⟨_,I',q⟩)
theorem G9(lo hi:Option Int)(n:Nat):(sliceBounds lo hi none n).1=((HT.sIx n 0 lo:Nat):Int)/\(sliceBounds lo hi none n).2.1=((HT.sIx n n hi:Nat):Int)/\(sliceBounds lo hi none n).2.2=1:=by
 refine⟨?_,?_,rfl⟩
 ·cases lo with
  |none=>simp[sliceBounds,HT.sIx]
  |some i=>
   simp only[sliceBounds,HT.sIx,Option.getD_none,show(1:Int)>0 by decide,if_true]
   by_cases h:i<0
   ·simp only[h,if_true]<;>lia
   ·simp only[h,if_false]<;>lia
 ·cases hi with
  |none=>simp[sliceBounds,HT.sIx]
  |some i=>
   simp only[sliceBounds,HT.sIx,Option.getD_none,show(1:Int)>0 by decide,if_true]
   by_cases h:i<0
   ·simp only[h,if_true]<;>lia
   ·simp only[h,if_false]<;>lia
theorem UL(its:`M)(lo hi:Option Int):slicePick its.toArray lo hi none=((its.drop (HT.sIx its.length 0 lo)).take (HT.sIx its.length its.length hi-HT.sIx its.length 0 lo)).toArray:=by
 obtain⟨h1,h2,h3⟩:=G9 lo hi its.toArray.size
 unfold slicePick
 rw[h1,h2,h3]
 simp only[sliceRange_one,pick_run,List.size_toArray]<;>rfl
def amR(K:W.Frag):V->Option Int->Option Int->Hp->VK->Prop:=fun x lo hi H Q=>∃a xs,x=`G/\SqL K H a xs/\∀p,H p=none->Q (.ref p) (upd H p (.lst (mJ xs lo hi)))
theorem ahn:SlR X (amR X.K):=by
 intro pins s σ H x v vl vu lo hi sl Q I rx hs pl pu h
 obtain⟨a,xs,rfl,hx,q⟩:=h
 cases rx
 obtain⟨its,r,ht,hz⟩:=I.list hx
 have hlen:=r.length
 refine⟨"list",_,slot_list_getitem.lookup,ht.isList.typeIs,?_⟩
 refine wpAny_getItem_list_slice ht.isList hs pl pu .none `H ?_ (by rw[List.size_toArray]<;>lia)
 rw[UL,<-hlen]
 refine⟨.ref s.heap.objs.size,_,I.laid (t':=s.toks) (o:=.lst (mJ xs lo hi)) (fun b ob q=>Heap.get?_push_of_some _ q) `P ?_,rfl,q _ (I.hok.fresh `P)⟩
 exact⟨Nat.le_trans (Ky xs lo hi) hz,_,0,(r.drop (HT.sIx xs.length 0 lo)).take (HT.sIx xs.length xs.length hi-HT.sIx xs.length 0 lo),Heap.get?_push_size _ rfl⟩
def wV:V->Bool
 | .non=>true
 | .bl _=>true
 | .int _=>true
 | .str _=>true
 |_=>false
def eqV:V->V->Bool
 | .non,.non=>true
 | .bl a,.bl b=>a==b
 | .bl a,.int b=>(if a then 1 else 0)==b
 | .int a,.bl b=>a==(if b then 1 else 0)
 | .int a,.int b=>a==b
 | .str a,.str b=>a==b
 |_,_=>false
theorem akd{A:Around}{s:Shared}{y x:V}{u v:Value}(ry:RelV y u)(rx:RelV x v)(fy:wV y=true)(fx:wV x=true):SeqAt.EqAt A s u v (eqV y x):=by
 cases y with
 |non=>
  cases ry
  cases x with
  |non=>cases rx;exact SeqAt.EqAt.same _
  |bl b=>cases rx;exact SeqAt.EqAt.none_bool b
  |int b=>obtain⟨t,rfl⟩:=rx;exact SeqAt.EqAt.none_int b t
  |str b=>obtain⟨t,rfl⟩:=rx;exact SeqAt.EqAt.none_str b t
  |_=>exact absurd (show false=true from fx) Bool.false_ne_true
 |bl a=>
  cases ry
  cases x with
  |non=>cases rx;exact SeqAt.EqAt.bool_none a
  |bl b=>cases rx;exact SeqAt.EqAt.bool_bool a b
  |int b=>obtain⟨t,rfl⟩:=rx;exact SeqAt.EqAt.bool_int a b t
  |str b=>obtain⟨t,rfl⟩:=rx;exact SeqAt.EqAt.bool_str a b t
  |_=>exact absurd (show false=true from fx) Bool.false_ne_true
 |int a=>
  obtain⟨t',rfl⟩:=ry
  cases x with
  |non=>cases rx;exact SeqAt.EqAt.int_none a t'
  |bl b=>cases rx;exact SeqAt.EqAt.int_bool a t' b
  |int b=>obtain⟨t,rfl⟩:=rx;exact SeqAt.EqAt.int_int a t' b t
  |str b=>obtain⟨t,rfl⟩:=rx;exact SeqAt.EqAt.int_str a t' b t
  |_=>exact absurd (show false=true from fx) Bool.false_ne_true
 |str a=>
  obtain⟨t',rfl⟩:=ry
  cases x with
  |non=>cases rx;exact SeqAt.EqAt.str_none a t'
  |bl b=>cases rx;exact SeqAt.EqAt.str_bool a t' b
  |int b=>obtain⟨t,rfl⟩:=rx;exact SeqAt.EqAt.str_int a t' b t
  |str b=>obtain⟨t,rfl⟩:=rx;exact SeqAt.EqAt.str_str a t' b t
  |_=>exact absurd (show false=true from fx) Bool.false_ne_true
 |_=>exact absurd (show false=true from fy) Bool.false_ne_true
def eqU(x:V)(u:Value):Bool:=match u with
 | .none=>eqV .non x
 | .bool b=>eqV (.bl b) x
 | .int i _=>eqV (.int i) x
 | .str z _=>eqV (.str z) x
 |_=>false
theorem XC{x y:V}{u:Value}(r:RelV y u)(f:wV y=true):eqU x u=eqV y x:=by
 cases y with
 |non=>cases r;rfl
 |bl b=>cases r;rfl
 |int i=>obtain⟨t,rfl⟩:=r;rfl
 |str z=>obtain⟨t,rfl⟩:=r;rfl
 |_=>exact absurd (show false=true from f) Bool.false_ne_true
theorem Tc{x:V}:∀{xs:`F}{us:`M},Vals xs us->xs.all wV=true->us.any (eqU x)=xs.any fun y=>eqV y x
 |_,_,.nil,_=>rfl
 |y::xs,u::us,.cons r t,f=>by
  rw[List.all_cons,Bool.and_eq_true]at f
  rw[List.any_cons,List.any_cons,XC r f.1,Tc t f.2]
theorem En{A:Around}{s:Shared}{x:V}{v:Value}(rx:RelV x v)(fx:wV x=true):∀{xs:`F}{us:`M},Vals xs us->xs.all wV=true->∀u∈us,SeqAt.EqAt A s u v (eqU x u)
 |_,_,.nil,_=>fun u hu=>by cases hu
 |y::xs,u::us,.cons r t,f=>fun u' hu=>by
  rw[List.all_cons,Bool.and_eq_true]at f
  rcases List.mem_cons.mp hu with rfl|hu
  ·rw[XC r f.1];exact akd r rx f.1 fx
  ·exact En rx fx t f.2 u' hu
def inV(x:V)(xs:`F):Bool:=xs.any fun y=>eqV y x
def rIn(K:W.Frag)(neg:Bool):R2:=fun x y H Q=>∃p xs,y=.ref p/\(SqL K H p xs\/SqT K H p xs)/\wV x=true/\xs.all wV=true/\Q (.bl (if neg then !inV x xs else inV x xs)) H
theorem Hw:OpR X (compareOp .In) (rIn X.K false):=by
 intro pins s σ H x y v u Q I rx ry h
 obtain⟨p,xs,rfl,hq,fx,fs,q⟩:=h
 cases ry
 rcases hq with hq|hq
 ·obtain⟨its,r,pl,hz⟩:=I.list hq
  refine SeqAt.in_listAt (eqU x) pl.isList (fun w hw=>En rx fx r fs w (by simpa using hw)) ⟨.bl _,H,I,rfl,?_⟩
  rw[show its.toArray.any (eqU x)=its.any (eqU x)by simp,Tc r fs]
  exact q
 ·obtain⟨its,r,pl,hz⟩:=I.tuple hq
  refine SeqAt.in_tupleAt (eqU x) pl (fun w hw=>En rx fx r fs w (by simpa using hw)) ⟨.bl _,H,I,rfl,?_⟩
  rw[show its.toArray.any (eqU x)=its.any (eqU x)by simp,Tc r fs]
  exact q
theorem call_len_seq:CallR X (.builtin "len") (fun xs H Q=>∃p ys,xs=[.ref p]/\(SqL X.K H p ys\/SqT X.K H p ys)/\Q (.int ys.length) H):=by
 intro pins s σ H xs us Q I r h
 obtain⟨p,ys,rfl,hq,q⟩:=h
 obtain⟨u,rfl,rx⟩:=vals1 r
 cases rx
 have hn:=line63
 rcases hq with hq|hq
 ·obtain⟨its,r',pl,hz⟩:=I.list hq
  have hlen:=r'.length
  exact Calls.call_len_list pl.isList (by simp only[List.size_toArray]<;>lia) ⟨.int ys.length,H,I.tok _,⟨s.toks+1,by rw[List.size_toArray,hlen]⟩,q⟩
 ·obtain⟨its,r',pl,hz⟩:=I.tuple hq
  have hlen:=r'.length
  exact len_tuple pl (by simp only[List.size_toArray]<;>lia) ⟨.int ys.length,H,I.tok _,⟨s.toks+1,by rw[List.size_toArray,hlen]⟩,q⟩
theorem IK:CallR X (.builtin "len") (fun xs H Q=>∃z,xs=[.str z]/\z.length<=sizeLine/\Q (.int z.length) H):=by
 intro pins s σ H xs us Q I r h
 obtain⟨z,rfl,hz,q⟩:=h
 obtain⟨u,rfl,t,rfl⟩:=vals1 r
 have hn:=line63
 exact len_str `A ⟨.int z.length,H,I.tok _,⟨_,rfl⟩,q⟩
theorem gw:CallR X `b (fun xs H Q=>∃p ys,xs=[.ref p]/\((SqL X.K H p ys/\∀l,H l=none->Q (.ref l) (upd H l (.tup ys)))\/(SqT X.K H p ys/\Q (.ref p) H))):=by
 intro pins s σ H xs us Q I r h
 obtain⟨p,ys,rfl,h⟩:=h
 obtain⟨u,rfl,rx⟩:=vals1 r
 cases rx
 rcases h with⟨hq,q⟩|⟨hq,q⟩
 ·obtain⟨its,r',pl,hz⟩:=I.list hq
  have hlen:=r'.length
  refine call_tuple_list pl.isList (fun h' kp=>?_) (by simp only[List.size_toArray]<;>lia)
  have I1:Inv X pins σ H {s with heap:=h'}:=I.kept (t':=s.toks) kp
  have I2:Inv X pins σ (upd H h'.objs.size (.tup ys)) {s with heap:=h'.push {cls:=`b,data:=.seq its.toArray}}:=
   I1.laid (t':=s.toks) (fun b o e=>Heap.get?_push_of_some _ e) `P (show ObjOk X.prog X.w _ _ _ (.tup ys)from⟨hz,its,r',IsTup.new _ _⟩)
  exact⟨.ref h'.objs.size,_,I2,rfl,q _ (I1.hok.fresh `P)⟩
 ·obtain⟨its,r',pl,hz⟩:=I.tuple hq
  exact call_tuple_same pl ⟨.ref p,H,I,rfl,q⟩
def tyV(K:W.Frag)(T:String)(x:V)(H:Hp):Prop:=match x with
 | .str _=>T="str"
 | .int _=>T="int"
 | .ref p=>(T="list"/\∃xs,SqL K H p xs)\/(T="tuple"/\∃o,K.lookup p=some o/\o.cls=`b/\o.dict=none)\/
   (T="dict"/\((∃kvs,H p=some (.dK kvs))\/∃kvs,H p=some (.dT kvs)))\/(T="set"/\∃S n,H p=some (.set S n))
 |_=>False
theorem ade{pins:`Q}{σ:St}{H:Hp}{s:Shared}{T:String}{x:V}{v:Value}(I:`J)(r:RelV x v)(ty:tyV X.K T x H):
  s.TypeIs v T/\∀a,v=`G->∃ob,s.heap.get? a=some ob/\ob.dict=none:=by
 cases x with
 |str z=>
  obtain⟨t,rfl⟩:=r
  cases(show T="str"from ty)
  exact⟨typeIs_str s z t,fun _ e=>nomatch e⟩
 |int i=>
  obtain⟨t,rfl⟩:=r
  cases(show T="int"from ty)
  exact⟨typeIs_int s i t,fun _ e=>nomatch e⟩
 |ref p=>
  cases r
  rcases ty with⟨rfl,xs,hq⟩|⟨rfl,o,hk,hc,hd⟩|⟨rfl,hk⟩|⟨rfl,S,n,hk⟩
  ·obtain⟨its,_,pl,_⟩:=I.list hq
   refine⟨pl.isList.typeIs,fun a e=>?_⟩
   cases e
   obtain⟨o,n,e,c,hd,_⟩:=pl
   exact⟨o,e,hd⟩
  ·refine⟨⟨o,I.kIn p o hk,hc⟩,fun a e=>?_⟩
   cases e
   exact⟨o,I.kIn _ o hk,hd⟩
  ·have z:∃o,s.heap.get? p=some o/\o.ExactDict:=by
    rcases hk with⟨kvs,hk⟩|⟨kvs,hk⟩
    ·obtain⟨_,_,_,_,o,_,_,e,ex,_⟩:=I.hok p _ hk
     exact⟨o,e,ex⟩
    ·obtain⟨_,_,_,_,o,_,_,e,ex,_⟩:=I.hok p _ hk
     exact⟨o,e,ex⟩
   obtain⟨o,e,ex⟩:=z
   refine⟨⟨o,e,ex.1⟩,fun a e2=>?_⟩
   cases e2
   exact⟨o,e,ex.2.1⟩
  ·obtain⟨o,_,_,_,e,ex,_⟩:=I.hok p _ hk
   refine⟨⟨o,e,ex.1⟩,fun a e2=>?_⟩
   cases e2
   exact⟨o,e,ex.2.1⟩
 |_=>exact False.elim ty
def ai5(K:W.Frag)(T:String)(r:V->`F->Hp->VK->Prop)(to:TE):TE:=fun σ H Q=>to σ H fun x H1=>tyV K T x H1/\r x [] H1 Q
def tBM(K:W.Frag)(T:String)(r:V->`F->Hp->VK->Prop)(to:TE)(t:TA):TE:=fun σ H Q=>to σ H fun x H1=>tyV K T x H1/\t σ H1 fun xs H2=>r x xs H2 Q
variable{o e:Expr}{es:List Expr}{to:TE}{t:TA}{name:Str}{apos cpos:Pos}{T id:String}{r:V->`F->Hp->VK->Prop}
theorem Wy(pa:PlainAttrs T)(slot:Slot T name id)(hty:typeOf (.builtin id)=pure (.type "method_descriptor"))(hm:MtR X id r)(ho:PE X o to)
  (hbase:attributeBase o name X.env (eval o X.env)=eval o X.env:=by rfl)(hline:(apos.endLine==cpos.line)=true:=by rfl):PE X (.Call (.Attribute o name apos) [] [] cpos) (ai5 X.K T r to):=by
 intro pins s σ H Q I h
 refine wpAny_Call_method0_late hbase hline (thn (ho pins s σ H _ I h) fun v s1⟨x,H1,I1,r1,ty,q1⟩=>?_)
 obtain⟨h1,h2⟩:=ade I1 r1 ty
 exact⟨T,id,pa,slot,hty,h1,h2,Calls.callWith_builtin rfl (PySem.evalArgs_none (hm pins s1 σ H1 x [] v [] Q I1 r1 .nil q1))⟩
theorem zV(pa:PlainAttrs T)(slot:Slot T name id)(hty:typeOf (.builtin id)=pure (.type "method_descriptor"))(hm:MtR X id r)(ho:PE X o to)(ha:PA X (e::es) t)
  (hbase:attributeBase o name X.env (eval o X.env)=eval o X.env:=by rfl)
  (hfew:((backTo cpos (starEach (e::es) X.env)).all (fun x=>!x.1)&&(backToKw cpos (keywordEach [] X.env)).all (fun x=>x.1.isSome)
   &&decide ((e::es).length+([]:List Keyword).length+(if([]:List Keyword).isEmpty then 0 else 1)<30))=true:=by rfl)
  (hline:(apos.endLine==cpos.line)=true:=by rfl)(hs:`n:=by rfl)(hplain:(backTo cpos (starEach es X.env)).any (·.1)=false:=by rfl):
  PE X (.Call (.Attribute o name apos) (e::es) [] cpos) (tBM X.K T r to t):=by
 intro pins s σ H Q I h
 refine wpAny_Call_method_late hbase hfew hline rfl (thn (ho pins s σ H _ I h) fun v s1⟨x,H1,I1,r1,ty,q1⟩=>?_)
 obtain⟨h1,h2⟩:=ade I1 r1 ty
 refine⟨T,id,pa,slot,hty,h1,h2,?_⟩
 have hA:=ha cpos pins s1 σ H1 _ I1 q1
 rw[hs]at hA|-
 refine Calls.callWith_builtin (by show(false||(backTo cpos (starEach es X.env)).any (·.1))=false;rw[hplain]<;>rfl) (Calls.evalArgs_plain ?_)
 exact thn hA fun us s2⟨vs,H2,I2,r2,q2⟩=>hm pins s2 σ H2 x vs v us Q I2 r1 r2 q2
end
def MtM(X:Cx)(id:String)(r:V->`F->Hp->VK->Prop):Prop:=
 ∀(pins:`Q)(s:Shared)(σ:St)(H:Hp)(x:V)(xs:`F)(v:Value)(us:`M)(Q:VK),`J->RelV x v->Vals xs us->r x xs H Q->
  wpAny `X X.A (call (.builtin id) (v::us)) (EP X pins σ Q) X.xe s
theorem Vals.one:∀{x:V}{us:`M},Vals [x] us->∃u,us=[u]/\RelV x u
 |_,_,.cons r .nil=>⟨_,rfl,r⟩
theorem Vals.zero:∀{us:`M},Vals [] us->us=[]
 |_,.nil=>rfl
theorem Vals.dropLast{xs:`F}{us:`M}(h:Vals xs us):Vals xs.dropLast us.dropLast:=by
 induction h with
 |nil=>exact .nil
 |cons r t ih=>
  cases t with
  |nil=>exact .nil
  |cons q t'=>exact .cons r ih
theorem Vals.eraseIdx:∀{xs:`F}{us:`M}(i:Nat),Vals xs us->Vals (xs.eraseIdx i) (us.eraseIdx i)
 |_,_,_,.nil=>.nil
 |_,_,0,.cons _ t=>t
 |_,_,i+1,.cons r t=>.cons r (Vals.eraseIdx i t)
theorem Vals.reverse{xs:`F}{us:`M}(h:Vals xs us):Vals xs.reverse us.reverse:=by
 induction h with
 |nil=>exact .nil
 |cons r t ih=>rw[List.reverse_cons,List.reverse_cons];exact Vals.append ih (.cons r .nil)
theorem Vals.rep{xs:`F}{us:`M}(h:Vals xs us):∀k:Nat,Vals (List.replicate k xs).flatten (List.replicate k us).flatten
 |0=>.nil
 |k+1=>by
  rw[List.replicate_succ,List.replicate_succ,List.flatten_cons,List.flatten_cons]
  exact Vals.append h (Vals.rep h k)
theorem ace{α:Type}(l:List α):l.eraseIdx (l.length-1)=l.dropLast:=by
 induction l with
 |nil=>rfl
 |cons a r ih=>
  cases r with
  |nil=>rfl
  |cons b r=>
   have e:(a::b::r).length-1=((b::r).length-1)+1:=by
    have h1:(a::b::r).length=r.length+2:=rfl
    have h2:(b::r).length=r.length+1:=rfl
    lia
   rw[e,List.eraseIdx_cons_succ,ih]
   all_goals rfl
theorem Ul{α:Type}:∀(l:List α)(i:Nat),(l.eraseIdx i).length<=l.length
 |[],_=>`P
 |_::_,0=>Nat.le_succ _
 |_::r,i+1=>Nat.succ_le_succ (Ul r i)
theorem foldl_rep(its:`M):∀(k:Nat)(acc:`M),
  List.foldl (fun x1 x2=>x1++x2) acc.toArray (List.replicate k its.toArray)=(acc++(List.replicate k its).flatten).toArray
 |0,acc=>`H
 |k+1,acc=>by
  have e:acc.toArray++its.toArray=(acc++its).toArray:=`H
  have e2:(acc++its)++(List.replicate k its).flatten=acc++(List.replicate (k+1) its).flatten:=by
   rw[List.replicate_succ,List.flatten_cons,List.append_assoc]
  rw[<-e2,<-foldl_rep its k (acc++its),<-e,List.replicate_succ,List.foldl_cons]
section
variable{X:Cx}{pins:`Q}{σ:St}{H:Hp}{s:Shared}{l b:Addr}{xs ys zs:`F}
theorem Inv.RB{its its':`M}{n:Nat}{f:Array Value->Array Value}{t':Nat}(I:`J)(hH:H l=some (.lst xs))
  (e:s.heap.get? l=some {cls:=.type "list",data:=.seq its.toArray n})(hf:f its.toArray=its'.toArray)(hv:Vals ys its')(hz:ys.length<=sizeLine):
  Inv X pins σ (upd H l (.lst ys)) {s with heap:=s.heap.update l (Obj.mapSeq f),toks:=t'}:=by
 have q:=PySem.IsL.update e f
 rw[hf]at q
 refine I.write (x:=l) (e:=l) (by rw[hH];exact trivial) (.inl rfl) (fun b' u hb hu=>(Heap.get?_update_other s.heap (Obj.mapSeq f) (Ne.symm hb)).trans hu) ⟨_,q⟩ ?_
 exact⟨hz,its',_,hv,q⟩
theorem Inv.lnew{its:`M}{t':Nat}(I:`J)(hv:Vals ys its)(hz:ys.length<=sizeLine):
  Inv X pins σ (upd H s.heap.objs.size (.lst ys)) {s with heap:=s.heap.push {cls:=.type "list",data:=.seq its.toArray},toks:=t'}:=
 I.laid (fun _ _ q=>Heap.get?_push_of_some _ q) `P ⟨hz,its,0,hv,Heap.get?_push_size _ rfl⟩
theorem Inv.fresh(I:`J):H s.heap.objs.size=none:=I.hok.fresh `P
theorem Inv.lstM(I:`J)(hH:H l=some (.lst xs)):xs.length<=sizeLine/\∃(its:`M)(n:Nat),Vals xs its/\xs.length=its.length/\s.heap.get? l=some {cls:=.type "list",data:=.seq its.toArray n}:=by
 obtain⟨z,its,n,r,e⟩:=I.hok l _ hH
 exact⟨z,its,n,r,r.length,e⟩
theorem Ej{n:Nat}(h:n<=sizeLine):Builtin.List.listTooLong n=false:=by
 unfold Builtin.List.listTooLong
 exact decide_eq_false `A
end
section
variable{X:Cx}
def ahD:V->`F->Hp->VK->Prop:=fun x vs H Q=>∃l xs y,x=.ref l/\vs=[y]/\H l=some (.lst xs)/\xs.length<sizeLine/\Q .non (upd H l (.lst (xs++[y])))
theorem bN:MtM X "list.append" ahD:=by
 intro pins s σ H x vs v us Q I rx rv h
 obtain⟨l,xs,y,rfl,rfl,hH,hz,q⟩:=h
 cases rx
 obtain⟨u,rfl,ru⟩:=rv.one
 obtain⟨z,its,n,r,hl,e⟩:=I.lstM hH
 refine call_meets F.slot_list_append ⟨_,e,rfl⟩ F.entry_list_append (F.args_list_append_2 _ _) (PySem.list_append l its.toArray n u (by rw[List.size_toArray];lia)) ⟨e,?_⟩
 refine⟨.non,_,I.RB (its':=its++[u]) hH e `H (r.append (.cons ru .nil)) ?_,rfl,q⟩
 rw[List.length_append,List.length_singleton]
 lia
def ahC:V->`F->Hp->VK->Prop:=fun x vs H Q=>∃l b xs zs,x=.ref l/\vs=[.ref b]/\H l=some (.lst xs)/\H b=some (.lst zs)/\xs.length+zs.length<=sizeLine/\Q .non (upd H l (.lst (xs++zs)))
theorem Uj:MtM X "list.extend" ahC:=by
 intro pins s σ H x vs v us Q I rx rv h
 obtain⟨l,b,xs,zs,rfl,rfl,hH,hB,hz,q⟩:=h
 cases rx
 obtain⟨u,rfl,ru⟩:=rv.one
 cases ru
 obtain⟨z,its,n,r,hl,e⟩:=I.lstM hH
 obtain⟨z2,its2,n2,r2,hl2,e2⟩:=I.lstM hB
 have hsz:its.toArray.size+its2.toArray.size<=sizeLine:=by rw[List.size_toArray,List.size_toArray];lia
 have Pu:¬(!its.toArray.isEmpty&&Builtin.List.listTooLong (its.toArray.size+its2.toArray.size))=true:=by
  rw[Ej hsz,Bool.and_false]
  exact Bool.false_ne_true
 refine call_meets F.slot_list_extend ⟨_,e,rfl⟩ F.entry_list_extend (F.args_list_extend_2 _ _)
  (AutoSeq1.list_extend_list_list_0 l its.toArray n b its2.toArray n2 Pu (by rw[List.size_toArray];lia) `A) ⟨e,e2,?_⟩
 refine⟨.non,_,I.RB (its':=its++its2) hH e `H (r.append r2) ?_,rfl,q⟩
 rw[List.length_append]
 lia
def amT:V->`F->Hp->VK->Prop:=fun x vs H Q=>∃l xs y,x=.ref l/\vs=[]/\H l=some (.lst xs)/\xs[xs.length-1]?=some y/\Q y (upd H l (.lst xs.dropLast))
theorem jZ:MtM X "list.pop" amT:=by
 intro pins s σ H x vs v us Q I rx rv h
 obtain⟨l,xs,y,rfl,rfl,hH,hy,q⟩:=h
 cases rx
 have hus:=rv.zero
 subst hus
 obtain⟨z,its,n,r,hl,e⟩:=I.lstM hH
 obtain⟨u,hu,ru⟩:=r.get hy
 have hy':its.toArray[its.toArray.size-1]?=some u:=by
  show its.toArray[its.length-1]?=some u
  rw[<-Array.getElem?_toList,<-hl]
  exact hu
 refine call_meets F.slot_list_pop ⟨_,e,rfl⟩ F.entry_list_pop (F.args_list_pop_1 _) (MeetsSeq.list_pop_last l its.toArray n u hy' (by rw[List.size_toArray];lia)) ⟨e,?_⟩
 refine⟨y,_,I.RB (its':=its.dropLast) hH e ?_ r.dropLast ?_,ru,q⟩
 ·show its.toArray.eraseIdxIfInBounds (its.toArray.size-1)=its.dropLast.toArray
  rw[List.size_toArray,List.eraseIdxIfInBounds_toArray,ace]
 ·rw[List.length_dropLast]
  lia
def ajj:V->`F->Hp->VK->Prop:=fun x vs H Q=>∃l xs i k y,x=.ref l/\vs=[.int i]/\H l=some (.lst xs)/\-(2^63)<=i/\i<2^63/\seqIndex? i xs.length=some k/\xs[k]?=some y/\Q y (upd H l (.lst (xs.eraseIdx k)))
theorem Ms:MtM X "list.pop" ajj:=by
 intro pins s σ H x vs v us Q I rx rv h
 obtain⟨l,xs,i,k,y,rfl,rfl,hH,h1,h2,hk,hy,q⟩:=h
 cases rx
 obtain⟨u,rfl,ru⟩:=rv.one
 obtain⟨t,rfl⟩:=ru
 obtain⟨z,its,n,r,hl,e⟩:=I.lstM hH
 obtain⟨w,hw,rw'⟩:=r.get hy
 refine call_meets F.slot_list_pop ⟨_,e,rfl⟩ F.entry_list_pop (F.args_list_pop_2 _ _)
  (MeetsSeq.list_pop_at l its.toArray n i t k w (fitsIndex_both h1 h2) (by rw[List.size_toArray,<-hl];exact hk) (by rw[<-Array.getElem?_toList];exact hw) (by rw[List.size_toArray];lia)) ⟨e,?_⟩
 refine⟨y,_,I.RB (its':=its.eraseIdx k) hH e ?_ (r.eraseIdx k) ?_,rw',q⟩
 ·show its.toArray.eraseIdxIfInBounds k=(its.eraseIdx k).toArray
  rw[List.eraseIdxIfInBounds_toArray]
 ·have:=Ul xs k
  lia
def amS:R2:=fun x y H Q=>∃l k xs,x=.ref l/\y=.int k/\H l=some (.lst xs)/\-(2^63)<=k/\k<2^63/\xs.length*k.toNat<=sizeLine/\
 ∀p,H p=none->Q (.ref p) (upd H p (.lst (List.replicate k.toNat xs).flatten))
theorem len_rep{α:Type}(xs:List α)(k:Nat):(List.replicate k xs).flatten.length=k*xs.length:=by
 induction k with
 |zero=>simp
 |succ k ih=>rw[List.replicate_succ,List.flatten_cons,List.length_append,ih,Nat.succ_mul,Nat.add_comm]
theorem ajD:OpR X (binaryOp .Mult) amS:=by
 intro pins s σ H x y v u Q I rx ry h
 obtain⟨l,k,xs,rfl,rfl,hH,h1,h2,hz,q⟩:=h
 cases rx
 obtain⟨t,rfl⟩:=ry
 obtain⟨z,its,n,r,hl,e⟩:=I.lstM hH
 have hlen:its.toArray.size*k.toNat<=sizeLine:=by rw[List.size_toArray,<-hl];exact hz
 have hcap:¬its.toArray.size*k.toNat>(2^63-1)/8:=by
  have:(sizeLine:Nat)<=(2^63-1)/8:=`B
  lia
 have hfit:¬(!Builtin.List.listFitsIndex k)=true:=by
  rw[fitsIndex_both h1 h2]
  exact Bool.false_ne_true
 have Pu:¬Builtin.List.listTooLong (its.toArray.size*k.toNat)=true:=by
  rw[Ej hlen]
  exact Bool.false_ne_true
 have hnew:List.foldl (fun x1 x2=>x1++x2) #[] (List.replicate (if its.toArray.isEmpty=true then 0 else k.toNat) its.toArray)=(List.replicate k.toNat its).flatten.toArray:=by
  have f0:∀m:Nat,List.foldl (fun x1 x2=>x1++x2) #[] (List.replicate m its.toArray)=(List.replicate m its).flatten.toArray:=fun m=>by
   have:=foldl_rep its m []
   rw[List.nil_append]at this
   exact this
  rw[f0]
  cases its with
  |nil=>simp
  |cons a r'=>rw[if_neg `H]
 refine wpAny_binaryOp_repeat_ref (T:="list") (U:="int") `B ⟨_,e,rfl⟩ (fun s'=>typeIs_int s' k t) noFill_list_mul F.fills_int_mul F.slot_int_rmul repeat_list F.slot_int_index.lookup
  (call_meets F.slot_int_rmul (typeIs_int s k t) F.entry_int_rmul (F.args_int_rmul_2 _ _) (int___rmul___int_list k t l its.toArray n)
   ⟨e,rfl,⟨_,e,rfl⟩,call_meets F.slot_list_mul ⟨_,e,rfl⟩ F.entry_list_mul (F.args_list_mul_2 _ _) (AutoListH.list___mul___list_int_3 l its.toArray n k t hfit hcap Pu) ⟨e,?_⟩⟩)
 rw[hnew]
 exact⟨.ref _,_,I.lnew (t':=s.toks) (r.rep k.toNat) (by rw[len_rep,Nat.mul_comm];exact hz),rfl,q _ I.fresh⟩
end
section
variable{prog:Program}{w:World}{A:Around}{E:`T}{s:Shared}
end
section
variable{X:Cx}
end
end L2
namespace Att
open PySem PySem.W PySem.Calls PyProof.Rows
theorem ints_of_wellAll{P:Params}{h:Heap}:∀(ns:List Int)(vs:`M),WellAll P h vs (ns.map WData.int)->IntsAre vs ns:=by
 intro ns
 induction ns with
 |nil=>
  intro vs w
  rw[List.map_nil]at w
  cases w
  exact .nil
 |cons n ns ih=>
  intro vs w
  rw[List.map_cons]at w
  cases w with
  |cons a b=>
   cases a
   exact .cons _ _ (ih _ b)
theorem script_of{l:OpenLaw}{n:Nat}(hn:l.most=some n){P:Params}{h:Heap}{args:List WData}{vals:`M}
  (hpre:l.row.toRowW.claim.pre args=true)(hwl:WellAll P h vals args):
  ∃a vs ns,vals=[Value.ref a]/\args=[WData.list (ns.map WData.int)]/\h.get? a=some {cls:=.type "list",data:=.seq vs.toArray}/\IntsAre vs ns/\ns.length<=n:=by
 have hsh:WShape.hasAll [] args [.list .int]=true:=(pre_splitW hpre).1
 have hc:l.pre.holds [] {args:=args}=true:=(pre_splitW hpre).2
 obtain⟨d,r,rfl,h1,h2⟩:=hasAllW_cons hsh
 obtain rfl:=hasAllW_nil h2
 obtain⟨xs,rfl,h3⟩:=hasW_list h1
 obtain⟨ns,rfl⟩:=items_int h3
 have hlen:ns.length<=n:=by
  unfold OpenLaw.pre at hc
  have h4:(WTm.not (.lt (.lit (.int (n:Int))) (.len (.arg 0)))).holds [] {args:=[.list (ns.map .int)]}=true:=by
   have h4:=(holds_andW hc).1
   rw[hn]at h4
   exact h4
  have h5:=condW_of h4 (w_not (w_lt w_lit (w_len_list (w_arg rfl))))
  rw[List.length_map]at h5
  refine Nat.le_of_not_lt fun q=>?_
  have q':(n:Int)<((ns.length:Nat):Int):=`A
  first
   |(rw[decide_eq_true q']at h5;exact absurd h5 `B)
   |(simp at h5;lia)
 cases hwl with
 |cons w1 w2=>
  cases w2
  cases w1 with
  |list ho hall=>exact⟨_,_,ns,rfl,rfl,ho,ints_of_wellAll ns _ hall,hlen⟩
theorem post_true(l:OpenLaw)(args:List WData):l.row.toRowW.claim.post args (.bool true) args=true:=
 postW_of (r:=l.row.toRowW) (X:=(true==true))
  (show WShape.has [] (.bool true) .bool=true by first|rfl|decide|simp[WShape.has,WShape.arms,WShape.armsAll])
  (show(WTm.eq .res (.lit (.bool true))).value [] {args:=args,res:=some (.bool true),after:=args}=some (.bool (true==true))from w_eq_bool (w_res rfl) w_lit) rfl
theorem attach_call{l:OpenLaw}{n:Nat}{q:Program}{loose:List Str}{XP:`U->Heap->Prop}{YP:World->Heap->Prop}{d:DefRec}
  (hn:l.most=some n)(hdf:d.params.defaults=[])
  (call:∀(w:World)(s₀ s₁:Shared)(mg mb:`U)(fa:Addr)(o:Obj)(pm cd doc:Value)(a:Addr)(vs:`M)(ns:List Int),
   Ground q loose [] XP w s₀ mg mb s₁.heap->YP w s₁.heap->
   s₁.heap.get? fa=some o->o.data=.func (docDef d.name d.params d.body d.scope pm cd doc)->s₁.heap.CodeRec cd d.name->mg d.name=some (.ref fa)->
   s₁.heap.get? a=some {cls:=.type "list",data:=.seq vs.toArray}->IntsAre vs ns->ns.length<=n->s₁.gens=#[]->
   codeAny (model l.prog w) callerA (.call (.ref fa) ⟨[`G],[]⟩) (fun r s'=>r=.ok (.ret (.bool true))/\OldK s₁.heap s'.heap/\s'.os=s₁.os/\AllBare s'.gens) s₁):
  WalkO q loose XP YP l.row.toRowW d [] (fun f vs=>PySem.call f vs):=by
 intro w s₀ s₁ mg mb G Y fa o pm cd doc dV kV ho hd hcd hD hmg hg args vals as hpre hlay hrd hwl hlo
 obtain rfl:dV=.none:=Dflts.none hD hdf
 obtain rfl:kV=.none:=Dflts.noKw hD
 obtain⟨a,vs,ns,rfl,rfl,hobj,hints,hlen⟩:=script_of hn hpre hwl
 refine enter_call (codeAny_mono (call w s₀ s₁ mg mb fa o pm cd doc a vs ns G Y ho (fd_plain hd) hcd hmg hobj hints hlen hg) fun r s' hq=>?_)
 obtain⟨rfl,h2,h3,h4⟩:=hq
 exact⟨.inl ⟨.bool true,.bool true,[],rfl,fun _=>rfl,.bool true,post_true l _,fun _=>⟨List.Pairwise.nil,fun _ hm=>(nomatch hm)⟩⟩,h2,h3,h4⟩
section
variable{prog:Program}{w:World}{A:Around}{E:`T}{s:Shared}{K:Frag}
end
end Att
namespace L2
open PySem PySem.Spec PyProof.Rows
theorem vals_ints:∀{vs:`M}{ns:List Int},IntsAre vs ns->Vals (ns.map V.int) vs
 |_,_,.nil=>.nil
 |_,_,.cons n t h=>.cons ⟨t,rfl⟩ (vals_ints h)
def Only(H:Hp):Prop:=∀b,H b=none\/∃o xs,H b=some (.frz o (.lst xs))
theorem law_call{P:Program}{w:World}{K:W.Frag}{mg mb:`U}{CX:CXT}{k:Nat}{fa a:Addr}{fd:FuncData}{x:Str}{sp:Sp}{s₁:Shared}{vs:`M}{ns:List Int}
  (KX:K.In s₁.heap)(hns:s₁.heap.Ns mainGlobals mg)(hb:s₁.heap.Ns builtinsNs mb)(hbb:∀x:Str,x≠"__name__"->mb x=bootBuiltins x)(hlim:s₁.heap.NoLimit)(hg:s₁.gens=#[])
  (ha:s₁.heap.get? a=some {cls:=.type "list",data:=.seq vs.toArray})(hi:IntsAre vs ns)(hl:ns.length<=sizeLine)(hr:Room k callerA)
  (F:∀base:Heap,K.In base->base.Ns mainGlobals mg->FnOk P w K mg base CX k fa fd [x] sp)(hbind:∀(s:Shared)(u:Value),BindsTo s fd ⟨[u],[]⟩ [(x,u)])
  (hsp:∀H:Hp,Only H->SqL K H a (ns.map V.int)->sp [`G] H (fun v _=>v=.bl true) fun _ _ _=>False)
  (hCX:∀H e s',CX [] H s₁ (fun _ _ _=>False) e s'->False):
  codeAny (model P w) callerA (.call (.ref fa) ⟨[`G],[]⟩) (fun r s'=>r=.ok (.ret (.bool true))/\OldK s₁.heap s'.heap/\s'.os=s₁.os/\AllBare s'.gens) s₁:=by
 have rv:=vals_ints hi
 have lenV:=hi.length
 have core:∀H:Hp,Only H->SqL K H a (ns.map V.int)->HOk P w H s₁.heap->(∀b,H b≠none->b=a)->(H a≠none->K.lookup a=none)->
   codeAny (model P w) callerA (.call (.ref fa) ⟨[`G],[]⟩) (fun r s'=>r=.ok (.ret (.bool true))/\OldK s₁.heap s'.heap/\s'.os=s₁.os/\AllBare s'.gens) s₁:=by
  intro H hO hS hok hA hK
  have base_of:∀{b:Addr}{o:Obj},s₁.heap.get? b=some o->H b=none->(hidT s₁.heap H).get? b=some o:=fun e n=>hidT_get e n
  have noA:∀{b:Addr}{o:Obj}{es:Array DictEntry}{ep:Nat},s₁.heap.get? b=some o->o.data=.dict es ep->H b=none:=fun{b o es ep}e d=>by
   cases q:H b with
   |none=>rfl
   |some u=>
    have e':b=a:=hA b (by rw[q];simp)
    subst e'
    rw[ha]at e;cases e
    have d':Data.seq vs.toArray _=Data.dict es ep:=d
    cases d'
  have nsK:∀{b:Addr}{m:`U},s₁.heap.Ns b m->(hidT s₁.heap H).Ns b m:=fun{b m}⟨o,es,ep,e,d,r⟩=>⟨o,es,ep,base_of e (noA e d),d,r⟩
  have hKb:K.In (hidT s₁.heap H):=fun b o e=>base_of (KX b o e) (by
   cases q:H b with
   |none=>rfl
   |some u=>
    have e':b=a:=hA b (by rw[q];simp)
    subst e'
    rw[hK (by rw[q];simp)]at e;cases e)
  have hM:Mod K mg (hidT s₁.heap H):=⟨hKb,nsK hns,⟨mb,nsK hb,hbb⟩,let⟨mc,h1,h2⟩:=hlim;⟨mc,nsK h1,h2⟩⟩
  have e0:Env0 P w K mg (hidT s₁.heap H) callerA [] s₁ H:=⟨rfl,hM,fun b o e=>of_hidT e,Nat.le_of_eq (hidT_size _ _),trivial,fun b hb=>absurd (show b∈([]:List Addr)from hb) `H,hok,.of_eq hg⟩
  refine codeAny_mono ((F _ hKb (nsK hns)).run callerA [] s₁ H ⟨[`G],[]⟩ [`G] [`G] _ _ hr e0 (hbind s₁ `G) (.cons rfl .nil) (hsp H hO hS)) fun r s' h=>?_
  cases r with
  |error e=>exact(hCX H e s' h).elim
  |ok fl=>
   cases fl with
   |next=>exact False.elim h
   |brk=>exact False.elim h
   |cont=>exact False.elim h
   |ret u=>
    obtain⟨v,H',os,bare,un,hok',r',q⟩:=h
    have q':v=.bl true:=q
    subst q'
    obtain rfl:u=Value.bool true:=r'
    refine⟨rfl,OldK.of_keep fun b o e=>?_,os,bare⟩
    cases q:H b with
    |none=>exact un.keep b o e q (by intro z;exact absurd (show b∈([]:List Addr)from z) `H) `H
    |some u=>
     rcases hO b with z|⟨ob,xs,z⟩
     ·rw[q]at z;cases z
     ·have z2:=un.frzs b ob _ z
      obtain⟨e1,_⟩:=hok b _ z
      obtain⟨e2,_⟩:=hok' b _ z2
      rw[e]at e1;cases e1
      exact e2
 cases hk:K.lookup a with
 |some o=>
  have e:=KX a o hk
  rw[ha]at e
  cases e
  refine core (fun _=>none) (fun _=>.inl rfl) (.inr ⟨_,vs.toArray,_,hk,rfl,rfl,rfl,by rw[List.size_toArray,lenV];exact hl,by simpa using rv⟩) (fun b u z=>by have z':(none:Option HO)=some u:=z;cases z') (fun b z=>absurd rfl z) fun z=>absurd rfl z
 |none=>
  refine core (fun b=>if b=a then some (.frz {cls:=.type "list",data:=.seq vs.toArray} (.lst (ns.map V.int)))else none) (fun b=>?_) (.inl (.inr ⟨{cls:=.type "list",data:=.seq vs.toArray},if_pos rfl⟩)) (fun b u z=>?_) (fun b z=>?_) fun _=>hk
  ·by_cases hb:b=a
   ·exact .inr ⟨_,_,if_pos hb⟩
   ·exact .inl (if_neg hb)
  ·by_cases hb:b=a
   ·have z':=(if_pos hb).symm.trans z
    cases z'
    subst hb
    exact⟨ha,by rw[List.length_map];exact hl,vs,_,rv,ha⟩
   ·have z':=(if_neg hb).symm.trans z
    cases z'
  ·by_cases hb:b=a
   ·exact hb
   ·exact absurd (if_neg hb) z
theorem walk_of{l:W.OpenLaw}{n k:Nat}{q:Program}{loose:List Str}{XP:`U->Heap->Prop}{YP:World->Heap->Prop}{d:DefRec}{K:Params->W.Frag}{CX:World->CXT}{sp:World->Sp}{x:Str}
  (hn:l.most=some n)(hn2:n<=sizeLine)(hdf:d.params.defaults=[])(hr:Room k callerA)
  (hY:∀(w:World)(h:Heap),YP w h->(K w.params).In h)
  (F:∀(w:World)(mg:`U)(fa:Addr)(h:Heap),(K w.params).In h->h.Ns mainGlobals mg->mg d.name=some (.ref fa)->
   ∃fd:FuncData,(∀(s:Shared)(u:Value),BindsTo s fd ⟨[u],[]⟩ [(x,u)])/\
    ∀base:Heap,(K w.params).In base->base.Ns mainGlobals mg->FnOk l.prog w (K w.params) mg base (CX w) k fa fd [x] (sp w))
  (hsp:∀(w:World)(H:Hp)(a:Addr)(ns:List Int),ns.length<=n->Only H->SqL (K w.params) H a (ns.map V.int)->sp w [`G] H (fun v _=>v=.bl true) fun _ _ _=>False)
  (hCX:∀(w:World)(H:Hp)(s:Shared)(e:Value)(s':Shared),CX w [] H s (fun _ _ _=>False) e s'->False):
  W.WalkO q loose XP YP l.row.toRowW d [] (fun f vs=>PySem.call f vs):=by
 refine Att.attach_call hn hdf fun w s₀ s₁ mg mb fa o pm cd doc a vs ns G Y ho hd hcd hmg hobj hints hlen hg=>?_
 have KX:=hY w _ Y
 obtain⟨fd,hb,hF⟩:=F w mg fa _ KX G.T.g hmg
 exact law_call KX G.T.g G.T.b G.T.builtins G.T.nolimit hg hobj hints (Nat.le_trans hlen hn2) hr hF hb (fun H hO hS=>hsp w H a ns hlen hO hS) fun H e s'=>hCX w H s₁ e s'
def inClass(s:Stmt)(j:Nat):Stmt:=match s with
 | .ClassDef _ _ _ body _ _ _ _ _ _ _=>body.getD j (.Pass ⟨0,0,0,0⟩)
 |_=>.Pass ⟨0,0,0,0⟩
def defArgs(s:Stmt):Arguments:=match s with
 | .FunctionDef _ a _ _ _ _ _ _ _ _=>a
 |_=>{posonlyargs:=[],args:=[],vararg:=none,kwonlyargs:=[],kw_defaults:=[],kwarg:=none,defaults:=[]}
def defBody(s:Stmt):List Stmt:=match s with
 | .FunctionDef _ _ b _ _ _ _ _ _ _=>b
 |_=>[]
def defScope(s:Stmt):Scope:=match s with
 | .FunctionDef _ _ _ _ _ _ sc _ _ _=>sc
 |_=>{kind:=.function,names:=[],isGenerator:=false,isCoroutine:=false}
abbrev CX0:CXT:=fun _ _ _ _ _ _=>False
abbrev E0:XK:=fun _ _ _=>False
theorem pass0{X:Cx}:Passes CX0 X E0:=fun _ _ _ _ _ _ _ h=>h.elim
structure Fun(K:W.Frag)(x qual:Str)(st:Stmt)(f:Addr)(fd:FuncData):Prop where
 ex:∃(oc:Value)(od:Option Addr)(kV doc pm:Value)(an:Option Addr)(cdv ct:Value)(osl:`g),
  fd=W.fnOf x qual (defArgs st) (defBody st) (defScope st) .none kV doc pm an cdv ct/\K.lookup f=some ⟨oc,od,.func fd,osl⟩/\W.codeIn K cdv qual=true
 kp:W.keepIn K (.ref f)=true
section
variable{P:Program}{w:World}{K:W.Frag}{mg:`U}{base:Heap}
theorem Fun.ok{x qual:Str}{st:Stmt}{f:Addr}{fd:FuncData}{N ps:List Str}{k:Nat}{sp:Sp}(F:Fun K x qual st f fd)(S:FnScope N ps (defScope st))(len:∀vs H Q E,sp vs H Q E->vs.length=ps.length)
  (hbody:∀(cdv:Value)(A:Around)(outer:List Env)(s:Shared)(H:Hp)(vs:`F)(Q:VK)(E:XK),Room k (A.deeper (envOfC qual (defScope st) s.heap.objs.size f cdv))->sp vs H Q E->
   ∃t,PSs (cxOf CX0 P w K mg base N qual (defScope st) f cdv A outer s H E).nox (defBody st) t/\t {nx:=fun _ H'=>Q .non H',rt:=Q} (start N vs) H):FnOk P w K mg base CX0 (k+1) f fd ps sp:=by
 obtain⟨oc,od,kV,doc,pm,an,cdv,ct,osl,rfl,lk,hcd⟩:=F.ex
 refine fn_of lk hcd S len fun A outer s H vs Q E hr hsp=>?_
 obtain⟨t,h,q⟩:=hbody cdv A outer s H vs Q E hr hsp
 exact⟨t,h.nox,q⟩
theorem Fun.binds{x qual:Str}{st:Stmt}{f:Addr}{fd:FuncData}{ps:List Str}(F:Fun K x qual st f fd)
  (h:∀(kV doc pm:Value)(an:Option Addr)(cdv ct:Value)(us:`M),us.length=ps.length->bindArgs (W.fnOf x qual (defArgs st) (defBody st) (defScope st) .none kV doc pm an cdv ct) ⟨us,[]⟩=pure (ps.zip us)):Binds K fd ps []:=by
 obtain⟨oc,od,kV,doc,pm,an,cdv,ct,osl,rfl,lk,hcd⟩:=F.ex
 exact .all (h kV doc pm an cdv ct)
theorem fun_mk{x qual:Str}{st:Stmt}{f:Addr}{oc:Value}{od an:Option Addr}{osl:`g}{kV doc pm cdv ct:Value}(l:K.lookup f=some ⟨oc,od,.func (W.fnOf x qual (defArgs st) (defBody st) (defScope st) .none kV doc pm an cdv ct),osl⟩)
  (c:W.codeIn K cdv qual=true)(k:W.keepIn K (.ref f)=true):Fun K x qual st f (W.fnOf x qual (defArgs st) (defBody st) (defScope st) .none kV doc pm an cdv ct):=⟨⟨oc,od,kV,doc,pm,an,cdv,ct,osl,rfl,l,c⟩,k⟩
end
section
variable{X:Cx}
theorem pv(i:Nat){x:Str}{pos:Pos}(hN:X.N[i]?=some x:=by rfl)(hv:Vis X.env.scope x:=by first|exact`O|exact Or.inr `O|exact Or.inr (Or.inr rfl))(hd:`k:=by decide)
  (hcd:(x==("__classdict__":Str))=false:=by decide):PE X (.Name x pos) (tVar i):=pe_var hN hv hd hcd
end
theorem iteF{A B:Prop}(h:B):if false=true then A else B:=by
 rw[if_neg Bool.false_ne_true]
 exact h
theorem iteT{A B:Prop}(h:A):if true=true then A else B:=by
 rw[if_pos rfl]
 exact h
theorem ite2{c A B:Prop}[Decidable c](h1:c->A)(h2:¬c->B):if c then A else B:=by
 by_cases h:c
 ·rw[if_pos h]
  exact h1 h
 ·rw[if_neg h]
  exact h2 h
def Same(H H':Hp):Prop:=∀b o,H b=some o->H' b=some o
theorem Same.refl(H:Hp):Same H H:=fun _ _ h=>h
theorem Same.trans{H H1 H2:Hp}(a:Same H H1)(b:Same H1 H2):Same H H2:=fun c o h=>b c o (a c o h)
theorem Same.free{H H':Hp}(e:`L){l:Addr}(h:H' l=Option.none):H l=Option.none:=by
 cases q:H l with
 |none=>rfl
 |some o=>
  rw[e l o q]at h
  cases h
theorem Same.seq{K:W.Frag}{H H':Hp}{a:Addr}{xs:`F}(e:`L)(h:SqL K H a xs):SqL K H' a xs:=by
 rcases h with(h|⟨o,h⟩)|h
 ·exact .inl (.inl (e _ _ h))
 ·exact .inl (.inr ⟨o,e _ _ h⟩)
 ·exact .inr h
end L2
set_option maxHeartbeats 4000000
namespace Sw
open PySem PySem.Spec PyProof.Rows L2
abbrev Sg:=List (Option V)
def blk(X:Cx)(scope:Scope)(cl:List (Str×Addr))(C:Addr)(N:List Str)(s:Shared)(H:Hp)(fp:List Addr)(pins:`Q):Cx:=
 {X with N:=N,s₀:=s,H₀:=H,env:=compEnvC scope cl C X.env,outer:=X.stack,ex:=fp,fn:=fun _=>false,calm:=true,pn:=X.pn++pins,xe:=fun _ _=>False}
def Ge(X:Cx)(scope:Scope):List Str->`E->Prop
 |[],[]=>True
 |y::fr,j::js=>(X.N[j]?=some y/\X.env.scope.names.lookup y=some .cell/\(relabel scope X.env).names.lookup y=some .cell)/\Ge X scope fr js
 |_,_=>False
theorem Ge.len{X:Cx}{scope:Scope}:∀{fr:List Str}{js:`E},Ge X scope fr js->fr.length=js.length
 |[],[],_=>rfl
 |_::_,_::_,h=>congrArg (· +1) (Ge.len h.2)
theorem Ge.get{X:Cx}{scope:Scope}:∀{fr:List Str}{js:`E},Ge X scope fr js->∀{i:Nat}{y:Str},fr[i]?=some y->
  ∃j:Nat,js[i]?=some j/\X.N[j]?=some y/\X.env.scope.names.lookup y=some .cell/\(relabel scope X.env).names.lookup y=some .cell
 |[],[],_,i,y,e=>by simp at e
 |z::fr,j::js,h,0,y,e=>by
  have e':z=y:=by simpa using e
  subst e'
  exact⟨j,rfl,h.1⟩
 |z::fr,j::js,h,i+1,y,e=>by
  obtain⟨k,h1,h2⟩:=Ge.get h.2 (i:=i) (y:=y) (by simpa using e)
  exact⟨k,by simpa using h1,h2⟩
structure Jj(X:Cx)(scope:Scope)(x:Str)(fr:List Str)(js:`E)(cl:List (Str×Addr)):Prop where
 kind:scope.kind=.function
 clos:closureFor scope X.env=pure cl
 cell:∀y∈scope.names,y.2≠.cell
 loc:∀y∈scope.names,y.2=.local->scope.names.lookup y.1=some .local
 var:scope.names.lookup x=some .local
 sub:∀y c,cl.lookup y=some c->X.env.cells.lookup y=some c
 has:∀y,((relabel scope X.env).names.lookup y=some .cell\/(relabel scope X.env).names.lookup y=some .free)->∃c,cl.lookup y=some c
 frk:Ge X scope fr js
 nd:(x::fr).Nodup
section
variable{X:Cx}{pins:`Q}{σ:Sg}{H:Hp}{s:Shared}{scope:Scope}{cl:List (Str×Addr)}{x:Str}{fr:List Str}{js:`E}{fp:List Addr}
theorem akR{N:List Str}(I:`J)(L:Jj X scope x fr js cl)(hc:X.calm=true)(hfp:∀b∈fp,FpOk X pins H b)(hsz:∀b∈fp,b<s.heap.objs.size):
  (blk X scope cl s.heap.objs.size N s H fp pins).Ok where
 mod:=I.ok.mod
 kind:=L.kind
 glob:=I.ok.glob
 blt:=I.ok.blt
 above:=`P
 inj:=fun y z c h1 h2=>I.ok.inj y z c (L.sub y c h1) (L.sub z c h2)
 has:=fun y hy=>L.has y hy
 cab:=fun y c h _=>absurd (show false=true from h) Bool.false_ne_true
 hd:=fun _=>I.ok.hd hc
 frames:=I.ok.frames
 stk:=.inl rfl
 exf:=fun b hb=>⟨Nat.ne_of_lt (hsz b hb),fun y c h=>(hfp b hb).2.2.2.2.1 y c (L.sub y c h)⟩
 bs:=I.bs
 bsz:=Nat.le_trans I.ok.bsz I.sz
 noex:=fun b o e hb=>by
  rcases(hfp b hb).2.2.2.1 with z|z
  ·exact I.ok.noex b o e z
  ·exact absurd (Nat.lt_of_lt_of_le (Nat.lt_of_lt_of_le (Heap.lt_size e) I.ok.bsz) z) (Nat.lt_irrefl _)
 exfs:=fun b hb z=>by
  rcases List.mem_cons.mp (I.stkSub b z)with e|e
  ·exact(hfp b hb).2.1 e
  ·exact(hfp b hb).2.2.1 e
 funs:=I.stack
 frf:=I.stkFree
def frv(σ:Sg)(js:`E):Sg:=js.map fun j=>(σ[j]?).getD none
theorem aaY{h1:Heap}{m1:`U}{tk:Nat}(I:`J)(L:Jj X scope x fr js cl)(hc:X.calm=true)(hfp:∀b∈fp,FpOk X pins H b)(hsz:∀b∈fp,b<s.heap.objs.size)
  (hn:h1.Ns s.heap.objs.size m1)(hk:∀b o,s.heap.get? b=some o->h1.get? b=some o):
  Inv (blk X scope cl s.heap.objs.size (x::fr) s H fp pins) [] (none::frv σ js) H {s with heap:=h1,toks:=tk}:=by
 refine⟨akR I L hc hfp hsz,rfl,I.bare,Un.kept hk,⟨m1,hn,fun i y v e1 e2 _=>?_⟩,fun y c e=>?_,I.hok.fresh `P,fun y c e=>I.freeC y c (L.sub y c e),fun p hp=>?_,I.hok.kept hk,?_⟩
 ·cases i with
  |zero=>exact absurd e2 `H
  |succ i=>
   have e1':fr[i]?=some y:=by simpa[blk]using e1
   obtain⟨j,hj,hN,hcell,hrel⟩:=L.frk.get e1'
   have e2':σ[j]?=some (some v):=by
    have q:(frv σ js)[i]?=some (some v):=by simpa using e2
    unfold frv at q
    rw[List.getElem?_map,hj]at q
    have q':(σ[j]?).getD none=some v:=by simpa using q
    cases hs:σ[j]? with
    |none=>rw[hs]at q';cases q'
    |some o=>rw[hs]at q';exact congrArg some q'
   obtain⟨m,_,hl⟩:=I.loc
   obtain⟨u,r,lk⟩:=hl j y v hN e2' (.inr (.inl hcell))
   refine⟨u,r,.inr ⟨.inl hrel,?_⟩⟩
   rcases lk with⟨hloc,_⟩|⟨_,c,hc1,hc2⟩
   ·have:X.env.scope.names.lookup y=some .local:=hloc
    rw[hcell]at this;cases this
   ·obtain⟨c',hc'⟩:=L.has y (.inl hrel)
    have e3:=L.sub y c' hc'
    rw[hc1]at e3;cases e3
    exact⟨c,hc',hc2.keeps hk⟩
 ·obtain⟨v,hv⟩:=I.cell y c (L.sub y c e)
  exact⟨v,hv.keeps hk⟩
 ·have hp':p∈X.pn++pins:=by simpa[blk]using hp
  obtain⟨a1,a2,a3,a4,a5⟩:=I.pin p hp'
  refine⟨hk _ _ a1,a2,Nat.ne_of_lt (Heap.lt_size a1),fun z=>?_,a5⟩
  rcases List.mem_cons.mp (I.stkSub _ z)with e|e
  ·exact a3 e
  ·exact a4 e
 ·show(none::frv σ js).length=(x::fr).length
  simp[frv,L.frk.len]
theorem Yq{H':Hp}{s':Shared}{h':Heap}{σ':Sg}{N:List Str}{pins':`Q}(I:`J)(J:Inv (blk X scope cl s.heap.objs.size N s H fp pins) pins' σ' H' s')(hfp:∀b∈fp,FpOk X pins H b)
  (hsb:Heap.SameBut s.heap.objs.size s'.heap h'):Inv X pins σ H' {s' with heap:=h'}:=by
 have hos:s'.os=s.os:=J.os
 have nC:H' s.heap.objs.size=none:=J.free
 have kp:∀b,b≠s.heap.objs.size->h'.get? b=s'.heap.get? b:=hsb.2
 have low:∀b o,s.heap.get? b=some o->b≠s.heap.objs.size:=fun b o e=>Nat.ne_of_lt (Heap.lt_size e)
 have u:Un (frs X.stack) fp H H' s.heap h':=by
  have u0:Un (frs X.stack) fp H H' s.heap s'.heap:=J.base
  exact⟨fun b o e n h1 h2=>(kp b (low b o e)).trans (u0.keep b o e n h1 h2),fun b o e n h1 h2=>by
    obtain⟨sl,q⟩:=u0.slot b o e n h1 h2
    exact⟨sl,(kp b (low b o e)).trans q⟩,u0.free,fun b o e h1=>by
    obtain⟨o',q⟩:=u0.there b o e h1
    exact⟨o',(kp b (low b o e)).trans q⟩,u0.tups,u0.frzs,u0.tbls⟩
 have hok:HOk X.prog X.w H' h':=fun b o e=>by
  refine(J.hok b o e).stay (fun c v hc q=>(kp c ?_).trans q) (fun _ q=>q) fun _ _ q=>q
  rcases hc with z|z
  ·rw[z];intro z';rw[z',nC]at e;cases e
  ·intro z';rw[z',nC]at z;cases z
 have q:=I.call (g':=s'.gens) (t':=s'.toks) (d':=s'.drawn) u hok J.bare fun b hb=>⟨(hfp b hb).2.2.2.1,(hfp b hb).2.1,(hfp b hb).2.2.2.2.1,(hfp b hb).2.2.2.2.2⟩
 obtain⟨hp,g,d,tk,os⟩:=s'
 have:os=s.os:=hos
 subst this
 exact q
end
def Gd(J:It)(js:`E)(te:TE)(σ:Sg)(Q:VK)(H1:Hp):Prop:=∀D,H1 D=none->
 ∃W:Nat->Nat->`F->`S,(∃m,W 0 m [] (upd H1 D (.lst [])))/\∀i m ys H',W i m ys H'->H' D=some (.lst ys)/\
  ((J.stop i H'/\Q (.ref D) H')\/(J.go i H'/\∀x H2,J.yld i H' x H2->te (some x::frv σ js) H2 fun y H3=>H3 D=some (.lst ys)/\ys.length<sizeLine/\
   ∃m',m'<m/\W (i+1) m' (ys++[y]) (upd H3 D (.lst (ys++[y])))))
def tLC(wi:TI)(js:`E)(te:TE):TE:=fun σ H Q=>wi σ H fun J H1=>Gd J js te σ Q H1
section
variable{X:Cx}{scope:Scope}{cl:List (Str×Addr)}{x:Str}{fr:List Str}{js:`E}{elt iter:Expr}{px pos:Pos}{wi:TI}{te:TE}
theorem aaN{prog:Program}{w:World}{A:Around}{R:Result->Shared->Prop}{s:Shared}{tg:Expr}{it acc:Value}{env:Env}(Iv:Nat->Shared->Prop)
  (turn:∀n s,Iv n s->wpAny `a A (pyNext it) (fun r s1=>match r with
   |none=>R (.ok .next) s1
   |some v=>wpAny `a A (letOwnedTupleGo tg it v) (fun _ s2=>wpAny `a A (assign tg env v) (fun _ s3=>wpAny `a A (eval elt env) (fun y s4=>
     wpAny `a A (call (.builtin "list.append") [acc,y]) (fun _ s5=>∃m,m<n/\Iv m s5) (fun _ _=>False) s4) (fun _ _=>False) s3) (fun _ _=>False) s2) (fun _ _=>False) s1) (fun _ _=>False) s)
  (n:Nat)(h:Iv n s):codeAny `a A (.compLoop (.ListComp elt [⟨tg,iter,[],0⟩] scope pos) 0 it acc env) R s:=by
 refine codeAny_loop rfl Iv (fun n s hI=>?_) n h
 refine wpAny_noted ?_
 rw[compTurn_list1]
 refine wpAny_bind (wpAny_standAt (wpAny_bind (wpAny_mono (turn n s hI) (fun r s1 h1=>?_) fun _ _ z=>z.elim)))
 cases r with
 |none=>exact wpAny_pure h1
 |some v=>
  refine wpAny_bind (wpAny_mono h1 (fun _ s2 h2=>?_) fun _ _ z=>z.elim)
  refine wpAny_bind (wpAny_mono h2 (fun _ s3 h3=>?_) fun _ _ z=>z.elim)
  refine wpAny_bind (wpAny_bind (wpAny_mono h3 (fun y s4 h4=>?_) fun _ _ z=>z.elim))
  refine wpAny_bind (wpAny_mono h4 (fun _ s5 h5=>?_) fun _ _ z=>z.elim)
  exact wpAny_pure (wpAny_pure ⟨rfl,h5⟩)
theorem alI(hc:X.calm=true)(L:Jj X scope x fr js cl)(hi:PI X (.Name x px) iter wi)
  (he:∀C s H fp pins,PE (blk X scope cl C (x::fr) s H fp pins) elt te)
  (hs:∀v,foldedSetIterable iter X.env v=pure v:=by intro _;rfl):
  PE X (.ListComp elt [⟨.Name x px,iter,[],0⟩] scope pos) (tLC wi js te):=by
 intro pins s σ H Q I h
 rw[eval_ListComp]
 refine wpAny_comprehension_free (use:=none) rfl hs L.clos L.kind L.loc (thn (hi pins s σ H _ I h) fun v s1 h1=>thn h1 fun itv s2 h2=>?_)
 obtain⟨it,fp,tn,J,H2,e,I2,T,st2,f2,rd⟩:=h2
 subst e
 obtain⟨W,⟨m0,w0⟩,turn⟩:=rd _ I2.fresh
 have I3:=I2.lnew (ys:=[]) (its:=[]) (t':=s2.toks) .nil `R
 refine wpAny_newObj_type ?_
 have Xw:∀b∈fp,b<s2.heap.objs.size:=fun b hb=>by
  obtain⟨o,ho,_⟩:=T.obj 0 _ st2 b hb
  exact Heap.lt_size ho
 generalize hs3:({s2 with heap:=s2.heap.push {cls:=.type "list",dict:=none,data:=.seq ([]:`M).toArray}}:Shared)=s3
 have I3':Inv X pins σ (upd H2 s2.heap.objs.size (.lst [])) s3:=by rw[<-hs3];exact I3
 have sz3:s3.heap.objs.size=s2.heap.objs.size+1:=by rw[<-hs3];exact Heap.size_push ..
 have k23:∀b o,s2.heap.get? b=some o->s3.heap.get? b=some o:=fun b o e=>by rw[<-hs3];exact Heap.get?_push_of_some _ e
 have fsz:∀b∈fp,b<s3.heap.objs.size:=fun b hb=>by rw[sz3];exact Nat.lt_succ_of_lt (Xw b hb)
 have f3:∀b∈fp,FpOk X pins (upd H2 s2.heap.objs.size (.lst [])) b:=fun b hb=>⟨by rw[upd_ne (Nat.ne_of_lt (Xw b hb))];exact(f2 b hb).1,(f2 b hb).2⟩
 refine wpAny_newFunctionEnv L.cell (by intro y hy;simp at hy) (fun h4 hn4 agq=>?_) L.kind
 have k34:∀b o,s3.heap.get? b=some o->h4.get? b=some o:=fun b o e=>(agq.2 b (Nat.ne_of_lt (Heap.lt_size e))).trans (Heap.get?_push_of_some _ e)
 generalize hX':blk X scope cl s3.heap.objs.size (x::fr) s3 (upd H2 s2.heap.objs.size (.lst [])) fp pins=X'
 have I4:Inv X' [] (none::frv σ js) (upd H2 s2.heap.objs.size (.lst [])) {s3 with heap:=h4,toks:=s3.toks+([]:List (Str×Value)).length}:=by
  rw[<-hX'];exact aaY I3' L hc f3 fsz hn4 k34
 have st4:tn 0 h4:=T.keep _ _ _ st2 fun b _ o e=>k34 b o (k23 b o e)
 have he':PE X' elt te:=by rw[<-hX'];exact he _ _ _ _ _
 have xp:X'.prog=X.prog:=by rw[<-hX'];rfl
 have xw:X'.w=X.w:=by rw[<-hX'];rfl
 have xK:X'.K=X.K:=by rw[<-hX'];rfl
 have xA:X'.A=X.A:=by rw[<-hX'];rfl
 have xc:X'.calm=true:=by rw[<-hX'];rfl
 have xe:X'.xe=fun _ _=>False:=by rw[<-hX'];rfl
 have xn:X'.N=x::fr:=by rw[<-hX'];rfl
 have xv:X'.env=compEnvC scope cl s3.heap.objs.size X.env:=by rw[<-hX'];rfl
 have xpn:X'.pn=X.pn++pins:=by rw[<-hX'];rfl
 have xex:X'.ex=fp:=by rw[<-hX'];rfl
 have xfs:X'.fs=frs X.stack:=by rw[<-hX'];rfl
 have back:∀{H':Hp}{s':Shared}{h':Heap}{σ':Sg},Inv X' [] σ' H' s'->Heap.SameBut s3.heap.objs.size s'.heap h'->Inv X pins σ H' {s' with heap:=h'}:=fun{H' s' h' σ'}J' hsb=>by
  rw[<-hX']at J';exact Yq I3' J' f3 hsb
 have frame:∀b∈fp,b∉frs X.stack:=fun b hb z=>by
  rcases List.mem_cons.mp (I3'.stkSub b z)with e|e
  ·exact(f3 b hb).2.1 e
  ·exact(f3 b hb).2.2.1 e
 have stat:∀{H':Hp},(∀b∈fp,H' b=none)->∀b∈fp,FpOk X' [] H' b:=fun{H'}hn b hb=>by
  refine⟨hn b hb,?_,?_,.inl (by rw[xex];exact hb),?_,?_⟩
  ·rw[xv];exact Nat.ne_of_lt (fsz b hb)
  ·rw[xfs];exact frame b hb
  ·rw[xv];exact fun y c e=>(f3 b hb).2.2.2.2.1 y c (L.sub y c e)
  ·rw[xpn,List.append_nil];exact(f3 b hb).2.2.2.2.2
 have loop:codeAny `X X.A (.compLoop (.ListComp elt [⟨.Name x px,iter,[],0⟩] scope pos) 0 (.ref it) (.ref s2.heap.objs.size) (compEnvC scope cl s3.heap.objs.size X.env))
   (compPost `X X.A X.xe none (EP X pins σ Q) (.ref s2.heap.objs.size) s3.heap.objs.size) {s3 with heap:=h4,toks:=s3.toks+([]:List (Str×Value)).length}:=by
  refine aaN (fun n s'=>∃i ys o H',Inv X' [] (o::frv σ js) H' s'/\tn i s'.heap/\(∀b∈fp,H' b=none)/\W i n ys H') ?_ m0 ⟨0,[],none,_,I4,st4,fun b hb=>(f3 b hb).1,w0⟩
  rintro n s5⟨i,ys,o,H5,I5,st5,fr5,w5⟩
  obtain⟨hD,hstep⟩:=turn i n ys H5 w5
  rcases hstep with⟨stop,qn⟩|⟨go,step⟩
  ·have q:=T.done X' xp xw xK xc i [] s5 _ H5 (fun _ _=>False) I5 (stat fr5) st5 stop
   rw[xA]at q
   refine thn q fun r s6⟨hr,I6⟩=>?_
   subst hr
   obtain⟨m6,hn6,_⟩:=I6.loc
   rw[xv]at hn6
   exact⟨m6,hn6,fun h' hsb=>⟨.ref s2.heap.objs.size,H5,back I6 hsb,rfl,qn⟩⟩
  ·have q:=T.item X' xp xw xK xc i [] s5 _ H5 (fun _ _=>False) I5 (stat fr5) st5 go
   rw[xA]at q
   refine thn q fun r s6⟨u,hr,h6⟩=>?_
   subst hr
   refine thn h6 fun _ s7⟨xx,H7,I7,r7,y7,st7,fr7⟩=>?_
   have I7':=I7.pinned (stat fr7) (T.obj _ _ st7)
   have hg:PG X' (.Name x px) (gName 0):=by
    refine pg_name (i:=0) (x:=x) (by rw[xn];exact L.nd) (by rw[xn];rfl) ?_ ?_
    ·rw[xv];exact .inl (lookup_relabel_local L.var)
    ·rw[xv];exact .inr (lookup_relabel_local L.var)
   have q7:=hg _ s7 _ H7 xx u (fun σ8 H8=>σ8=some xx::frv σ js/\H8=H7) I7' r7 ⟨rfl,rfl⟩
   rw[xp,xw,xA,xe,xv]at q7
   refine thn q7 fun _ s8⟨σ8,H8,I8,e8,e8'⟩=>?_
   subst e8 e8'
   have q8:=he' _ s8 _ _ _ I8 (step xx _ y7)
   rw[xp,xw,xA,xe,xv]at q8
   refine thn q8 fun yv s9⟨y,H9,I9,r9,d9,z9,m9,hm9,w9⟩=>?_
   have q9:=bN (X:=X') _ s9 _ H9 (.ref s2.heap.objs.size) [y] (.ref s2.heap.objs.size) [yv] (fun z H'=>H'=upd H9 s2.heap.objs.size (.lst (ys++[y]))) I9 rfl (.cons r9 .nil) ⟨_,ys,y,rfl,rfl,d9,z9,rfl⟩
   rw[xp,xw,xA,xe]at q9
   refine thn q9 fun _ s10⟨_,H10,I10,_,e10⟩=>?_
   subst e10
   refine⟨m9,hm9,i+1,ys++[y],some xx,_,I10.unpinned,T.keep _ _ _ st7 fun b hb ob e=>(I10.pin (b,ob) (List.mem_append_right _ (List.mem_append_right _ (mem_pinsAt hb e)))).1,fun b hb=>?_,w9⟩
   obtain⟨ob,e,_⟩:=T.obj _ _ st7 b hb
   exact(I10.pin (b,ob) (List.mem_append_right _ (List.mem_append_right _ (mem_pinsAt hb e)))).2.1
 exact codeAny_compStart_list loop (T.self _ 0 _ _ _ st4 loop)
end
def uN(cells:List (Str×Addr)):List (Str×NameKind)->List (Str×Addr)->List (Str×Addr)
 |[],acc=>acc
 |(n,.free)::r,acc=>match cells.lookup n with
  |some c=>uN cells r ((n,c)::acc)
  |none=>uN cells r acc
 |(_,_)::r,acc=>uN cells r acc
theorem Io{cells:List (Str×Addr)}{n:Str}{k:NameKind}{r:List (Str×NameKind)}{acc:List (Str×Addr)}(h:k≠.free):uN cells ((n,k)::r) acc=uN cells r acc:=by
 cases k<;>first|rfl|exact absurd rfl h
theorem Ip{cells:List (Str×Addr)}{n:Str}{c:Addr}{r:List (Str×NameKind)}{acc:List (Str×Addr)}(h:cells.lookup n=some c):uN cells ((n,.free)::r) acc=uN cells r ((n,c)::acc):=by
 rw[uN,h]
theorem Nv{cells:List (Str×Addr)}:∀{names:List (Str×NameKind)}{acc:List (Str×Addr)},(∀y∈names,y.2=.free->∃c,cells.lookup y.1=some c)->(∀y c,acc.lookup y=some c->cells.lookup y=some c)->
  ∀y c,(uN cells names acc).lookup y=some c->cells.lookup y=some c
 |[],_,_,h,y,c,e=>h y c e
 |(n,k)::r,acc,hf,h,y,c,e=>by
  have hr:∀y∈r,y.2=.free->∃c,cells.lookup y.1=some c:=fun y hy=>hf y (List.mem_cons_of_mem _ hy)
  by_cases hk:k=.free
  ·subst hk
   obtain⟨d,hd⟩:=hf (n,.free) List.mem_cons_self rfl
   rw[Ip hd]at e
   refine Nv hr (fun z b hz=>?_) y c e
   rw[List.lookup_cons]at hz
   cases hzn:z==n with
   |true=>
    rw[hzn]at hz
    have:z=n:=eq_of_beq hzn
    rw[this,hd]
    exact hz
   |false=>
    rw[hzn]at hz
    exact h z b hz
  ·rw[Io hk]at e
   exact Nv hr h y c e
theorem Nx{cells:List (Str×Addr)}:∀{names:List (Str×NameKind)}{acc:List (Str×Addr)},(∀y∈names,y.2=.free->∃c,cells.lookup y.1=some c)->
  ∀y:Str,((y,NameKind.free)∈names\/∃c,acc.lookup y=some c)->∃c,(uN cells names acc).lookup y=some c
 |[],_,_,y,h=>by
  rcases h with h|h
  ·simp at h
  ·exact h
 |(n,k)::r,acc,hf,y,h=>by
  have hr:∀y∈r,y.2=.free->∃c,cells.lookup y.1=some c:=fun y hy=>hf y (List.mem_cons_of_mem _ hy)
  by_cases hk:k=.free
  ·subst hk
   obtain⟨d,hd⟩:=hf (n,.free) List.mem_cons_self rfl
   rw[Ip hd]
   refine Nx hr y ?_
   by_cases hyn:y=n
   ·subst hyn
    exact .inr ⟨d,by simp[List.lookup_cons]⟩
   ·rcases h with h|⟨c,h⟩
    ·rcases List.mem_cons.mp h with e|e
     ·exact absurd (congrArg Prod.fst e) hyn
     ·exact .inl e
    ·refine .inr ⟨c,?_⟩
     rw[List.lookup_cons]
     have:(y==n)=false:=by simpa using hyn
     rw[this]
     exact h
  ·rw[Io hk]
   refine Nx hr y ?_
   rcases h with h|h
   ·rcases List.mem_cons.mp h with e|e
    ·exact absurd (congrArg Prod.snd e).symm hk
    ·exact .inl e
   ·exact .inr h
theorem acs{scope:Scope}{env:Env}(hf:∀y∈scope.names,y.2=.free->∃c,env.cells.lookup y.1=some c):closureFor scope env=pure (uN env.cells scope.names []):=by
 have key:∀(names:List (Str×NameKind))(acc:List (Str×Addr)),(∀y∈names,y.2=.free->∃c,env.cells.lookup y.1=some c)->
   (forIn names acc fun(x:Str×NameKind)(cs:List (Str×Addr))=>(match x with|(name,kind)=>if(kind==NameKind.free)=true then(cellOf env name>>=fun a=>pure (ForInStep.yield ((name,a)::cs)))else pure (ForInStep.yield cs):Sem (ForInStep (List (Str×Addr)))))=pure (uN env.cells names acc):=by
  intro names
  induction names with
  |nil=>intro acc _;rfl
  |cons x r ih=>
   intro acc h
   obtain⟨n,k⟩:=x
   have hr:∀y∈r,y.2=.free->∃c,env.cells.lookup y.1=some c:=fun y hy=>h y (List.mem_cons_of_mem _ hy)
   rw[List.forIn_cons]
   by_cases hk:k=.free
   ·subst hk
    obtain⟨d,hd⟩:=h (n,.free) List.mem_cons_self rfl
    have hc:cellOf env n=pure d:=by unfold cellOf;rw[hd]
    rw[Ip hd,<-ih _ hr]
    simp only[beq_self_eq_true,if_true,hc,pure_bind]
   ·have hb:(k==NameKind.free)=false:=by simpa using hk
    rw[Io hk,<-ih _ hr]
    simp only[hb,Bool.false_eq_true,if_false,pure_bind]
 have:=key scope.names [] hf
 unfold closureFor
 simp only[bind_pure_comp,map_pure]at this|-
 first
  |exact this
  |(rw[this];rfl)
  |(simp only[this];rfl)
theorem uG{X:Cx}{scope sc:Scope}{x:Str}{fr:List Str}{js:`E}(hk:scope.kind=.function)(hsc:X.env.scope=sc)(hkf:sc.kind=.function)
  (hcell:∀y∈scope.names,y.2≠.cell)(hloc:∀y∈scope.names,y.2=.local->scope.names.lookup y.1=some .local)(apj:scope.names.lookup x=some .local)
  (hfree:∀y∈scope.names,y.2=.free->sc.names.lookup y.1=some .cell)(hfr:Ge X scope fr js)(hnd:(x::fr).Nodup)
  (hcs:∀y,X.env.scope.names.lookup y=some .cell->∃c,X.env.cells.lookup y=some c):Jj X scope x fr js (uN X.env.cells scope.names []):=by
 have hall:∀y∈scope.names,y.2=.free->∃c,X.env.cells.lookup y.1=some c:=fun y hy e=>hcs _ (by rw[hsc];exact hfree y hy e)
 refine⟨hk,acs hall,hcell,hloc,apj,Nv hall fun y c e=>by simp at e,fun y hy=>Nx hall y (.inl ?_),hfr,hnd⟩
 have get:∀k,(k=NameKind.cell\/k=NameKind.free)->(relabel scope X.env).names.lookup y=some k->(y,NameKind.free)∈scope.names:=fun k hkk e=>by
  have hm:=PySem.mem_of_lookup e
  unfold relabel at hm
  obtain⟨⟨n,k0⟩,hin,heq⟩:=List.mem_map.mp hm
  dsimp only at heq
  split at heq
  ·rename_i hc
   have e1:n=y:=congrArg Prod.fst heq
   have e2:k0=.free:=by
    rw[Bool.and_eq_true,Bool.and_eq_true]at hc
    exact eq_of_beq hc.1.1
   rw[<-e1,<-e2]
   exact hin
  ·have e1:n=y:=congrArg Prod.fst heq
   have e2:k0=k:=congrArg Prod.snd heq
   rcases hkk with z|z
   ·exact absurd (by rw[e2,z]) (hcell _ hin)
   ·rw[<-e1,<-z,<-e2]
    exact hin
 rcases hy with h|h
 ·exact get _ (.inl rfl) h
 ·exact get _ (.inr rfl) h
end Sw
namespace Sw
inductive aP{α β:Type}(R:α->β->Prop):List α->List β->Prop where
 |nil:aP R [] []
 |cons{a:α}{b:β}{as:List α}{bs:List β}:R a b->aP R as bs->aP R (a::as) (b::bs)
namespace aP
variable{α β:Type}{R S:α->β->Prop}
theorem length{as:List α}{bs:List β}(h:aP R as bs):bs.length=as.length:=by
 induction h with
 |nil=>rfl
 |cons _ _ ih=>rw[List.length_cons,List.length_cons,ih]
theorem imp{as:List α}{bs:List β}(f:∀a b,R a b->S a b)(h:aP R as bs):aP S as bs:=by
 induction h with
 |nil=>exact .nil
 |cons r _ ih=>exact .cons (f _ _ r) ih
theorem append{as as':List α}{bs bs':List β}(h:aP R as bs)(g:aP R as' bs'):aP R (as++as') (bs++bs'):=by
 induction h with
 |nil=>exact g
 |cons r _ ih=>exact .cons r ih
theorem one{a:α}{b:β}(h:R a b):aP R [a] [b]:=.cons h .nil
theorem get{as:List α}{bs:List β}(h:aP R as bs):∀{i:Nat}{b:β},bs[i]?=some b->∃a,as[i]?=some a/\R a b:=by
 induction h with
 |nil=>intro i b e;simp at e
 |cons r _ ih=>
  intro i b e
  cases i with
  |zero=>exact⟨_,rfl,by have e':=Option.some.inj e;rw[<-e'];exact r⟩
  |succ i=>exact ih (i:=i) (by simpa using e)
theorem take(n:Nat):∀{as:List α}{bs:List β},aP R as bs->aP R (as.take n) (bs.take n):=by
 induction n with
 |zero=>intro as bs _;rw[List.take_zero,List.take_zero];exact .nil
 |succ n ih=>
  intro as bs h
  cases h with
  |nil=>exact .nil
  |cons r h=>exact .cons r (ih h)
theorem of_get:∀{bs:List β}{as:List α},bs.length=as.length->(∀(i:Nat)b,bs[i]?=some b->∃a,as[i]?=some a/\R a b)->aP R as bs
 |[],[],_,_=>.nil
 |[],_::_,h,_=>by simp at h
 |_::_,[],h,_=>by simp at h
 |b::bs,a::as,h,g=>by
  obtain⟨a',e,r⟩:=g 0 b rfl
  have e':=Option.some.inj e
  refine .cons (by rw[e'];exact r) (of_get (by simpa using h) fun i b e=>?_)
  exact g (i+1) b (by simpa using e)
end aP
inductive T where
 |node(ts:`C)
namespace T
def kids:T->`C| .node ts=>ts
mutual
def parts:T->Nat| .node ts=>1+aG ts
def aG:`C->Nat
 |[]=>0
 |t::ts=>parts t+aG ts
end
mutual
def deep:T->Nat| .node ts=>bK ts
def bK:`C->Nat
 |[]=>0
 |t::ts=>max (deep t+1) (bK ts)
end
mutual
def beq:T->T->Bool| .node ts,.node us=>wF ts us
def wF:`C->`C->Bool
 |[],[]=>true
 |t::ts,u::us=>beq t u&&wF ts us
 |_,_=>false
end
mutual
theorem beq_iff:∀t u:T,beq t u=true↔t=u
 | .node ts,.node us=>by
  unfold beq
  rw[Yr ts us]
  exact⟨fun h=>by rw[h],fun h=>by injection h⟩
theorem Yr:∀ts us:`C,wF ts us=true↔ts=us
 |[],[]=>by simp[wF]
 |[],_::_=>by simp[wF]
 |_::_,[]=>by simp[wF]
 |t::ts,u::us=>by
  unfold wF
  rw[Bool.and_eq_true,beq_iff t u,Yr ts us]
  simp
end
theorem Fy(t:T):beq t t=true:=(beq_iff t t).mpr rfl
instance:DecidableEq T:=fun t u=>if h:beq t u=true then isTrue ((beq_iff t u).mp h)else isFalse fun e=>h ((beq_iff t u).mpr e)
theorem aM(ts:`C):(T.node ts).parts=1+aG ts:=by unfold parts;rfl
theorem aY(ts:`C):(T.node ts).deep=bK ts:=by unfold deep;rfl
theorem aZ:aG []=0:=by unfold aG;rfl
theorem aD(t:T)(ts:`C):aG (t::ts)=t.parts+aG ts:=by rw[aG]
theorem fC:bK []=0:=by unfold bK;rfl
theorem aW(t:T)(ts:`C):bK (t::ts)=max (t.deep+1) (bK ts):=by rw[bK]
theorem cZ(t:T):1<=t.parts:=by cases t;rw[aM];lia
theorem cU(t:T):t.parts=1+aG t.kids:=by cases t;rw[aM];rfl
theorem bM:∀a b:`C,aG (a++b)=aG a+aG b
 |[],b=>by rw[aZ,List.nil_append];lia
 |t::a,b=>by rw[List.cons_append,aD,aD,bM a b];lia
theorem o_:∀a b:`C,bK (a++b)=max (bK a) (bK b)
 |[],b=>by rw[fC,List.nil_append];lia
 |t::a,b=>by rw[List.cons_append,aW,aW,o_ a b];lia
theorem cB:∀ts:`C,ts.length<=aG ts
 |[]=>`H
 |t::ts=>by
  have h1:=cZ t
  have h2:=cB ts
  rw[aD,List.length_cons]
  lia
theorem Ov{ts:`C}{t:T}(h:ts[ts.length-1]?=some t):aG ts=aG ts.dropLast+t.parts:=by
 have e:ts=ts.dropLast++[t]:=by
  have hne:ts≠[]:=by rintro rfl;simp at h
  have h2:=List.dropLast_concat_getLast hne
  have h3:ts.getLast hne=t:=by
   rw[<-List.getLast?_eq_getElem?,List.getLast?_eq_some_getLast hne]at h
   exact Option.some.inj h
  rw[h3]at h2
  exact h2.symm
 have e2:aG ts=aG (ts.dropLast++[t]):=congrArg aG e
 rw[e2,bM,aD,aZ]
 lia
theorem Ly(n:Nat)(ts:`C):aG ts=aG (ts.take n)+aG (ts.drop n):=by
 rw[<-bM,List.take_append_drop]
theorem Hu{B:Nat}:∀{ts:`C},(∀t∈ts,t.parts<=B)->aG ts<=ts.length*B
 |[],_=>by rw[aZ];lia
 |t::ts,h=>by
  have h1:=h t List.mem_cons_self
  have h2:=Hu fun u hu=>h u (List.mem_cons_of_mem _ hu)
  rw[aD,List.length_cons,Nat.succ_mul]
  lia
theorem Ks{B:Nat}:∀{ts:`C},(∀t∈ts,t.deep+1<=B)->bK ts<=B
 |[],_=>by rw[fC];lia
 |t::ts,h=>by
  have h1:=h t List.mem_cons_self
  have h2:=Ks fun u hu=>h u (List.mem_cons_of_mem _ hu)
  rw[aW]
  lia
theorem vO:∀{ts:`C}{t:T},t∈ts->t.parts<=aG ts
 |_::ts,t,h=>by
  rw[aD]
  rcases List.mem_cons.mp h with rfl|h
  ·lia
  ·have:=vO h
   lia
theorem oV:∀{ts:`C}{t:T},t∈ts->t.deep+1<=bK ts
 |_::ts,t,h=>by
  rw[aW]
  rcases List.mem_cons.mp h with rfl|h
  ·lia
  ·have:=oV h
   lia
end T
open PySem PySem.Spec PyProof.Rows L2
theorem same_new{H:Hp}{p:Addr}(h:H p=none)(o:HO):Same H (upd H p o):=fun b u q=>by rw[upd_ne (ne_of_none q h)];exact q
structure Kt(H H':Hp):Prop where
 t:∀b xs,H b=some (.tup xs)->H' b=some (.tup xs)
 f:∀b o u,H b=some (.frz o u)->H' b=some (.frz o u)
theorem Kt.of{H H':Hp}(S:`L):Kt H H':=⟨fun b _ e=>S b _ e,fun b _ _ e=>S b _ e⟩
theorem Kt.refl(H:Hp):Kt H H:=⟨fun _ _ e=>e,fun _ _ _ e=>e⟩
theorem Kt.trans{H H1 H2:Hp}(a:Kt H H1)(b:Kt H1 H2):Kt H H2:=⟨fun _ _ e=>b.t _ _ (a.t _ _ e),fun _ _ _ e=>b.f _ _ _ (a.f _ _ _ e)⟩
theorem Kt.new{H:Hp}{p:Addr}{o:HO}(h:H p=none):Kt H (upd H p o):=.of (same_new h o)
theorem Kt.lst{H:Hp}{p:Addr}{ys:`F}{o:HO}(h:H p=some (.lst ys)):Kt H (upd H p o):=
 ⟨fun b xs e=>by rw[upd_ne (ne_of e h (fun z=>by cases z))];exact e,fun b o' u e=>by rw[upd_ne (ne_of e h (fun z=>by cases z))];exact e⟩
theorem eU{K:W.Frag}{H H':Hp}{a:Addr}{xs:`F}(S:Kt H H')(h:SqT K H a xs):SqT K H' a xs:=by
 rcases h with(h|⟨o,h⟩)|h
 ·exact .inl (.inl (S.t _ _ h))
 ·exact .inl (.inr ⟨o,S.f _ _ _ h⟩)
 ·exact .inr h
theorem bQ{H H':Hp}{p:Addr}{o:HO}(S:`L)(h:H p=none):Same H (upd H' p o):=fun b u q=>by rw[upd_ne (ne_of_none q h)];exact S b u q
section
variable{X:Cx}
theorem H_(l:Addr)(items:Array Value)(n:Nat)(b:Addr)(items2:Array Value)(n2:Nat)(dd:Option Addr)(sl:`g)
  (h0:¬(!items.isEmpty&&Builtin.List.listTooLong (items.size+items2.size))=true)(h1:items.size<=sizeLine)(h2:items.size+items2.size<=sizeLine+1):
  Meets (Builtin.«list.extend» ⟨[.ref l,.ref b],[]⟩) (fun _ R s=>s.heap.get? l=some {cls:=.type "list",dict:=none,data:=.seq items n,slots:=#[]}/\
   s.heap.get? b=some {cls:=`b,dict:=dd,data:=.seq items2 n2,slots:=sl}/\R (.ok (.ret Value.none)) {s with heap:=s.heap.update l (Obj.mapSeq fun x=>x++items2),toks:=s.toks}):=
 .of_wp fun prog w A R s h=>by
  obtain⟨hp,g,d,tk,os⟩:=s
  obtain⟨hl,hb,h⟩:=h
  have f1:=AutoSeq1.idx_int
  have f2:=AutoSeq1.sub_tuple_tuple
  have f3:=AutoSeq1.sub_list_list
  have f4:=AutoSeq1.sub_tuple_list
  have f5:=AutoSeq1.sub_list_tuple
  have hz':(items++items2).size<=sizeLine+1:=by
   rw[Array.size_append]
   exact h2
  wp_walk using(wpAny_updateSeq hl rfl (hz:=h1) (_hz':=hz')),AutoSeq1.wpAny_loadPart' hl,AutoSeq1.wpAny_loadPart' hb
  exact⟨_,rfl,h⟩
def alz(K:W.Frag):V->`F->Hp->VK->Prop:=fun x vs H Q=>∃l b xs zs,x=.ref l/\vs=[.ref b]/\H l=some (.lst xs)/\SqT K H b zs/\xs.length+zs.length<=sizeLine/\Q .non (upd H l (.lst (xs++zs)))
theorem aaK:MtM X "list.extend" (alz X.K):=by
 intro pins s σ H x vs v us Q I rx rv h
 obtain⟨l,b,xs,zs,rfl,rfl,hH,hB,hz,q⟩:=h
 cases rx
 obtain⟨u,rfl,ru⟩:=rv.one
 cases ru
 obtain⟨z,its,n,r,hl,e⟩:=I.lstM hH
 obtain⟨its2,r2,⟨⟨c2,d2,dt2,sl2⟩,e2,hc2,n2,hd2⟩,z2⟩:=I.tuple hB
 have hl2:=r2.length
 simp only at hc2 hd2
 subst hc2 hd2
 have hsz:its.toArray.size+its2.toArray.size<=sizeLine:=by rw[List.size_toArray,List.size_toArray];lia
 have Pu:¬(!its.toArray.isEmpty&&Builtin.List.listTooLong (its.toArray.size+its2.toArray.size))=true:=by
  rw[Ej hsz,Bool.and_false]
  exact Bool.false_ne_true
 refine call_meets F.slot_list_extend ⟨_,e,rfl⟩ F.entry_list_extend (F.args_list_extend_2 _ _)
  (H_ l its.toArray n b its2.toArray n2 d2 sl2 Pu (by rw[List.size_toArray];lia) `A) ⟨e,e2,?_⟩
 refine⟨.non,_,I.RB (its':=its++its2) hH e `H (r.append r2) ?_,rfl,q⟩
 rw[List.length_append]
 lia
theorem Gz{prog:Program}{w:World}{A:Around}{E:`T}{s:Shared}{t sl:Addr}{items:Array Value}{vl vu:Value}{lo hi:Option Int}{Q:`T}
  (ht:IsTup s.heap t items)(hs:s.heap.IsSliceOf sl vl vu .none)(pl:IsPart vl lo)(pu:IsPart vu hi)
  (h1:HT.sIx items.size 0 lo=0)(h2:HT.sIx items.size items.size hi=items.size)(h:Q (.ref t) s):wpAny `a A (getItem (.ref t) (.ref sl)) Q E s:=by
 obtain⟨os,hos,hcs,hds⟩:=id hs
 have hTs:s.TypeIs (.ref sl) "slice":=⟨os,hos,hcs⟩
 unfold getItem
 try with_reducible refine wpAny_holding ?_
 first|refine wpAny_bind (wpAny_pure ?_)|skip
 refine wpAny_bind (wpAny_sequenceKey ht.typeIs `B ?_)
 refine wpAny_bind (wpAny_callSpecial?_slot (name:=Str.ofString "__getitem__") ht.typeIs PyProof.Rows.slot_tuple_getitem
  (wpAny_call_entry PyProof.Rows.slot_tuple_getitem ht.typeIs entry_tuple_getitem ?_ (args_tuple_getitem _ _)))
 show wpAny _ _ (Builtin.Tuple.tupleItemsOf (.ref t)>>=_) _ _ s
 refine wpAny_bind (tupleItemsOf_ ht ?_)
 refine wpAny_bind (wpAny_typeOf hTs ?_)
 rw[if_pos `B]
 refine wpAny_bind (HT.yC hs pl pu ?_)
 have hyes:(((HT.sIx items.size 0 lo:Nat):Int)==0&&(1:Int)==1&&(HT.sIx items.size items.size hi-HT.sIx items.size 0 lo)==items.size)=true:=by
  rw[h1,h2]
  simp
 show wpAny _ _ (if(((HT.sIx items.size 0 lo:Nat):Int)==0&&(1:Int)==1&&(HT.sIx items.size items.size hi-HT.sIx items.size 0 lo)==items.size)=true then _ else _) _ _ s
 rw[if_pos hyes]
 unfold Builtin.Tuple.tupleIsExact
 refine wpAny_bind (wpAny_bind (wpAny_typeOf ht.typeIs (wpAny_pure ?_)))
 rw[if_pos `B]
 refine wpAny_bind (wpAny_rule ?_)
 exact wpAny_pure ⟨_,rfl,wpAny_pure h⟩
def alw(K:W.Frag):V->Option Int->Option Int->Hp->VK->Prop:=fun x lo hi H Q=>∃a xs,x=`G/\SqT K H a xs/\
 HT.sIx xs.length 0 lo=0/\HT.sIx xs.length xs.length hi=xs.length/\Q `G H
theorem ahl:SlR X (alw X.K):=by
 intro pins s σ H x v vl vu lo hi sl Q I rx hs pl pu h
 obtain⟨a,xs,rfl,hx,w1,w2,q⟩:=h
 cases rx
 obtain⟨its,r,ht,hz⟩:=I.tuple hx
 have hlen:its.toArray.size=xs.length:=by rw[List.size_toArray];exact r.length.symm
 refine⟨"tuple",_,PyProof.Rows.slot_tuple_getitem.lookup,ht.typeIs,?_⟩
 exact Gz ht hs pl pu (by rw[hlen];exact w1) (by rw[hlen];exact w2) ⟨`G,H,I,rfl,q⟩
def abB(K:W.Frag):V->Option Int->Option Int->Hp->VK->Prop:=fun x lo hi H Q=>∃a xs,x=`G/\SqT K H a xs/\∀p H',`L->SqT K H' p (mJ xs lo hi)->Q (.ref p) H'
theorem acp{xs:`F}{lo hi:Option Int}(h1:HT.sIx xs.length 0 lo=0)(h2:HT.sIx xs.length xs.length hi=xs.length):mJ xs lo hi=xs:=by
 unfold mJ
 rw[h1,h2]
 simp
theorem Jv:SlR X (abB X.K):=by
 intro pins s σ H x v vl vu lo hi sl Q I rx hs pl pu h
 obtain⟨a,xs,rfl,hx,q⟩:=h
 by_cases hw:HT.sIx xs.length 0 lo=0/\HT.sIx xs.length xs.length hi=xs.length
 ·exact ahl pins s σ H _ v vl vu lo hi sl Q I rx hs pl pu ⟨a,xs,rfl,hx,hw.1,hw.2,q a H (Same.refl H) (by rw[acp hw.1 hw.2];exact hx)⟩
 ·exact ai9 pins s σ H _ v vl vu lo hi sl Q I rx hs pl pu ⟨a,xs,rfl,hx,hw,fun p hp=>q p _ (same_new hp _) (SqT.of upd_same)⟩
theorem KH:CallR X (.builtin "isinstance") (fun xs H Q=>∃x T t b,xs=[x,.ty T]/\TyOf X.K H x t/\W.kitOne X.K t (.type T)=some b/\Q (.bl b) H):=by
 intro pins s σ H xs us Q I r h
 obtain⟨x,T,t,b,rfl,ty,e,q⟩:=h
 obtain⟨u,w',rfl,r1,r2⟩:=vals2 r
 cases r2
 exact Us I r1 ty e fun tk=>⟨.bl b,H,I.tok tk,rfl,q⟩
theorem Yn:CallR X (.builtin "isinstance") (fun xs H Q=>∃a ys T b,xs=[`G,.ty T]/\SqT X.K H a ys/\W.kitOne X.K `b (.type T)=some b/\Q (.bl b) H):=by
 intro pins s σ H xs us Q I r h
 obtain⟨a,ys,T,b,rfl,hq,e,q⟩:=h
 obtain⟨u,w',rfl,r1,r2⟩:=vals2 r
 cases r1
 cases r2
 obtain⟨its,_,⟨o,h1,h2,_⟩,_⟩:=I.tuple hq
 exact W.kia_one W.kitx_tuple I.kIn ⟨o,h1,h2⟩ e (fun z=>nomatch z) fun tk=>⟨.bl b,H,I.tok tk,rfl,q⟩
end
mutual
def TR(K:W.Frag)(H:Hp):T->V->Prop
 | .node ts,x=>∃a xs,x=`G/\SqT K H a xs/\TRs K H ts xs
def TRs(K:W.Frag)(H:Hp):`C->`F->Prop
 |[],xs=>xs=[]
 |t::ts,xs=>∃x r,xs=x::r/\TR K H t x/\TRs K H ts r
end
section
variable{K:W.Frag}{H H':Hp}
theorem bZ{ts:`C}{x:V}:TR K H (.node ts) x↔∃a xs,x=`G/\SqT K H a xs/\TRs K H ts xs:=by rw[TR]
theorem bJ{xs:`F}:TRs K H [] xs↔xs=[]:=by rw[TRs]
theorem b_{t:T}{ts:`C}{xs:`F}:TRs K H (t::ts) xs↔∃x r,xs=x::r/\TR K H t x/\TRs K H ts r:=by rw[TRs]
theorem vm{t:T}{x:V}(h:TR K H t x):∃a xs,x=`G/\SqT K H a xs/\TRs K H t.kids xs:=by
 cases t with
 |node ts=>exact bZ.mp h
theorem qM{ts:`C}{a:Addr}{xs:`F}(h:SqT K H a xs)(q:TRs K H ts xs):TR K H (.node ts) `G:=bZ.mpr ⟨a,xs,rfl,h,q⟩
mutual
theorem TR.mono(S:Kt H H'):∀{t:T}{x:V},TR K H t x->TR K H' t x
 | .node ts,x,h=>by
  obtain⟨a,xs,e,h1,h2⟩:=bZ.mp h
  exact bZ.mpr ⟨a,xs,e,eU S h1,TRs.mono S h2⟩
theorem TRs.mono(S:Kt H H'):∀{ts:`C}{xs:`F},TRs K H ts xs->TRs K H' ts xs
 |[],xs,h=>by rw[bJ]at h|-;exact h
 |t::ts,xs,h=>by
  obtain⟨x,r,e,h1,h2⟩:=b_.mp h
  exact b_.mpr ⟨x,r,e,TR.mono S h1,TRs.mono S h2⟩
end
theorem TRs.length:∀{ts:`C}{xs:`F},TRs K H ts xs->xs.length=ts.length
 |[],xs,h=>by rw[bJ]at h;rw[h];rfl
 |t::ts,xs,h=>by
  obtain⟨x,r,e,h1,h2⟩:=b_.mp h
  rw[e,List.length_cons,List.length_cons,TRs.length h2]
theorem TRs.append:∀{ts us:`C}{xs ys:`F},TRs K H ts xs->TRs K H us ys->TRs K H (ts++us) (xs++ys)
 |[],us,xs,ys,h,g=>by rw[bJ]at h;rw[h];exact g
 |t::ts,us,xs,ys,h,g=>by
  obtain⟨x,r,e,h1,h2⟩:=b_.mp h
  rw[e]
  exact b_.mpr ⟨x,r++ys,rfl,h1,TRs.append h2 g⟩
theorem TRs.get:∀{ts:`C}{xs:`F},TRs K H ts xs->∀{i:Nat}{x:V},xs[i]?=some x->∃t,ts[i]?=some t/\TR K H t x
 |[],xs,h,i,x,e=>by rw[bJ]at h;rw[h]at e;simp at e
 |t::ts,xs,h,i,x,e=>by
  obtain⟨y,r,rfl,h1,h2⟩:=b_.mp h
  cases i with
  |zero=>exact⟨t,rfl,by have e':y=x:=(by simpa using e);rw[<-e'];exact h1⟩
  |succ i=>exact TRs.get h2 (i:=i) (by simpa using e)
theorem TRs.take:∀(n:Nat){ts:`C}{xs:`F},TRs K H ts xs->TRs K H (ts.take n) (xs.take n)
 |0,ts,xs,h=>by rw[List.take_zero,List.take_zero,bJ]
 |n+1,[],xs,h=>by rw[bJ]at h;rw[h];exact bJ.mpr rfl
 |n+1,t::ts,xs,h=>by
  obtain⟨x,r,rfl,h1,h2⟩:=b_.mp h
  exact b_.mpr ⟨x,r.take n,rfl,h1,TRs.take n h2⟩
theorem TRs.drop:∀(n:Nat){ts:`C}{xs:`F},TRs K H ts xs->TRs K H (ts.drop n) (xs.drop n)
 |0,ts,xs,h=>h
 |n+1,[],xs,h=>by rw[bJ]at h;rw[h];exact bJ.mpr rfl
 |n+1,t::ts,xs,h=>by
  obtain⟨x,r,rfl,h1,h2⟩:=b_.mp h
  exact TRs.drop n h2
theorem TRs.dropLast{ts:`C}{xs:`F}(h:TRs K H ts xs):TRs K H ts.dropLast xs.dropLast:=by
 rw[List.dropLast_eq_take,List.dropLast_eq_take,h.length]
 exact h.take _
end
section
variable{X:Cx}{pins:`Q}{σ:Sg}{H:Hp}{s:Shared}
theorem Vr(I:`J):∀(n:Nat),(∀(t u:T)(x:V),t.parts<=n->TR X.K H t x->TR X.K H u x->t=u)/\(∀(ts us:`C)(xs:`F),T.aG ts<=n->TRs X.K H ts xs->TRs X.K H us xs->ts=us)
 |0=>⟨fun t u x h _ _=>absurd (T.cZ t) `A,fun ts us xs h q r=>by
   have h1:=T.cB ts
   have h2:=q.length
   have h3:=r.length
   have e1:ts=[]:=List.length_eq_zero_iff.mp `A
   have e2:us=[]:=List.length_eq_zero_iff.mp `A
   rw[e1,e2]⟩
 |n+1=>by
  have ih:=Vr I n
  have A:∀(t u:T)(x:V),t.parts<=n+1->TR X.K H t x->TR X.K H u x->t=u:=fun t u x h q r=>by
   cases t with
   |node ts=>
    cases u with
    |node us=>
     obtain⟨a,xs,e1,q1,q2⟩:=bZ.mp q
     obtain⟨b,ys,e2,r1,r2⟩:=bZ.mp r
     rw[e1]at e2
     cases e2
     have:=I.GX q1 r1
     subst this
     rw[T.aM]at h
     rw[ih.2 ts us xs `A q2 r2]
  refine⟨A,fun ts us xs h q r=>?_⟩
  cases ts with
  |nil=>
   rw[bJ]at q
   subst q
   have:=r.length
   exact(List.length_eq_zero_iff.mp (by simpa using this.symm)).symm
  |cons t ts=>
   obtain⟨x,r',rfl,q1,q2⟩:=b_.mp q
   cases us with
   |nil=>rw[bJ]at r;cases r
   |cons u us=>
    obtain⟨x2,r2',e,r1,r2⟩:=b_.mp r
    cases e
    rw[T.aD]at h
    have h1:=T.cZ t
    rw[A t u x `A q1 r1,ih.2 ts us r' `A q2 r2]
def n_(ts us:`C)(j:Nat):Bool:=match ts[j]?,us[j]? with
 |some t,some u=>T.beq t u
 |_,_=>false
theorem wW:∀ts us:`C,((List.range (min ts.length us.length)).all (n_ ts us)&&ts.length==us.length)=T.wF ts us
 |[],[]=>by simp[T.wF]
 |[],u::us=>by simp[T.wF]
 |t::ts,[]=>by simp[T.wF]
 |t::ts,u::us=>by
  have ih:=wW ts us
  have e:min (t::ts).length (u::us).length=min ts.length us.length+1:=by simp only[List.length_cons];lia
  rw[e,List.range_succ_eq_map,List.all_cons,List.all_map]
  have e2:(n_ (t::ts) (u::us)∘Nat.succ)=n_ ts us:=by
   funext j
   simp[n_]
  have e3:n_ (t::ts) (u::us) 0=T.beq t u:=rfl
  have e4:((t::ts).length==(u::us).length)=(ts.length==us.length):=`H
  rw[e2,e3,e4,Bool.and_assoc,ih]
  rw[T.wF]
theorem aaw(I:`J):∀(n:Nat)(t u:T)(A:Around)(a b:Addr),t.deep<=n->TR X.K H t `G->TR X.K H u (.ref b)->A.units+n<cLine->SeqAt.RcAt A s `G (.ref b) (T.beq t u):=by
 intro n
 induction n with
 |zero=>
  intro t u A a b hd q r hu
  cases t with
  |node ts=>
   cases u with
   |node us=>
    obtain⟨a',xs,e1,q1,q2⟩:=bZ.mp q
    cases e1
    obtain⟨b',ys,e2,r1,r2⟩:=bZ.mp r
    cases e2
    rw[T.aY]at hd
    have hts:ts=[]:=by
     cases ts with
     |nil=>rfl
     |cons t ts=>rw[T.aW]at hd;lia
    subst hts
    rw[bJ]at q2
    subst q2
    obtain⟨its,rv,ht,_⟩:=I.tuple q1
    obtain⟨its2,rv2,ht2,_⟩:=I.tuple r1
    have h0:=rv.length
    have h2:=rv2.length
    have h3:=r2.length
    have key:=SeqAt.RcAt.tuples (A:=A) (e:=fun _=>true) ht ht2 `A (fun j j1 _=>absurd j1 (by rw[List.size_toArray,<-h0];simp))
    have ev:((List.range (min its.toArray.size its2.toArray.size)).all (fun _=>true)&&its.toArray.size==its2.toArray.size)=T.beq (.node []) (.node us):=by
     rw[List.size_toArray,List.size_toArray,<-h0,<-h2,h3,T.beq,<-wW]
     simp
    rw[ev]at key
    exact key
 |succ n ih=>
  intro t u A a b hd q r hu
  cases t with
  |node ts=>
   cases u with
   |node us=>
    obtain⟨a',xs,e1,q1,q2⟩:=bZ.mp q
    cases e1
    obtain⟨b',ys,e2,r1,r2⟩:=bZ.mp r
    cases e2
    rw[T.aY]at hd
    obtain⟨its,rv,ht,_⟩:=I.tuple q1
    obtain⟨its2,rv2,ht2,_⟩:=I.tuple r1
    have l1:=rv.length
    have l2:=rv2.length
    have l3:=q2.length
    have l4:=r2.length
    have key:=SeqAt.RcAt.tuples (A:=A) (e:=n_ ts us) ht ht2 `A (fun j j1 j2=>?_)
    ·have ev:((List.range (min its.toArray.size its2.toArray.size)).all (n_ ts us)&&its.toArray.size==its2.toArray.size)=T.beq (.node ts) (.node us):=by
      rw[List.size_toArray,List.size_toArray,<-l1,<-l2,l3,l4,T.beq,<-wW]
     rw[ev]at key
     exact key
    ·have j1':j<xs.length:=by rw[l1];simpa using j1
     have j2':j<ys.length:=by rw[l2];simpa using j2
     obtain⟨u1,hu1,ru1⟩:=rv.get (List.getElem?_eq_getElem j1')
     obtain⟨u2,hu2,ru2⟩:=rv2.get (List.getElem?_eq_getElem j2')
     obtain⟨t1,ht1,tr1⟩:=q2.get (List.getElem?_eq_getElem j1')
     obtain⟨t2,agp,tr2⟩:=r2.get (List.getElem?_eq_getElem j2')
     have ee:n_ ts us j=T.beq t1 t2:=by unfold n_;rw[ht1,agp]
     have g1:its.toArray[j]=u1:=by
      have:its[j]?=some u1:=hu1
      rw[List.getElem?_eq_some_iff]at this
      obtain⟨_,e⟩:=this
      simpa using e
     have g2:its2.toArray[j]=u2:=by
      have:its2[j]?=some u2:=hu2
      rw[List.getElem?_eq_some_iff]at this
      obtain⟨_,e⟩:=this
      simpa using e
     rw[ee,g1,g2]
     obtain⟨a1,zs1,e1,_⟩:=vm tr1
     obtain⟨a2,zs2,e2,_⟩:=vm tr2
     rw[e1]at ru1 tr1
     rw[e2]at ru2 tr2
     obtain rfl:u1=Value.ref a1:=ru1
     obtain rfl:u2=Value.ref a2:=ru2
     by_cases hne:a1=a2
     ·subst hne
      have et:t1=t2:=(Vr I t1.parts).1 t1 t2 _ `P tr1 tr2
      rw[et,T.Fy]
      exact SeqAt.EqAt.same _
     ·have hd1:t1.deep<=n:=by
       have:=T.oV (List.mem_of_getElem? ht1)
       lia
      exact SeqAt.EqAt.of_refs hne (ih t1 t2 A.in1 a1 a2 hd1 tr1 tr2 (by rw[Around.in1_units];lia))
end
section
variable{X:Cx}
def alA(K:W.Frag)(n:Nat):R2:=fun x y H Q=>∃t u,TR K H t x/\TR K H u y/\t.deep<=n/\Q (.bl (T.beq t u)) H
theorem JD{n:Nat}(hu:X.A.units+n<cLine):OpR X (compareOp .Eq) (alA X.K n):=by
 intro pins s σ H x y v u Q I rx ry h
 obtain⟨t,t',h1,h2,hd,q⟩:=h
 obtain⟨a,xs,e1,_⟩:=vm h1
 obtain⟨b,ys,e2,_⟩:=vm h2
 subst e1 e2
 cases rx
 cases ry
 exact aaw I n t t' X.A a b hd h1 h2 hu _ _ _ _ ⟨.bl _,H,I,rfl,q⟩
end
section
variable{X:Cx}{K:W.Frag}
end
theorem ahj{K:W.Frag}{H:Hp}{a D:Addr}{xs:`F}{o:HO}(h:SqL K H a xs)(hD:H D=none):SqL K (upd H D o) a xs:=(same_new hD o).seq h
theorem ain{K:W.Frag}{H:Hp}{a:Addr}{xs:`F}{σ:Sg}{js:`E}{te:TE}{Q:VK}(Pr:Nat->V->Prop)(hl:SqL K H a xs)(hz:xs.length<=sizeLine)
  (hte:∀(i:Nat)(x:V)(H':Hp)(R:VK),xs[i]?=some x->`L->(∀y,Pr i y->R y H')->te (some x::frv σ js) H' R)
  (q:∀(D:Addr)(ys:`F),H D=none->ys.length=xs.length->(∀i y,ys[i]?=some y->Pr i y)->Q (.ref D) (upd H D (.lst ys))):
  Gd (Itl K a) js te σ Q H:=by
 intro D hD
 refine⟨fun i m ys H'=>m=xs.length-i/\i<=xs.length/\ys.length=i/\(∀j y,ys[j]?=some y->Pr j y)/\H'=upd H D (.lst ys),⟨xs.length,`A,`R,rfl,fun j y e=>by simp at e,rfl⟩,?_⟩
 rintro i m ys H'⟨rfl,hi,hly,hp,rfl⟩
 refine⟨upd_same,?_⟩
 have hl':=ahj (o:=.lst ys) hl hD
 by_cases hlt:i<xs.length
 ·refine .inr ⟨⟨xs,xs[i],hl',List.getElem?_eq_getElem hlt⟩,fun x H2 y=>?_⟩
  obtain⟨e,y⟩:=y
  subst e
  refine hte i x _ _ (y xs hl') (same_new hD _) fun y py=>⟨upd_same,`A,xs.length-(i+1),`A,rfl,`A,by simp[hly],fun j z e=>?_,by rw[Qq]⟩
  by_cases hj:j<ys.length
  ·rw[List.getElem?_append_left hj]at e
   exact hp j z e
  ·rw[List.getElem?_append_right `A]at e
   have:j-ys.length=0:=by
    rcases Nat.eq_zero_or_pos (j-ys.length)with h|h
    ·exact h
    ·rw[List.getElem?_eq_none (by simp;lia)]at e;cases e
   rw[this]at e
   have e':y=z:=by simpa using e
   have ej:j=i:=`A
   rw[<-e',ej]
   exact py
 ·have ei:i=xs.length:=`A
  exact .inl ⟨⟨xs,hl',`A⟩,q D ys hD `A hp⟩
end Sw
namespace SwR
open PySem PySem.Spec PyProof.Rows L2 Sw
theorem Cq:Slot "reversed" "__next__" "reversed.__next__":=.of (owner:="reversed") (n:="__next__") (by rw[typeLookup_type,builtinLookup_eq_fast];kernel_rfl) `D `D `D (by first|exact .inl `D|exact .inr `D) (by rw[isSubtype_type];kernel_rfl)
theorem aaS:entryFor table "reversed.__next__"=some Builtin.«reversed.__next__»:=entryFor_of_tree (by kernel_rfl)
theorem aa0(a:Value):argsOk "reversed.__next__" ⟨[a],[]⟩:=by unfold argsOk;kernel_rfl
theorem aar:Slot "reversed" "__iter__" "reversed.__iter__":=.of (owner:="reversed") (n:="__iter__") (by rw[typeLookup_type,builtinLookup_eq_fast];kernel_rfl) `D `D `D (by first|exact .inl `D|exact .inr `D) (by rw[isSubtype_type];kernel_rfl)
theorem aiK(a:Value):argsOk "reversed.__iter__" ⟨[a],[]⟩:=by unfold argsOk;kernel_rfl
theorem aiz:entryFor table "reversed.__iter__"=some Builtin.«dict_keyiterator.__iter__»:=entryFor_alias (id':="dict_keyiterator.__iter__") (by kernel_rfl) (by first|rfl|decide+kernel) `D (by kernel_rfl)
theorem QD:Slot "reversed" "__length_hint__" "reversed.__length_hint__":=.of (owner:="reversed") (n:="__length_hint__") (by rw[typeLookup_type,builtinLookup_eq_fast];kernel_rfl) `D `D `D (by first|exact .inl `D|exact .inr `D) (by rw[isSubtype_type];kernel_rfl)
theorem aiA:entryFor table "reversed.__length_hint__"=some Builtin.«reversed.__length_hint__»:=entryFor_of_tree (by kernel_rfl)
theorem aiL(a:Value):argsOk "reversed.__length_hint__" ⟨[a],[]⟩:=by unfold argsOk;kernel_rfl
theorem ajK:typeLookup (.type "reversed") "__len__"=pure none:=by rw[typeLookup_type,builtinLookup_eq_fast];kernel_rfl
theorem aho:Slot "reversed" "__init__" "object.__init__":=.of (owner:="object") (n:="__init__") (by rw[typeLookup_type,builtinLookup_eq_fast];kernel_rfl) `D `D `D (by first|exact .inl `D|exact .inr `D) (by rw[isSubtype_type];kernel_rfl)
theorem adi:typeLookup `b "__reversed__"=pure none:=by rw[typeLookup_type,builtinLookup_eq_fast];kernel_rfl
theorem acu:TypeCalled "reversed" "reversed.__new__" "object.__init__":=
 ⟨`D,`D,⟨_,_,F.mro_reversed⟩,F.made_reversed,`D,by rw[isSubtype_type];kernel_rfl,aho⟩
def RvO(h:Heap)(p a:Addr)(i:Int):Prop:=∃o,h.get? p=some o/\o.cls=.type "reversed"/\o.data=.fields #[`G,rawInt i]
theorem RvO.typeIs{s:Shared}{p a:Addr}{i:Int}(x:RvO s.heap p a i):s.TypeIs (.ref p) "reversed":=let⟨o,ho,hc,_⟩:=x;⟨o,ho,hc⟩
section
variable{prog:Program}{w:World}{A:Around}{E:`T}{s:Shared}
theorem next_item{it a:Addr}{i:Nat}{items:Array Value}{x:Value}{Q:Option Value->Shared->Prop}(hit:RvO s.heap it a (i:Int))(ht:IsTup s.heap a items)(hx:items[i]?=some x)(hz:items.size<=sizeLine)(hne:a≠it)
  (hQ:∀h' tk,RvO h' it a ((i:Int)-1)->Heap.SameBut it s.heap h'->Q (some x) {s with heap:=h',toks:=tk}):wpAny `a A (pyNext (.ref it)) Q E s:=by
 obtain⟨o,ho,hc,hd⟩:=id hit
 unfold pyNext
 refine wpAny_bind (wpAny_attempt (wpAny_callSpecial?_slot (name:=Str.ofString "__next__") hit.typeIs Cq (wpAny_call_entry Cq hit.typeIs aaS ?_ (aa0 _))))
 unfold Builtin.«reversed.__next__»
 refine wpAny_bind (wpAny_of_eq (a:=(Value.ref it,[])) rfl ?_)
 dsimp only
 refine wpAny_bind (wpAny_field ho hd (x:=`G) rfl ?_)
 refine wpAny_bind (wpAny_field ho hd (x:=rawInt (i:Int)) rfl ?_)
 show wpAny _ _ (if(i:Int)<0 then _ else _) _ _ s
 rw[if_neg `A]
 refine wpAny_bind (wpAny_specialOf ht.typeIs PyProof.Rows.slot_tuple_getitem.lookup ?_)
 rw[if_neg `B]
 have hi:i<items.size:=(Array.getElem?_eq_some_iff.mp hx).1
 have hl:sizeLine=16777216:=sizeLine_eq
 refine wpAny_bind (wpAny_mkInt ?_)
 refine wpAny_bind (wpAny_attempt (getItem_tuple (j:=i) ht `A `A (by rw[seqIndex_of `A `A];rfl) hx ?_))
 dsimp only
 refine wpAny_bind (wpAny_field ho hd (x:=rawInt (i:Int)) rfl ?_)
 refine wpAny_bind (wpAny_setField ho hd `H ?_)
 refine wpAny_pure ⟨x,rfl,wpAny_pure (hQ _ _ ?_ (Heap.SameBut.update ..))⟩
 exact⟨_,Heap.get?_update_self _ ho (Obj.isFreed_of_fields (Obj.data_mapFields hd _)),(Obj.cls_mapFields ..).trans hc,by rw[Obj.data_mapFields hd];simp⟩
theorem next_end{it a:Addr}{Q:Option Value->Shared->Prop}(hh:A.handled=none)(hit:RvO s.heap it a (-1))
  (hQ:∀h',Heap.ExtBut it s.heap h'->Q none {s with heap:=h'}):wpAny `a A (pyNext (.ref it)) Q E s:=by
 obtain⟨o,ho,hc,hd⟩:=id hit
 unfold pyNext
 refine wpAny_bind (wpAny_attempt (wpAny_callSpecial?_slot (name:=Str.ofString "__next__") hit.typeIs Cq (wpAny_call_entry Cq hit.typeIs aaS ?_ (aa0 _))))
 unfold Builtin.«reversed.__next__»
 refine wpAny_bind (wpAny_of_eq (a:=(Value.ref it,[])) rfl ?_)
 dsimp only
 refine wpAny_bind (wpAny_field ho hd (x:=`G) rfl ?_)
 refine wpAny_bind (wpAny_field ho hd (x:=rawInt (-1)) rfl ?_)
 show wpAny _ _ (if(-1:Int)<0 then _ else _) _ _ s
 rw[if_pos `B]
 refine wpAny_bind (wpAny_rule ?_)
 have e1:=Heap.get?_update_self (Obj.mapFields fun vs=>vs.setIfInBounds 1 (rawInt (-1))) ho (Obj.isFreed_of_fields (Obj.data_mapFields hd _))
 refine wpAny_bind (wpAny_bind (wpAny_setField ho hd `H ?_))
 refine wpAny_setField e1 (Obj.data_mapFields hd _) `H ?_
 refine wpAny_bind ?_
 unfold Builtin.SmallTypes.stopIteration
 refine wpAny_bind ?_
 simp only[newExc,newTuple]
 refine wpAny_bind (wpAny_newObj_type ?_ (by size_fits));refine wpAny_bind (m:=firstArgMember _ _) (wpAny_of_eq (a:=Value.none) (by first|rfl|(simp only[firstArgMember];rfl)) ?_);refine wpAny_newObj_type ?_ (by size_fits)
 simp only[raiseNew];refine wpAny_bind (wpAny_handled ?_)
 first|rw[show A.in1.handled=none from hh]|rw[hh]
 refine wpAny_bind (wpAny_pure (wpAny_throw ?_));refine wpAny_bind (wpAny_isInstance (T:="StopIteration") (b:=true) ⟨_,Heap.get?_push_size _ rfl,rfl⟩ isSubtype_stop (wpAny_pure (hQ _ ?_)))
 intro b ob hb e
 refine Heap.get?_push_of_some _ (Heap.get?_push_of_some _ ?_)
 exact(Heap.get?_update_other _ _ (Ne.symm hb)).trans ((Heap.get?_update_other _ _ (Ne.symm hb)).trans e)
theorem z7{it a:Addr}{i:Int}{Q:`T}(hit:RvO s.heap it a i)(h:Q (.ref it) s):wpAny `a A (pyIter (.ref it)) Q E s:=by
 refine wpAny_pyIter_slot hit.typeIs aar (wpAny_call_entry aar hit.typeIs aiz ?_ (aiK _))
 show wpAny _ _ (ret (.ref it)) _ _ s
 exact wpAny_pure ⟨_,rfl,"reversed",_,hit.typeIs,Cq.lookup,h⟩
theorem RvO.keep{h h':Heap}{p a:Addr}{i:Int}(x:RvO h p a i)(e:∀o,h.get? p=some o->h'.get? p=some o):RvO h' p a i:=let⟨o,ho,r⟩:=x;⟨o,e _ ho,r⟩
theorem Dw{h h':Heap}{a:Addr}{items:Array Value}(x:IsTup h a items)(e:∀o,h.get? a=some o->h'.get? a=some o):IsTup h' a items:=let⟨o,ho,r⟩:=x;⟨o,e _ ho,r⟩
end
theorem ada{prog:Program}{w:World}{A:Around}(hh:A.handled=none)(I a:Addr)(hne:a≠I)(items:Array Value)(hz:items.size<=sizeLine):
  Walks prog w A I [I,a] [I] items.size (fun i v=>items[items.size-1-i]?=some v) (fun i h=>i<=items.size/\RvO h I a ((items.size:Int)-1-(i:Int))/\IsTup h a items)where
 sub:=fun b hb=>by simp at hb;simp[hb]
 frame:=fun _ _ _ x hk=>⟨x.1,x.2.1.keep fun o e=>hk I `H o e,Dw x.2.2 fun o e=>hk a `H o e⟩
 item:=fun i s Q E hi x hQ=>by
  obtain⟨_,hit,ht⟩:=x
  have e:(items.size:Int)-1-(i:Int)=((items.size-1-i:Nat):Int):=`A
  rw[e]at hit
  have hx:items[items.size-1-i]?=some (items[items.size-1-i]'`A):=Array.getElem?_eq_getElem `A
  refine next_item hit ht hx hz hne fun h' tk hit' hs'=>hQ _ h' tk hx ⟨`A,?_,Dw ht fun o eo=>(hs'.2 a hne).trans eo⟩ fun b o hb eo=>hs'.extBut b o (fun z=>hb (by simp[z])) eo
  have e2:((items.size-1-i:Nat):Int)-1=(items.size:Int)-1-((i+1:Nat):Int):=`A
  rw[<-e2]
  exact hit'
 done:=fun s Q E x hQ=>by
  obtain⟨_,hit,ht⟩:=x
  have e:(items.size:Int)-1-(items.size:Int)=-1:=`A
  rw[e]at hit
  exact next_end hh hit fun h' he'=>hQ h' s.toks fun b o hb eo=>he' b o (fun z=>hb (by simp[z])) eo
 self:=fun _ _ _ _ x hQ=>z7 x.2.1 hQ
section
variable{prog:Program}{w:World}{A:Around}{E:`T}{s:Shared}
theorem Uz(k:Int)(u:Tok):asInt? (.int k u)=pure (some k):=rfl
theorem aeL{it a:Addr}{items:Array Value}{Q:`T}(hit:RvO s.heap it a ((items.size:Int)-1))(ht:IsTup s.heap a items)(hz:items.size<=sizeLine)
  (hQ:∀t tk,s.toks<=tk->Q (.int (items.size:Int) t) {s with toks:=tk}):wpAny `a A (call (.builtin "reversed.__length_hint__") [.ref it]) Q E s:=by
 obtain⟨o,ho,hc,hd⟩:=id hit
 have hl:sizeLine=16777216:=sizeLine_eq
 refine wpAny_call_entry QD hit.typeIs aiA ?_ (aiL _)
 unfold Builtin.«reversed.__length_hint__»
 refine wpAny_bind (wpAny_of_eq (a:=Value.ref it) rfl ?_)
 refine wpAny_bind (wpAny_field ho hd (x:=`G) rfl ?_)
 rw[if_neg (show¬((Value.ref a==Value.none)=true)from Bool.false_ne_true)]
 refine wpAny_bind (len_tuple ht `A ?_)
 refine wpAny_bind (m:=asInt? (.int (items.size:Int) (s.toks+1))) (wpAny_pure ?_)
 dsimp only
 refine wpAny_bind (wpAny_field ho hd (x:=rawInt ((items.size:Int)-1)) rfl ?_)
 show wpAny _ _ (if(items.size:Int)<((items.size:Int)-1)+1 then _ else retInt (((items.size:Int)-1)+1)) _ _ _
 rw[if_neg `A,show((items.size:Int)-1)+1=(items.size:Int)by lia]
 unfold retInt
 refine wpAny_bind (wpAny_mkInt (wpAny_pure ⟨_,rfl,hQ _ _ ?_⟩))
 show s.toks<=s.toks+1+1+1
 lia
theorem abz{it a S:Addr}{items:Array Value}{c₀:Nat}{R:Result->Shared->Prop}(hh:A.handled=none)(hit:RvO s.heap it a ((items.size:Int)-1))(ht:IsTup s.heap a items)(hz:items.size<=sizeLine)
  (hai:a≠it)(hSi:S≠it)(hSa:S≠a)(hS:s.heap.get? S=some {cls:=.type "list",data:=.seq #[] c₀})
  (hR:∀h' tk acc' c',(∀b o,b≠S->b≠it->s.heap.get? b=some o->h'.get? b=some o)->h'.get? S=some {cls:=.type "list",dict:=none,data:=.seq acc' c',slots:=#[]}->
   ItemsOf (fun i v=>items[items.size-1-i]?=some v) acc' items.size->R (.ok (.ret .none)) {s with heap:=h',toks:=tk}):
  wpAny `a A.in1 (Builtin.List.listExtendWith (.ref S) (.ref it) .none)
   (fun fin s'=>match fin with| .done f=>R (.ok f) s'| .again c'=>c'.quiet=true/\codeAny `a A c' R s') (fun e s'=>R (.error e) s') s:=by
 have hl:sizeLine=16777216:=sizeLine_eq
 have h1:Builtin.List.listSameRef (.ref S) (.ref it)=false:=by simp[Builtin.List.listSameRef,hSi]
 unfold Builtin.List.listExtendWith
 refine wpAny_bind (wpAny_typeOf hit.typeIs ?_)
 rw[if_neg (by rw[h1];decide)]
 refine wpAny_bind (z7 hit ?_)
 refine wpAny_bind (wpAny_holding ?_)
 unfold Builtin.List.listLengthHint
 refine wpAny_bind (wpAny_specialOf hit.typeIs ajK ?_)
 show wpAny _ A.in1 (specialOf (Value.ref it) (Str.ofString "__length_hint__")>>=_) _ _ _
 refine wpAny_bind (wpAny_specialOf hit.typeIs QD.lookup ?_)
 (generalize hid:("reversed.__length_hint__":String)=id0;(fail_if_success(clear hid id0));wp_delta;rw[show splitId id0=some ("reversed","__length_hint__")from by subst hid;decide+kernel];subst hid)
 refine wpAny_bind (wpAny_isInstance (b:=true) hit.typeIs (by rw[isSubtype_type];kernel_rfl) ?_)
 rw[if_neg `B]
 dsimp only
 rw[if_neg `B]
 refine wpAny_bind (wpAny_rule ?_)
 refine wpAny_bind (wpAny_of_eq (QD.bind _) ?_)
 dsimp only
 refine wpAny_bind (wpAny_attempt (aeL hit ht hz fun t tk htk=>?_))
 dsimp only
 rw[Uz,pure_bind]
 dsimp only
 have hf:Builtin.List.listFitsIndex (items.size:Int)=true:=by
  unfold Builtin.List.listFitsIndex
  simp only[Bool.and_eq_true,decide_eq_true_eq]
  lia
 have htl:Builtin.List.listTooLong (Int.toNat (items.size:Int))=false:=by
  rw[Int.toNat_natCast]
  exact Ej hz
 rw[if_neg (by rw[hf];decide),if_neg `A,if_neg (by rw[htl];decide)]
 refine wpAny_pure ?_
 have hSf:S∉[it,a]:=by simp[hSi,hSa]
 have W:=ada (prog:=prog) (w:=w) (A:=A.in1) hh it a hai items hz
 have loop:∀(s2:Shared)(c₂:Nat),(∀b o,b≠S->s.heap.get? b=some o->s2.heap.get? b=some o)->s2.heap.get? S=some {cls:=.type "list",data:=.seq #[] c₂}->s2.gens=s.gens->s2.drawn=s.drawn->s2.os=s.os->
   codeAny `a A (.builtin "list.extend.loop" ⟨[.ref S,.ref it,.none],[]⟩) R s2:=fun s2 c₂ hk hS2 g1 g2 g3=>by
  have st:0<=items.size/\RvO s2.heap it a ((items.size:Int)-1-((0:Nat):Int))/\IsTup s2.heap a items:=by
   refine⟨`R,?_,Dw ht fun o e=>hk a o (Ne.symm hSa) e⟩
   have:(items.size:Int)-1-((0:Nat):Int)=(items.size:Int)-1:=`A
   rw[this]
   exact hit.keep fun o e=>hk it o (Ne.symm hSi) e
  refine codeAny_extend_loopS W.toS hz S hSf .none items.size 0 s2 #[] c₂ rfl `R st hS2 (ItemsOf.nil _) fun s' acc' c' hm hS' hacc=>?_
  have hs':=Moved.eq_with hm
  rw[g1,g2,g3]at hs'
  rw[hs']
  exact hR s'.heap s'.toks acc' c' (fun b o hbS hbi e=>hm.heap b o (by simp[hbS,hbi]) (hk b o hbS e)) hS' hacc
 split
 ·refine wpAny_bind (wpAny_rule ?_)
  unfold Builtin.List.listTouch
  have e1:=Heap.get?_update_self (Obj.mapSeq (·.push Value.none)) hS rfl
  have e2:=Heap.get?_update_self (Obj.mapSeq (·.pop)) e1 rfl
  refine wpAny_bind (wpAny_bind (m:=Builtin.List.listUpdate (.ref S) (·.push Value.none)) (wpAny_updateSeq hS rfl ?_ (hz:=`R) (_hz':=Nat.succ_le_succ `R)))
  refine wpAny_updateSeq e1 rfl ?_ (hz:=`d) (_hz':=`R)
  refine wpAny_pure ⟨plainId_quiet F.plain_extend_loop _,loop _ _ (fun b o hb e=>?_) (by simpa[Obj.mapSeq]using e2) rfl rfl rfl⟩
  exact(Heap.get?_update_other _ _ (Ne.symm hb)).trans ((Heap.get?_update_other _ _ (Ne.symm hb)).trans e)
 ·exact wpAny_pure ⟨plainId_quiet F.plain_extend_loop _,loop _ c₀ (fun b o _ e=>e) hS rfl rfl rfl⟩
theorem Vb{it a:Addr}{items:Array Value}{Q:`T}(hh:A.handled=none)(hit:RvO s.heap it a ((items.size:Int)-1))(ht:IsTup s.heap a items)(hz:items.size<=sizeLine)(hai:a≠it)
  (hQ:∀h' tk acc' c',(∀b o,b≠it->s.heap.get? b=some o->h'.get? b=some o)->h'.get? s.heap.objs.size=some {cls:=.type "list",dict:=none,data:=.seq acc' c',slots:=#[]}->
   acc'.toList=items.toList.reverse->Q (.ref s.heap.objs.size) {s with heap:=h',toks:=tk}):wpAny `a A (call (.type "list") [.ref it]) Q E s:=by
 have lit:it<s.heap.objs.size:=let⟨_,ho,_⟩:=hit;Heap.lt_size ho
 have la:a<s.heap.objs.size:=let⟨_,ho,_⟩:=ht;Heap.lt_size ho
 refine callType_codes (Q₁:=fun obj s₁=>obj=.ref s.heap.objs.size/\s₁={s with heap:=s.heap.push {cls:=.type "list",data:=.seq #[]}}) F.called_list (F.typeCall_list_1 _) F.entry_list_init (code_list_new _ ⟨rfl,rfl⟩) fun obj s1 h1=>?_
 obtain⟨e1,e2⟩:=h1
 subst e1 e2
 have hS:(s.heap.push {cls:=.type "list",data:=.seq #[]}).get? s.heap.objs.size=some {cls:=.type "list",data:=.seq #[]}:=Heap.get?_push_size _ rfl
 refine⟨⟨_,hS,rfl⟩,F.args_list_init_2 _ _,?_⟩
 show wpAny _ _ (Builtin.List.listItems (.ref s.heap.objs.size)>>=fun old=>Builtin.List.listUpdate (.ref s.heap.objs.size) (fun _=>#[])>>=fun _=>letGo old.toList.reverse>>=fun _=>Builtin.List.listExtendWith (.ref s.heap.objs.size) (.ref it) .none) _ _ _
 refine wpAny_bind ?_
 unfold Builtin.List.listItems
 refine wpAny_bind (wpAny_seqItems hS rfl (wpAny_pure ?_))
 refine wpAny_bind (m:=Builtin.List.listUpdate (.ref s.heap.objs.size) (fun _=>#[])) (wpAny_updateSeq hS rfl ?_)
 have hS2:=Heap.get?_update_self (Obj.mapSeq (fun _=>(#[]:Array Value))) hS rfl
 have oth:∀b o,b≠s.heap.objs.size->s.heap.get? b=some o->((s.heap.push {cls:=.type "list",data:=.seq #[]}).update s.heap.objs.size (Obj.mapSeq (fun _=>(#[]:Array Value)))).get? b=some o:=
  fun b o hb e=>(Heap.get?_update_other _ _ (Ne.symm hb)).trans (Heap.get?_push_of_some _ e)
 refine wpAny_bind (wpAny_letGo ?_)
 refine abz (A:=A.in1) hh (hit.keep fun o e=>oth it o (Nat.ne_of_lt lit) e) (Dw ht fun o e=>oth a o (Nat.ne_of_lt la) e) hz hai (Nat.ne_of_gt lit) (Nat.ne_of_gt la) hS2 fun h' tk acc' c' hk hS' hacc=>?_
 refine⟨rfl,hQ h' tk acc' c' (fun b o hb e=>hk b o (Nat.ne_of_lt (Heap.lt_size e)) hb (oth b o (Nat.ne_of_lt (Heap.lt_size e)) e)) hS' ?_⟩
 obtain⟨hsz,hat⟩:=hacc
 refine List.ext_getElem? fun i=>?_
 by_cases hi:i<items.size
 ·have h1:=hat i (acc'[i]'`A) (Array.getElem?_eq_getElem `A)
  rw[List.getElem?_reverse (by rw[Array.length_toList];exact hi),Array.length_toList,Array.getElem?_toList,Array.getElem?_toList,h1,Array.getElem?_eq_getElem `A]
 ·rw[List.getElem?_eq_none (by rw[Array.length_toList];lia),List.getElem?_eq_none (by rw[List.length_reverse,Array.length_toList];lia)]
end
section
variable{prog:Program}{w:World}{A:Around}{E:`T}{s:Shared}
theorem U3(a:Addr)(items:Array Value)(n:Nat)(dd:Option Addr)(sl:`g)(hz:items.size<=sizeLine):
  Meets (Builtin.«reversed.__new__» ⟨[.type "reversed",`G],[]⟩) (fun _ R s=>s.heap.get? a=some {cls:=`b,dict:=dd,data:=.seq items n,slots:=sl}/\
   ∀tk,R (.ok (.ret (.ref s.heap.objs.size))) {s with heap:=s.heap.push {cls:=.type "reversed",data:=.fields #[`G,rawInt ((items.size:Int)-1)]},toks:=tk}):=
 .of_wp fun prog w A R s h=>by
  obtain⟨ht,h⟩:=h
  have hl:sizeLine=16777216:=sizeLine_eq
  have hT:s.TypeIs `G "tuple":=⟨_,ht,rfl⟩
  have hI:IsTup s.heap a items:=⟨_,ht,rfl,n,rfl⟩
  unfold Builtin.«reversed.__new__»
  refine wpAny_bind (wpAny_of_eq (newClass_reversed _) ?_)
  dsimp only
  refine wpAny_bind (wpAny_of_eq (a:=()) (by first|rfl|kernel_rfl) ?_);refine wpAny_bind (wpAny_of_eq (a:=()) (by first|rfl|kernel_rfl) ?_)
  refine wpAny_bind (wpAny_specialOf hT adi ?_)
  dsimp only
  refine wpAny_bind ?_
  refine wpAny_bind (wpAny_isInstance (b:=false) hT (by rw[isSubtype_type];kernel_rfl) ?_)
  rw[if_neg `B]
  refine wpAny_bind (wpAny_specialOf hT PyProof.Rows.slot_tuple_getitem.lookup ?_)
  dsimp only
  rw[if_pos `B]
  refine wpAny_pure ?_
  rw[if_neg `B]
  refine wpAny_bind (len_tuple hI `A ?_)
  rw[Uz,pure_bind]
  dsimp only
  show wpAny _ _ (newObj (.type "reversed") (.fields #[`G,rawInt ((items.size:Int)-1)])>>=_) _ _ _
  refine wpAny_bind (wpAny_newObj_type ?_)
  exact wpAny_pure ⟨_,rfl,h _⟩
theorem Ym{a:Addr}{items:Array Value}{Q:`T}(ht:IsTup s.heap a items)(hz:items.size<=sizeLine)
  (h:∀tk,Q (.ref s.heap.objs.size) {s with heap:=s.heap.push {cls:=.type "reversed",data:=.fields #[`G,rawInt ((items.size:Int)-1)]},toks:=tk}):wpAny `a A (call (.type "reversed") [`G]) Q E s:=by
 obtain⟨⟨c,d,dt,sl⟩,ho,hc,n,hd⟩:=id ht
 simp only at hc hd
 subst hc hd
 refine callType_new acu `B (F.typeCall_reversed_1 _) (F.newCall_reversed_1 _) (fun obj=>F.args_object_init_2 obj _) F.entry_reversed_new (U3 a items n d sl hz) ⟨ho,fun tk=>?_⟩
 exact⟨⟨_,Heap.get?_push_size _ rfl,rfl⟩,h tk⟩
end
theorem KJ:bootBuiltins "reversed"=some (.type "reversed"):=`D
theorem agF:bootBuiltins "list"=some (.type "list"):=`D
def tLR(K:W.Frag)(te:TE):TE:=fun σ H Q=>te σ H fun x H1=>∃a ys,x=`G/\SqT K H1 a ys/\∀l,H1 l=none->Q (.ref l) (upd H1 l (.lst ys.reverse))
theorem Ot{X:Cx}{e:Expr}{te:TE}{p1 p2 pos pos2:Pos}(hgl:Gl X "list")(hgr:Gl X "reversed")(ml:X.mg "list"=none)(mr:X.mg "reversed"=none)(hc:X.calm=true)(he:PE X e te)
  (hs1:starEach [.Call (.Name "reversed" p2) [e] [] pos2] X.env=[(false,eval (.Call (.Name "reversed" p2) [e] [] pos2) X.env)]:=by rfl)(hs2:starEach [e] X.env=[(false,eval e X.env)]:=by rfl):
  PE X (.Call (.Name "list" p1) [.Call (.Name "reversed" p2) [e] [] pos2] [] pos) (tLR X.K te):=by
 intro pins s σ H Q I h
 refine wpAny_Call_Name_kw (ld_blt I hgl ml agF ?_)
 refine PyProof.Rows.callWith_type1 ?_ (by rw[hs1];rfl) (by rfl)
 rw[hs1]
 refine Calls.spliced_cons ?_
 refine wpAny_Call_Name_kw (ld_blt I hgr mr KJ ?_)
 refine PyProof.Rows.callWith_type1 ?_ (by rw[hs2];rfl) (by rfl)
 rw[hs2]
 refine Calls.spliced_cons (thn (he pins s σ H _ I h) fun v s1⟨x,H1,I1,r1,q1⟩=>Calls.spliced_nil ?_)
 obtain⟨a,ys,e1,hq,q⟩:=q1
 subst e1
 cases r1
 obtain⟨its,rv,ht,hz⟩:=I1.tuple hq
 have hlen:=rv.length
 have hz':its.toArray.size<=sizeLine:=by rw[List.size_toArray];lia
 refine Ym ht hz' fun tk=>Calls.spliced_nil ?_
 generalize ab3:({s1 with heap:=s1.heap.push {cls:=.type "reversed",data:=.fields #[`G,rawInt ((its.toArray.size:Int)-1)]},toks:=tk}:Shared)=s2
 have I2:Inv X pins σ H1 s2:=by rw[<-ab3];exact I1.kept fun b o e=>Heap.get?_push_of_some _ e
 have la:a<s1.heap.objs.size:=let⟨_,ho,_⟩:=ht;Heap.lt_size ho
 have sz2:s2.heap.objs.size=s1.heap.objs.size+1:=by rw[<-ab3];exact Heap.size_push ..
 have hit:RvO s2.heap s1.heap.objs.size a ((its.toArray.size:Int)-1):=by rw[<-ab3];exact⟨_,Heap.get?_push_size _ rfl,rfl,rfl⟩
 have ht2:IsTup s2.heap a its.toArray:=by rw[<-ab3];exact ht.push _
 have fp:FpOk X pins H1 s1.heap.objs.size:=I1.fpOk `P (I1.hok.fresh `P)
 refine Vb (I2.ok.hd hc) hit ht2 hz' (Nat.ne_of_lt la) fun h' tk' acc' c' hk hS' hacc=>?_
 have hfree:H1 s2.heap.objs.size=none:=I2.hok.fresh `P
 have hp0:H1 s1.heap.objs.size=none:=fp.1
 have oks:ObjOk X.prog X.w (upd H1 s2.heap.objs.size (.lst ys.reverse)) h' s2.heap.objs.size (.lst ys.reverse):=by
  refine⟨by rw[List.length_reverse];exact hz,its.reverse,c',rv.reverse,?_⟩
  rw[hS',show acc'=its.reverse.toArray from Array.toList_inj.mp (by simpa using hacc)]
 have nS:∀b o,s2.heap.get? b=some o->b≠s2.heap.objs.size:=fun b o e=>Nat.ne_of_lt (Heap.lt_size e)
 have np:∀b u,H1 b=some u->b≠s1.heap.objs.size:=fun b u e=>ne_of_none e hp0
 have nh:∀b u,H1 b=some u->upd H1 s2.heap.objs.size (.lst ys.reverse) b=some u:=fun b u e=>by rw[upd_ne (ne_of_none e hfree)];exact e
 have hok:HOk X.prog X.w (upd H1 s2.heap.objs.size (.lst ys.reverse)) h':=fun b u e=>by
  by_cases hb:b=s2.heap.objs.size
  ·subst hb
   rw[upd_same]at e
   cases e
   exact oks
  ·rw[upd_ne hb]at e
   refine(I2.hok b u e).stay (fun c v hc' q'=>hk c v ?_ q') (fun x q'=>nh _ _ q') fun c v q'=>nh _ _ q'
   rcases hc' with z|z
   ·rw[z];exact np b u e
   ·exact np c _ z
 have I3:Inv X pins σ (upd H1 s2.heap.objs.size (.lst ys.reverse)) {s2 with heap:=h',toks:=tk'}:=by
  refine I2.step (g':=s2.gens) (d':=s2.drawn) (t':=tk') (ch:=[s1.heap.objs.size]) (fun b hb=>?_) (fun b o _ _ hb e _=>hk b o (fun z=>hb (by simp[z])) e) (fun b o _ _ hb e _=>⟨o.slots,hk b o (fun z=>hb (by simp[z])) e⟩)
   (fun b o _ e n=>by rw[upd_ne (nS b o e)];exact n) (fun b o hb e=>⟨o,hk b o (fun z=>hb (by simp[z])) e⟩) (fun b xs e=>nh _ _ e) (fun b o u e=>nh _ _ e) (fun b ps e=>⟨#[],by rw[nh _ _ e];simp⟩) (fun m hm=>?_) hok I2.bare
  ·have e:b=s1.heap.objs.size:=by simpa using hb
   subst e
   exact⟨fp.2.2.2.1,fp.2.1,fp.2.2.2.2.1,fp.2.2.2.2.2⟩
  ·obtain⟨o,es,ep,ho,r⟩:=hm
   exact⟨o,es,ep,hk _ o (Ne.symm fp.2.1) ho,r⟩
 exact⟨.ref s2.heap.objs.size,_,I3,rfl,q _ hfree⟩
end SwR
namespace Sw
open PySem PySem.Spec PyProof.Rows L2
def tx(l:`E):Str:=⟨l.toArray⟩
theorem cO(a b:`E):tx a++tx b=tx (a++b):=by
 show Str.mk (a.toArray++b.toArray)=Str.mk (a++b).toArray
 simp
theorem bR(a:`E):(tx a).length=a.length:=rfl
theorem GR{a b:`E}:tx a=tx b↔a=b:=by
 constructor
 ·intro h
  have h1:a.toArray=b.toArray:=congrArg Str.cps h
  simpa using congrArg Array.toList h1
 ·intro h
  rw[h]
theorem Vg:Str.ofString "("=tx [40]:=`D
theorem Ve:Str.ofString ")"=tx [41]:=`D
theorem vG:Str.ofString ""=tx []:=`D
theorem aeF(a b:`E):decide (V.str (tx a)=V.str (tx b))=decide (a=b):=by
 by_cases h:a=b
 ·subst h;simp
 ·rw[decide_eq_false h,decide_eq_false]
  intro e
  exact h (GR.mp (V.str.inj e))
theorem DG:∀{ss:List Str}{us:`M},Vals (ss.map V.str) us->StrsAre us ss
 |[],us,r=>by rw[List.map_nil]at r;cases r;exact .nil
 |z::ss,us,r=>by
  rw[List.map_cons]at r
  cases r with
  |cons r1 r2=>
   obtain⟨t,rfl⟩:=r1
   exact .cons z t (DG r2)
theorem air (ls:`I):Txt.join (tx []) (ls.map tx)=tx ls.flatten:=by
 have key:∀ (ls:`I) (acc:`E),(ls.map tx).foldl (fun acc p=>acc++(tx []).cps++p.cps) acc.toArray=(acc++ls.flatten).toArray:=by
  intro ls
  induction ls with
  | nil=>intro acc; simp
  | cons l ls ih =>
   intro acc
   rw [List.map_cons,List.foldl_cons]
   have e:acc.toArray++(tx []).cps++(tx l).cps=(acc++l).toArray:=by simp [tx]
   rw [e,ih,List.flatten_cons,List.append_assoc]
 show Str.mk _=_
 cases ls with
 | nil=>rfl
 | cons l ls =>
  have:=key ls l
  show Str.mk (((l::ls).map tx).drop 1 |>.foldl (fun acc p=>acc++(tx []).cps++p.cps) (((l::ls).map tx).headD Str.empty).cps)=tx (l::ls).flatten
  rw [List.map_cons,List.drop_one,List.tail_cons,List.headD_cons,List.flatten_cons]
  exact congrArg Str.mk this
section
variable{X:Cx}
def rJoin(K:W.Frag):V->`F->Hp->VK->Prop:=fun x vs H Q=>∃(l:Addr)(ls:`I),x=.str (tx [])/\vs=[.ref l]/\SqL K H l (ls.map fun c=>V.str (tx c))/\ls.flatten.length<=16777216/\Q (.str (tx ls.flatten)) H
theorem Qw:∀ls:`I,((ls.map tx).map (·.length)).sum=ls.flatten.length
 |[]=>rfl
 |l::ls=>by rw[List.map_cons,List.map_cons,List.sum_cons,Qw ls,List.flatten_cons,List.length_append,bR]
theorem aaJ:MtM X "str.join" (rJoin X.K):=by
 intro pins s σ H x vs v us Q I rx rv h
 obtain⟨l,ls,rfl,rfl,hq,hz,q⟩:=h
 obtain⟨t,rfl⟩:=rx
 obtain⟨u,rfl,ru⟩:=rv.one
 cases ru
 obtain⟨its,r,pl,_⟩:=I.list hq
 have hs:StrsAre its (ls.map tx):=DG (by rw[List.map_map];exact r)
 refine join_list (ys:=ls.map tx) pl.isList (by simpa using hs) ?_ fun t' k=>?_
 ·rw[Qw,bR]
  simp only[List.length_nil,Nat.mul_zero,Nat.add_zero]
  exact hz
 ·rw[air]
  exact⟨.str (tx ls.flatten),H,I.tok _,⟨_,rfl⟩,q⟩
def Its(z:Str):It:=⟨fun i _=>i<z.cps.size,fun i H v H'=>H'=H/\∃c,z.cps[i]?=some c/\v=.str (tx [c]),fun i _=>z.cps.size<=i⟩
theorem Vp{P:Program}{w:World}{K:W.Frag}{x:Str}{px:Pos}{ty:String}(hty:ty="str_ascii_iterator"\/ty="str_iterator")(z:Str)(t:Tok)(it:Addr):
  Turn P w K (.Name x px) (Its z) [it] it (fun i h=>h.IsStrIter it ty z t i)where
 mem:=`H
 obj:=fun i h st b hb=>by
  have e:b=it:=by simpa using hb
  subst e
  obtain⟨o,e,c,d⟩:=st
  exact⟨o,e,fun v z=>by rw[d]at z;cases z⟩
 keep:=fun i h h' st k=>by
  obtain⟨o,e,r⟩:=st
  exact⟨o,k it `H o e,r⟩
 item:=by
  intro X hP hw hK hc i pins s σ H E I hf st hg
  subst hP hw hK
  obtain⟨f0,f1,f2,f3,f4,f5⟩:=hf it `H
  have hi:z.cps[i]?=some (z.cps[i]'hg):=Array.getElem?_eq_getElem hg
  rcases hty with rfl|rfl
  ·refine wpAny_pyNext_ascii_item st hi fun h' st' sb=>?_
   exact⟨_,rfl,wpAny_pure ⟨.str (tx [z.cps[i]'hg]),H,I.turned (fun b o hb e=>(sb.2 b hb).trans e) f0 f1 f3 f4 f5,⟨_,rfl⟩,⟨rfl,_,hi,rfl⟩,st',fun b hb=>(hf b hb).1⟩⟩
  ·refine wpAny_pyNext_wide_item st hi fun h' st' sb=>?_
   exact⟨_,rfl,wpAny_pure ⟨.str (tx [z.cps[i]'hg]),H,I.turned (fun b o hb e=>(sb.2 b hb).trans e) f0 f1 f3 f4 f5,⟨_,rfl⟩,⟨rfl,_,hi,rfl⟩,st',fun b hb=>(hf b hb).1⟩⟩
 done:=by
  intro X hP hw hK hc i pins s σ H E I hf st hg
  subst hP hw hK
  obtain⟨f0,f1,f2,f3,f4,f5⟩:=hf it `H
  have hi:z.cps[i]?=none:=Array.getElem?_eq_none hg
  rcases hty with rfl|rfl
  ·exact wpAny_pyNext_ascii_end (I.ok.hd hc) st hi fun h' eb=>⟨rfl,I.turned (t':=s.toks) (fun b o hb e=>eb b o hb e) f0 f1 f3 f4 f5⟩
  ·exact wpAny_pyNext_wide_end (I.ok.hd hc) st hi fun h' eb=>⟨rfl,I.turned (t':=s.toks) (fun b o hb e=>eb b o hb e) f0 f1 f3 f4 f5⟩
 self:=fun _ _ _ _ _ st h=>by
  rcases hty with rfl|rfl
  ·exact wpAny_pyIter_striter_ascii st h
  ·exact wpAny_pyIter_striter_wide st h
def apf(tl:TE):TI:=fun σ H R=>tl σ H fun x H1=>∃z,x=.str z/\R (Its z) H1
theorem ajt{x:Str}{px:Pos}{l:Expr}{tl:TE}(hl:PE X l tl):PI X (.Name x px) l (apf tl):=by
 intro pins s σ H R I h
 refine thn (hl pins s σ H _ I h) fun v s1⟨y,H1,I1,r1,q1⟩=>?_
 obtain⟨z,rfl,q⟩:=q1
 obtain⟨t,rfl⟩:=r1
 have fp:∀b∈[s1.heap.objs.size],FpOk X pins H1 b:=fun b hb=>by
  have e:b=s1.heap.objs.size:=by simpa using hb
  subst e
  exact I1.fpOk `P (I1.hok.fresh `P)
 cases ha:z.cps.all (·<128)
 ·refine wpAny_pyIter_wide ha ?_
  exact⟨s1.heap.objs.size,[s1.heap.objs.size],_,_,H1,rfl,I1.kept (t':=s1.toks) fun b o e=>Heap.get?_push_of_some _ e,Vp (.inr rfl) z t _,⟨_,Heap.get?_push_size _ rfl,rfl,rfl⟩,fp,q⟩
 ·refine wpAny_pyIter_ascii ha ?_
  exact⟨s1.heap.objs.size,[s1.heap.objs.size],_,_,H1,rfl,I1.kept (t':=s1.toks) fun b o e=>Heap.get?_push_of_some _ e,Vp (.inl rfl) z t _,⟨_,Heap.get?_push_size _ rfl,rfl,rfl⟩,fp,q⟩
theorem aiv{l:`E}{g:TG}{tb:TS}{D:Ends}{σ:Sg}{H:Hp}(Pv:Nat->Sg->`S)(h0:Pv 0 σ H)
  (hs:∀i c σ H,l[i]?=some c->Pv i σ H->g (.str (tx [c])) σ H fun σ2 H2=>tb {D with nx:=Pv (i+1),ct:=Pv (i+1),bk:=D.nx} σ2 H2)(hd:∀σ H,Pv l.length σ H->D.nx σ H):
  ∃W:Nat->Nat->Sg->`S,(∃m,W 0 m σ H)/\∀i m σ H,W i m σ H->
   ((Its (tx l)).stop i H/\D.nx σ H)\/((Its (tx l)).go i H/\∃N:Sg->`S,(∀σ' H',N σ' H'->∃m',m'<m/\W (i+1) m' σ' H')/\∀x H',(Its (tx l)).yld i H x H'->g x σ H' fun σ2 H2=>tb {D with nx:=N,ct:=N,bk:=D.nx} σ2 H2):=by
 refine⟨fun i m σ H=>m=l.length-i/\i<=l.length/\Pv i σ H,⟨l.length,`H,`R,h0⟩,?_⟩
 rintro i m σ H⟨rfl,hi,p⟩
 have sz:(tx l).cps.size=l.length:=by simp[tx]
 by_cases hlt:i<l.length
 ·refine .inr ⟨by show i<(tx l).cps.size;lia,Pv (i+1),fun σ' H' p'=>⟨l.length-(i+1),`A,rfl,hlt,p'⟩,fun x H' y=>?_⟩
  obtain⟨e,c,hc,rfl⟩:=y
  subst e
  exact hs i c σ _ (by simpa[tx]using hc) p
 ·have e:i=l.length:=`A
  subst e
  exact .inl ⟨by show(tx l).cps.size<=l.length;lia,hd σ H p⟩
theorem agv{pins:`Q}{σ:Sg}{H:Hp}{s:Shared}(I:`J){ts us:`C}{xs ys:`F}{its its2:`M}(q2:TRs X.K H ts xs)(r2:TRs X.K H us ys)(rv:Vals xs its)(rv2:Vals ys its2){n:Nat}{A:Around}
  (hd:T.bK ts<=n+1)(hu:A.units+n<cLine):∀j(h1:j<its.toArray.size)(h2:j<its2.toArray.size),SeqAt.EqAt A s its.toArray[j] its2.toArray[j] (n_ ts us j):=by
 intro j j1 j2
 have l1:=rv.length
 have l2:=rv2.length
 have j1':j<xs.length:=by rw[l1];simpa using j1
 have j2':j<ys.length:=by rw[l2];simpa using j2
 obtain⟨u1,hu1,ru1⟩:=rv.get (List.getElem?_eq_getElem j1')
 obtain⟨u2,hu2,ru2⟩:=rv2.get (List.getElem?_eq_getElem j2')
 obtain⟨t1,ht1,tr1⟩:=q2.get (List.getElem?_eq_getElem j1')
 obtain⟨t2,agp,tr2⟩:=r2.get (List.getElem?_eq_getElem j2')
 have ee:n_ ts us j=T.beq t1 t2:=by unfold n_;rw[ht1,agp]
 have g1:its.toArray[j]=u1:=by
  have:its[j]?=some u1:=hu1
  rw[List.getElem?_eq_some_iff]at this
  obtain⟨_,e⟩:=this
  simpa using e
 have g2:its2.toArray[j]=u2:=by
  have:its2[j]?=some u2:=hu2
  rw[List.getElem?_eq_some_iff]at this
  obtain⟨_,e⟩:=this
  simpa using e
 rw[ee,g1,g2]
 obtain⟨a1,zs1,e1,_⟩:=vm tr1
 obtain⟨a2,zs2,e2,_⟩:=vm tr2
 rw[e1]at ru1 tr1
 rw[e2]at ru2 tr2
 obtain rfl:u1=Value.ref a1:=ru1
 obtain rfl:u2=Value.ref a2:=ru2
 by_cases hne:a1=a2
 ·subst hne
  have et:t1=t2:=(Vr I t1.parts).1 t1 t2 _ `P tr1 tr2
  rw[et,T.Fy]
  exact SeqAt.EqAt.same _
 ·have hd1:t1.deep<=n:=by
   have:=T.oV (List.mem_of_getElem? ht1)
   lia
  exact SeqAt.EqAt.of_refs hne (aaw I n t1 t2 A a1 a2 hd1 tr1 tr2 hu)
def ag0(K:W.Frag)(n:Nat):R2:=fun x y H Q=>∃t u,TR K H t x/\TR K H u y/\t.deep<=n/\Q (.bl (!T.beq t u)) H
theorem aaF{n:Nat}(hu:X.A.units+n+1<cLine):OpR X (compareOp .NotEq) (ag0 X.K n):=by
 intro pins s σ H x y v u Q I rx ry h
 obtain⟨t,t',h1,h2,hd,q⟩:=h
 cases t with
 |node ts=>
  cases t' with
  |node us=>
   obtain⟨a,xs,rfl,q1,q2⟩:=bZ.mp h1
   obtain⟨b,ys,rfl,r1,r2⟩:=bZ.mp h2
   cases rx
   cases ry
   rw[T.aY]at hd
   obtain⟨its,rv,ht,_⟩:=I.tuple q1
   obtain⟨its2,rv2,ht2,_⟩:=I.tuple r1
   have key:=SeqAt.RcNeAt.tuples (A:=X.A) (e:=n_ ts us) ht ht2 `A (agv I q2 r2 rv rv2 (n:=n) `A (by rw[Around.in1_units];lia))
   have ev:((List.range (min its.toArray.size its2.toArray.size)).all (n_ ts us)&&its.toArray.size==its2.toArray.size)=T.beq (.node ts) (.node us):=by
    rw[List.size_toArray,List.size_toArray,<-rv.length,<-rv2.length,q2.length,r2.length,T.beq,<-wW]
   rw[ev]at key
   exact key _ _ _ _ ⟨.bl _,H,I,rfl,q⟩
end
theorem Kr{P:Program}{w:World}{H:Hp}{h:Heap}{a:Addr}{o:HO}(x:ObjOk P w H h a o):∃ob,h.get? a=some ob:=by
 cases o with
 |lst xs=>obtain⟨_,_,_,_,e⟩:=x;exact⟨_,e⟩
 |tup xs=>obtain⟨_,_,_,ob,e,_⟩:=x;exact⟨ob,e⟩
 |dK kvs=>obtain⟨_,_,_,_,ob,_,_,e,_⟩:=x;exact⟨ob,e⟩
 |dT kvs=>obtain⟨_,_,_,_,ob,_,_,e,_⟩:=x;exact⟨ob,e⟩
 |set S n=>obtain⟨ob,_,_,_,e,_⟩:=x;exact⟨ob,e⟩
 |ins C dx fs=>obtain⟨_,_,_,e,_⟩:=x;exact⟨_,e⟩
 |own y=>exact x
 |xd fs=>obtain⟨_,⟨ob,_,_,e,_⟩,_⟩:=x;exact⟨ob,e⟩
 |rng lo hi=>obtain⟨_,_,_,e⟩:=x;exact⟨_,e⟩
 |frz ob u=>exact⟨_,x.1⟩
 |tbl ps=>exact⟨_,(show h.get? a=some _ from x)⟩
 |met f y=>exact⟨_,(show h.get? a=some _ from x)⟩
 |ext φ=>exact x.2.1
structure Fly(P:Program)(w:World)(outer:List Env)(H:Hp)(s:Shared)(H':Hp)(B:Heap)(a C:Addr)(s':Shared):Prop where
 os:s'.os=s.os
 bare:AllBare s'.gens
 fl:∃t,Heap.FlyingW B outer a (.ref C) t s'.heap
 keep:∀b o,s.heap.get? b=some o->H b=none->b∉frs outer->B.get? b=some o
 slot:∀b o,s.heap.get? b=some o->b∈frs outer->∃sl,s'.heap.get? b=some {o with slots:=sl}
 free:∀b o,s.heap.get? b=some o->H b=none->H' b=none
 there:∀b o,s.heap.get? b=some o->b∉frs outer->∃o',B.get? b=some o'
 tups:∀b xs,H b=some (.tup xs)->H' b=some (.tup xs)
 frzs:∀b o u,H b=some (.frz o u)->H' b=some (.frz o u)
 tbls:∀b ps,H b=some (.tbl ps)->∃more,H' b=some (.tbl (ps++more))
 hok:HOk P w H' B
 new:H' a=none
 fresh:s.heap.get? a=none
def CXE(P:Program)(w:World):CXT:=fun outer H s E e s'=>∃(a C:Addr)(H':Hp)(B:Heap),e=`G/\E (.ref C) none H'/\Fly P w outer H s H' B a C s'
def ExcAt(h:Heap)(C:Addr)(bmB:`M)(newId:String):Prop:=
 ∃tl Nn nm qq bs hd sn sb ab cl dd k0 k1 k2 k3 k5 mN,h.get? C=some (excClassObj nm qq C Nn bs tl hd sn sb ab cl dd k0 k1 k2 k3 k5 newId)/\h.Ns Nn mN/\mN "__init__"=none/\OwnTail h bmB tl
theorem M9{K:W.Frag}{h:Heap}{C:Addr}{bmB:`M}{newId:String}(X:K.In h)(q:W.excIn K C bmB newId=true):ExcAt h C bmB newId:=by
 unfold W.excIn at q
 split at q
 ·rename_i dd cd sl ho
  split at q
  ·rename_i C2 tl k0 k1 k2 k3 nn k5 hmro hsl
   simp only[Bool.and_eq_true,beq_iff_eq,Bool.not_eq_true']at q
   obtain⟨⟨⟨⟨⟨e1,e2⟩,e3⟩,e4⟩,e5⟩,e6⟩:=q
   subst e1 e2
   have hs2:sl=#[k0,k1,k2,k3,some (.builtin nn),k5]:=by
    cases sl
    simp only at hsl
    rw[hsl]
   subst hs2
   have ho':=X _ _ ho
   cases cd with
   |mk nm bs mro ns qn hd sn sb ab cl del=>
    dsimp only at hmro e3 e4 e5 e6
    subst hmro e3
    exact⟨tl,ns,nm,qn,bs,hd,sn,sb,ab,cl,dd,k0,k1,k2,k3,k5,_,ho',.of_isNs (W.isNs_of_in X e5),W.nsMap_none_of_in X e5 e6,W.tail_of_in X e4⟩
  ·cases q
 ·cases q
section
variable{P:Program}{w:World}{K:W.Frag}{mg:`U}{base:Heap}{N:List Str}{qual:Str}{scope:Scope}{f:Addr}{cd:Value}{A:Around}{outer:List Env}{s₀:Shared}{H₀:Hp}{E:XK}
theorem aez{pins:`Q}{σ:Sg}{H:Hp}{s:Shared}{h':Heap}{e C:Addr}(I:Inv `f pins σ H s)
  (hx:Heap.MadeExcOf s.heap h' e (.ref C) [])(hE:E (.ref C) none H):(`f).xe (.ref e) {s with heap:=h'}:=by
 generalize hX:`f=X at I|-
 have eS:X.stack=X.env::outer:=by rw[<-hX];rfl
 have eF:X.env.frame=some X.env.locals:=by rw[<-hX];rfl
 have e0:X.s₀=s₀:=by rw[<-hX];rfl
 have eH:X.H₀=H₀:=by rw[<-hX];rfl
 have eO:X.outer=outer:=by rw[<-hX];rfl
 have eX:X.ex=[]:=by rw[<-hX];rfl
 have eP:X.prog=P:=by rw[<-hX];rfl
 have eW:X.w=w:=by rw[<-hX];rfl
 have exe:X.xe=fun e s'=>wpAny (model P w) X.A (leaving X.env e) (fun _ s''=>CXE P w outer H₀ s₀ E e s'') (fun e' s''=>CXE P w outer H₀ s₀ E e' s'') s':=by rw[<-hX];rfl
 rw[exe]
 have zZ:∀b o,s₀.heap.get? b=some o->b∉frs outer->b∉frs X.stack:=fun b o e1 hb z=>by
  rcases List.mem_cons.mp (I.stkSub b z)with e2|e2
  ·have:=Nat.lt_of_lt_of_le (Heap.lt_size (e0▸e1)) I.ok.above
   rw[e2]at this
   exact absurd this (Nat.lt_irrefl _)
  ·exact hb (by rw[<-eO];exact e2)
 have nex:∀b:Addr,b∉X.ex:=fun b z=>by rw[eX]at z;simp at z
 have ub:Un (frs outer) X.ex H₀ H s₀.heap s.heap:=by
  have:=I.base
  rw[e0,eH]at this
  unfold Cx.fs at this
  rw[eO]at this
  exact this
 have tf:∀b u,H b=some u->b∉frs X.stack:=fun b u e1 z=>by
  rw[I.stkFree b z]at e1;cases e1
 refine wpAny_leaves_madeW (base:=W.hideAll s.heap (frs X.stack)) (L:=X.env.locals) (outer:=outer) (by rw[I.ok.frames,eS]) eF (fun b o z=>W.of_hideAll _ z) ?_ hx fun h'' t F1 _ _ F4=>?_
 ·rw[<-eS]
  exact W.funFrames_hide I.stack fun ev hev a ha=>List.mem_filterMap.mpr ⟨ev,hev,ha⟩
 refine⟨e,C,H,_,rfl,hE,⟨I.os.trans (by rw[e0]),I.bare,⟨_,F1⟩,fun b o e1 n hb=>?_,fun b o e1 hb=>?_,fun b o e1 n=>ub.free b o e1 n (nex b),fun b o e1 hb=>?_,ub.tups,ub.frzs,ub.tbls,fun b u e1=>?_,?_,?_⟩⟩
 ·exact W.hideAll_get _ (ub.keep b o e1 n hb (nex b)) (zZ b o e1 hb)
 ·have hb':b∈X.fs:=by unfold Cx.fs;rw[eO];exact hb
  have n:H₀ b=none:=by rw[<-eH];exact I.ok.frf b hb'
  obtain⟨s1,q1⟩:=ub.slot b o e1 n hb (nex b)
  obtain⟨_,o2,q2,nf⟩:=I.ok.funs.mem hb'
  rw[e0,e1]at q2
  cases q2
  have q3:=hx.keeps b _ q1
  obtain⟨s2,q4⟩:=F4 b _ q3 nf
  exact⟨s2,q4⟩
 ·obtain⟨o',q1⟩:=ub.there b o e1 (nex b)
  exact⟨o',W.hideAll_get _ q1 (zZ b o e1 hb)⟩
 ·have q:=I.hok b u e1
  rw[eP,eW]at q
  refine q.stay (fun c v hc q1=>W.hideAll_get _ q1 ?_) (fun _ z=>z) fun _ _ z=>z
  rcases hc with z|z
  ·rw[z];exact tf b u e1
  ·exact tf c _ z
 ·cases e1:H e with
  |none=>rfl
  |some u=>
   obtain⟨ob,q1⟩:=Kr (I.hok e u e1)
   rw[hx.new]at q1;cases q1
 ·cases e1:s₀.heap.get? e with
  |none=>rfl
  |some o=>
   obtain⟨o',q1⟩:=ub.there e o e1 (nex e)
   rw[hx.new]at q1;cases q1
def Vu(C:Addr)(E:XK):TS:=fun _ _ H=>E (.ref C) none H
theorem afA{x:Str}{C:Addr}{B newId initId:String}{bmB:`M}{np cpos pos:Pos}(FB:ExcBaseFacts B newId initId bmB)(q:W.excIn K C bmB newId=true)
  (hg:Gl `f x)(hm:mg x=some (.ref C))(hd:`k:=by decide):
  PS `f (.Raise (some (.Call (.Name x np) [] [] cpos)) none pos) (Vu C E):=by
 intro pins s σ H D I h
 obtain⟨tl,Nn,nm,qq,bs,hdc,sn,sb,ab,cl,dd,k0,k1,k2,k3,k5,mN,hC,hN,hni,T⟩:=M9 I.kIn q
 refine wpAny_Raise_call_subT (C:=C) (N:=Nn) (nm:=nm) (q:=qq) (bs:=bs) (bm:=tl) (sn:=sn) (hdct:=hdc) (sub:=sb) (col:=cl) (ab:=ab) (dd:=dd) (k5:=k5) (k3:=k3) (k2:=k2) (k1:=k1) (k0:=k0) FB (mN:=mN) (T.hasType FB.hasBase) (I.ok.hd rfl) rfl hni (ld_glob I hg hm ⟨rfl,?_⟩ hd)
 exact evalArgs_empty ⟨rfl,`R,hC,hN,T,fun h' e hx=>aez I hx h⟩
end
theorem okX{P:Program}{w:World}{K:W.Frag}{mg:`U}{base:Heap}{x qual:Str}{st:Stmt}{f:Addr}{fd:FuncData}{N ps:List Str}{k:Nat}{sp:Sp}(F:Fun K x qual st f fd)(S:FnScope N ps (defScope st))(len:∀vs H Q E,sp vs H Q E->vs.length=ps.length)
  (hb:∀(cdv:Value)(A:Around)(outer:List Env)(s:Shared)(H:Hp)(vs:`F)(Q:VK)(E:XK),Room k (A.deeper (envOfC qual (defScope st) s.heap.objs.size f cdv))->sp vs H Q E->
   ∃t,PSs (cxOf (CXE P w) P w K mg base N qual (defScope st) f cdv A outer s H E) (defBody st) t/\t {nx:=fun _ H'=>Q .non H',rt:=Q} (start N vs) H):FnOk P w K mg base (CXE P w) (k+1) f fd ps sp:=by
 obtain⟨oc,od,kV,doc,pm,an,cdv,ct,osl,e,lk,hcd⟩:=F.ex
 subst e
 exact fn_of lk hcd S len fun A outer s H vs Q E hr hsp=>hb cdv A outer s H vs Q E hr hsp
def hX(X:Cx)(a:Addr):Cx:={X with A:=X.A.mark (some `G),calm:=false,xe:=fun _ _=>False}
def XO(a C:Addr):HO:=.ext fun h=>∃o vs,h.get? a=some o/\o.cls=.ref C/\o.data=.fields vs
section
variable{X:Cx}{pins:`Q}{σ:Sg}{H:Hp}{s:Shared}
theorem alW(ok:X.Ok)(a:Addr):(hX X a).Ok:=
 ⟨ok.mod,ok.kind,ok.glob,ok.blt,ok.above,ok.inj,ok.has,ok.cab,fun z=>absurd (show false=true from z) Bool.false_ne_true,ok.frames,ok.stk,ok.exf,ok.bs,ok.bsz,ok.noex,ok.exfs,ok.funs,ok.frf⟩
theorem Pq(I:`J)(a:Addr):Inv (hX X a) pins σ H s:=⟨alW I.ok a,I.os,I.bare,I.base,I.loc,I.cell,I.free,I.freeC,I.pin,I.hok,I.len⟩
theorem agn{a:Addr}(ok:X.Ok)(I:Inv (hX X a) pins σ H s):`J:=⟨ok,I.os,I.bare,I.base,I.loc,I.cell,I.free,I.freeC,I.pin,I.hok,I.len⟩
theorem Fly.inv{H':Hp}{B h5:Heap}{a C:Addr}{t:Value}{s':Shared}(I:`J)(F:Fly X.prog X.w X.stack H s H' B a C s')(fl:Heap.FlyingW B X.stack a (.ref C) t h5)(sl:s'.heap.UpToSlots h5):
  Inv X pins σ (upd H' a (XO a C)) {s' with heap:=h5}:=by
 have st:∀b o,B.get? b=some o->h5.get? b=some o:=fl.1
 have fr:∀b o,s.heap.get? b=some o->b∈frs X.stack->∃sl,h5.get? b=some {o with slots:=sl}:=fun b o e hb=>by
  obtain⟨s1,e1⟩:=F.slot b o e hb
  obtain⟨_,o2,e2,nf⟩:=I.stack.mem hb
  rw[e]at e2
  cases e2
  obtain⟨s2,e3⟩:=sl b _ e1 nf
  exact⟨s2,e3⟩
 have na:∀b u,H' b=some u->b≠a:=fun b u e z=>by rw[z,F.new]at e;cases e
 have ns:∀b o,s.heap.get? b=some o->b≠a:=fun b o e z=>by rw[z,F.fresh]at e;cases e
 refine I.call' (ch:=[]) F.os ⟨fun b o e n hb _=>st b o (F.keep b o e n hb),fun b o e _ hb _=>fr b o e hb,fun b o e n _=>?_,fun b o e _=>?_,fun b xs e=>?_,fun b o u e=>?_,fun b ps e=>?_⟩ (fun b u e=>?_) F.bare (fun b z=>absurd z `H)
 ·rw[upd_ne (ns b o e)];exact F.free b o e n
 ·by_cases hb:b∈frs X.stack
  ·obtain⟨s2,e3⟩:=fr b o e hb
   exact⟨_,e3⟩
  ·obtain⟨o',e'⟩:=F.there b o e hb
   exact⟨o',st b o' e'⟩
 ·have:=F.tups b xs e
  rw[upd_ne (na _ _ this)];exact this
 ·have:=F.frzs b o u e
  rw[upd_ne (na _ _ this)];exact this
 ·obtain⟨more,this⟩:=F.tbls b ps e
  exact⟨more,by rw[upd_ne (na _ _ this)];exact this⟩
 ·by_cases hb:b=a
  ·subst hb
   rw[upd_same]at e
   cases e
   obtain⟨oe,vs,g1,g2,g3,_⟩:=fl.first
   refine⟨⟨oe,vs,g1,g2,g3⟩,⟨oe,g1⟩,fun h1 h2 p k=>?_⟩
   obtain⟨o,vs',q1,q2⟩:=p
   exact⟨o,vs',k o q1,q2⟩
  ·rw[upd_ne hb]at e
   refine(F.hok b u e).stay (fun c v _ q=>st c v q) (fun c q=>?_) fun c xs q=>?_
   ·rw[upd_ne (na _ _ q)];exact q
   ·rw[upd_ne (na _ _ q)];exact q
theorem name_goes{M:Model}{A:Around}{E:`T}{i:Nat}{n:Str}{pos:Pos}{Q:Unit->Shared->Prop}(I:`J)(hN:X.N.Nodup)(hi:X.N[i]?=some n)(hl:X.env.scope.names.lookup n=some .local)
  (h:∀s',Inv X pins (σ.set i none) H s'->Q () s'):wpAny M A (do bindName X.env n .none;unbindBehindTheSuite X.env n pos) Q E s:=by
 have hcls:(X.env.scope.kind== .class||(X.env.scope.kind== .module&&X.env.locals !=X.env.globals))=false:=by rw[I.ok.kind];rfl
 have hk:X.env.kindOf n=some .local:=hl
 refine wpAny_bind (wpAny_bindName (store_ok (v:=.non) I hN hi (.inl hl) rfl (fun s1 I1=>?_) (.inr hl)))
 obtain⟨m,hn,hlk⟩:=I1.loc
 have hiσ:i<σ.length:=by rw[I.len];exact(List.getElem?_eq_some_iff.mp hi).1
 have hmn:(m n).isSome=true:=by
  obtain⟨u,_,lk⟩:=hlk i n .non hi (by rw[List.getElem?_set_self hiσ]) (.inl hl)
  rcases lk with⟨_,e⟩|⟨k,_⟩
  ·rw[e];rfl
  ·rw[hk]at k
   rcases k with k|k<;>cases k
 unfold unbindBehindTheSuite
 refine wpAny_onRaise ?_
 unfold unbindName
 refine wpAny_bind (wpAny_point (wpAny_bind ?_))
 unfold deleteName
 simp only[hk,hcls]
 rw[if_neg `B]
 refine wpAny_bind (wpAny_nsDel_keeps hn fun h2 v hn2 hs=>?_)
 rw[hmn]
 simp only[if_true,Bool.not_true,Bool.false_eq_true,if_false]
 have I2:Inv X pins (σ.set i none) H {s1 with heap:=h2}:=by
  obtain⟨oL,_,_,hoL,_⟩:=id hn
  refine⟨I1.ok,I1.os,I1.bare,⟨fun b o e n hb hx=>?_,fun b o e n hb hx=>?_,I1.base.free,fun b o e hx=>?_,I1.base.tups,I1.base.frzs,I1.base.tbls⟩,⟨_,hn2,fun j y v' e1 e2 e3=>?_⟩,fun y c e=>?_,I1.free,I1.freeC,fun p hp=>?_,fun b ob e=>?_,by simpa using I.len⟩
  ·exact(hs.2 b (Nat.ne_of_lt (Nat.lt_of_lt_of_le (Heap.lt_size e) I1.ok.above))).trans (I1.base.keep b o e n hb hx)
  ·obtain⟨sl,e1⟩:=I1.base.slot b o e n hb hx
   exact⟨sl,(hs.2 b (Nat.ne_of_lt (Nat.lt_of_lt_of_le (Heap.lt_size e) I1.ok.above))).trans e1⟩
  ·obtain⟨o',e1⟩:=I1.base.there b o e hx
   exact⟨o',(hs.2 b (Nat.ne_of_lt (Nat.lt_of_lt_of_le (Heap.lt_size e) I1.ok.above))).trans e1⟩
  ·by_cases hj:j=i
   ·subst hj
    rw[List.getElem?_set_self hiσ]at e2
    cases e2
   ·rw[List.getElem?_set_ne (Ne.symm hj)]at e2
    obtain⟨u',r',q⟩:=hlk j y v' e1 (by rw[List.getElem?_set_ne (Ne.symm hj)];exact e2) e3
    refine⟨u',r',?_⟩
    rcases q with⟨k,e⟩|⟨k,c,e,z⟩
    ·refine .inl ⟨k,?_⟩
     have:y≠n:=fun e=>hj (nodup_ix hN e1 (e▸hi))
     simp[this,e]
    ·exact .inr ⟨k,c,e,z.sameBut hs (I1.cne y c e)⟩
  ·obtain⟨w',z⟩:=I1.cell y c e
   exact⟨w',z.sameBut hs (I1.cne y c e)⟩
  ·obtain⟨e,n,ne,nf,d⟩:=I1.pin p hp
   exact⟨(hs.2 p.1 ne).trans e,n,ne,nf,d⟩
  ·refine(I1.hok b ob e).stay (fun c w' hc q=>(hs.2 c ?_).trans q) (fun _ q=>q) fun _ _ q=>q
   rintro rfl
   have hf:=I1.free
   rcases hc with rfl|hc
   ·rw[hf]at e;cases e
   ·rw[hf]at hc;cases hc
 exact wpAny_pure (wpAny_point (h _ I2))
theorem Uu{M:Model}{A:Around}{E:`T}{e C D:Addr}{oe:Obj}{Q:Bool->Shared->Prop}{K:W.Frag}(XI:K.In s.heap)(he:s.heap.get? e=some oe)(hcls:oe.cls=.ref C)
  (h1:W.typeIn K (.ref D)=some (.type "type"))(h2:W.subIn K (.ref D) (.type "BaseException")=some true)(h3:W.subIn K (.ref C) (.ref D)=some true)(hD:∃cd,W.clsIn K D=some cd)
  (hq:Q true s):wpAny M A (excMatches (.ref e) (.ref D)) Q E s:=by
 obtain⟨hh,g,d,t,os⟩:=s
 have L1:=W.looks_typeIn (M:=M) XI h1
 have L2:=W.looks_subIn (M:=M) XI h2
 have L3:=W.looks_subIn (M:=M) XI h3
 have f:=tc_notTuple
 obtain⟨cd,hcd⟩:=hD
 unfold W.clsIn at hcd
 split at hcd
 ·rename_i c' d' cd' sl' ho
  have hoD:=XI _ _ ho
  unfold excMatches
  repeat(first|(with_reducible refine wpAny_loadPart_at he ?_;rw[hcls])|with_reducible refine wpAny_loadPart_at hoD ?_|refine L1.at ?_|refine L2.at ?_|refine L3.at ?_|wp_step)
  exact hq
 ·cases hcd
end
def pB(l:`E)(lo hi:Option Int):`E:=(l.drop (HT.sIx l.length 0 lo)).take (HT.sIx l.length l.length hi-HT.sIx l.length 0 lo)
theorem Nq(l:`E)(lo hi:Option Int):(pB l lo hi).length<=l.length:=by
 unfold pB
 rw[List.length_take,List.length_drop]
 lia
theorem idx_eq(lo hi:Option Int)(n:Nat):Builtin.Str.strSliceIndices lo hi 1 n=(List.range (HT.sIx n n hi-HT.sIx n 0 lo)).map (fun k=>HT.sIx n 0 lo+k):=by
 obtain⟨e1,e2,e3⟩:=G9 lo hi n
 have e:Builtin.Str.strSliceIndices lo hi 1 n=sliceRange (sliceBounds lo hi none n).1 (sliceBounds lo hi none n).2.1 1:=rfl
 rw[e,e1,e2]
 generalize HT.sIx n 0 lo=a
 generalize HT.sIx n n hi=b
 have e4:(if(a:Int)<b then((b:Int)-a+1-1)/1 else 0).toNat=b-a:=by
  split
  ·simp
  ·lia
 show List.map _ (List.range (if(a:Int)<b then((b:Int)-a+1-1)/1 else 0).toNat)=_
 rw[e4]
 refine List.map_congr_left fun k _=>?_
 lia
theorem ahQ(l:`E)(lo hi:Option Int):(Builtin.Str.strSliceIndices lo hi 1 (tx l).length).filterMap ((tx l).cps[·]?)=pB l lo hi:=by
 have hl:(tx l).length=l.length:=bR l
 rw[hl,idx_eq]
 unfold pB
 have h2:=HT.Wc l.length l.length `P hi
 generalize HT.sIx l.length 0 lo=a
 generalize HT.sIx l.length l.length hi=b at h2
 have key:∀n,a+n<=l.length\/n=0->((List.range n).map fun k=>a+k).filterMap ((tx l).cps[·]?)=(l.drop a).take n:=by
  intro n
  induction n with
  |zero=>intro _;simp
  |succ n ih=>
   intro h
   have h':a+n<l.length:=`A
   rw[List.range_succ,List.map_append,List.filterMap_append,ih `A,List.take_add_one,List.getElem?_drop]
   congr 1
   simp[tx,h']
 exact key (b-a) `A
theorem Xv{prog:Program}{w:World}{A:Around}{E:`T}{s:Shared}{l:`E}{t:Tok}{sl:Addr}{vl vu:Value}{lo hi:Option Int}{Q:`T}
  (hs:s.heap.IsSliceOf sl vl vu .none)(pl:IsPart vl lo)(pu:IsPart vu hi)(hz:l.length<=sizeLine)(h:∀t' k,Q (.str (tx (pB l lo hi)) t') {s with toks:=k}):wpAny `a A (getItem (.str (tx l) t) (.ref sl)) Q E s:=by
 have hT:=typeIs_str s (tx l) t
 obtain⟨pl',el,fl⟩:∃p:Option (Int×Tok),partValue p=vl/\p.map (·.1)=lo:=by
  cases pl with
  |none=>exact⟨none,rfl,rfl⟩
  |int i t=>exact⟨some (i,t),rfl,rfl⟩
 obtain⟨pu',eu,fu⟩:∃p:Option (Int×Tok),partValue p=vu/\p.map (·.1)=hi:=by
  cases pu with
  |none=>exact⟨none,rfl,rfl⟩
  |int i t=>exact⟨some (i,t),rfl,rfl⟩
 have hs':s.heap.IsSlice sl pl' pu' none:=by
  obtain⟨o,h1,h2,h3⟩:=hs
  exact⟨o,h1,h2,by rw[el,eu];exact h3⟩
 have ep:slicePicked (tx l) pl' pu' none=Builtin.Str.strSliceIndices lo hi 1 (tx l).length:=by
  unfold slicePicked
  rw[fl,fu]
  rfl
 have m:=meets_str_getitem_slice (tx l) t sl pl' pu' none rfl
 unfold getItem
 try with_reducible refine wpAny_holding ?_
 first|refine wpAny_bind (wpAny_pure ?_)|skip
 refine wpAny_bind (wpAny_callSpecial?_slot (name:=Str.ofString "__getitem__") hT PyProof.Rows.slot_str_getitem ?_)
 refine call_meets PyProof.Rows.slot_str_getitem hT PyProof.Rows.entry_str_getitem (PyProof.Rows.args_str_getitem _ _) m ⟨hs',?_⟩
 unfold sliceMade
 rw[ep]
 split
 ·rename_i hc
  have hlen:(Builtin.Str.strSliceIndices lo hi 1 (tx l).length).length=l.length:=by
   simp at hc
   rw[hc]
   exact bR l
  have ach:pB l lo hi=l:=by
   have h2:=HT.Wc l.length l.length `P hi
   rw[bR,idx_eq,List.length_map,List.length_range]at hlen
   unfold pB
   by_cases h0:l.length=0
   ·have:l=[]:=List.length_eq_zero_iff.mp h0
    subst this
    simp
   ·have e0:HT.sIx l.length 0 lo=0:=`A
    rw[e0,List.drop_zero,List.take_of_length_le `A]
  have:=h t s.toks
  rw[ach]at this
  exact wpAny_pure this
 ·rw[ahQ]
  refine⟨?_,?_⟩
  ·show(tx (pB l lo hi)).length<=sizeLine
   rw[bR]
   exact Nat.le_trans (Nq l lo hi) hz
  ·exact wpAny_pure (h _ _)
def amQ:V->Option Int->Option Int->Hp->VK->Prop:=fun x lo hi H Q=>∃l,x=.str (tx l)/\l.length<=sizeLine/\Q (.str (tx (pB l lo hi))) H
theorem Cp{X:Cx}:SlR X amQ:=by
 intro pins s σ H x v vl vu lo hi sl Q I rx hs pl pu h
 obtain⟨l,rfl,hz,q⟩:=h
 obtain⟨t,rfl⟩:=rx
 exact⟨"str",_,PyProof.Rows.slot_str_getitem.lookup,typeIs_str _ _ _,Xv hs pl pu hz fun t' k=>⟨.str _,H,I.tok _,⟨_,rfl⟩,q⟩⟩
structure Tq(K:W.Frag)(C:Addr):Prop where
 cls:∃cd,W.clsIn K C=some cd
 ga:W.findIn K (.ref C) "__getattribute__"=some (some (.builtin "BaseException.__getattribute__"))
 gt:W.findIn K (.ref C) "__getattr__"=some none
 cl:W.findIn K (.ref C) "__class__"=some (some (.builtin "object.__class__"))
 ob:W.mroIn K C (.type "object")=some true
 be:W.subIn K (.ref C) (.type "BaseException")=some true
section
variable{K:W.Frag}{C a:Addr}{prog:Program}{w:World}{A:Around}
theorem ahc{R:Result->Shared->Prop}{s:Shared}{tp:Value}(X:K.In s.heap)(L0:W.Looks `a s.heap (typeOf `G) (.ref C))(hm:W.mroIn K C (.type "object")=some true)(h:R (.ok (.ret (.ref C))) s):
  codeAny `a A (.call (.builtin "getset_descriptor.__get__") ⟨[.builtin "object.__class__",`G,tp],[]⟩) R s:=by
 obtain⟨hh,g,dr,t,os⟩:=s
 have L1:=W.looks_mroIn (M:=`a) X hm
 refine codeAny_call_builtin W.KF.slot_gs.plain W.KF.entry_gs
  (W.KF.slot_gs.check _ _ _ _ _ _ _ _ W.KF.type_class (W.KF.args_gs _ _ _) ?_)
 unfold Builtin.«getset_descriptor.__get__»Builtin.Getset_descriptor.descrGet
 rw[W.dga_obj]
 refine wpAny_bind (wpAny_pure ?_)
 unfold Builtin.Getset_descriptor.descrGetter Builtin.Getset_descriptor.descrCheckInstance Builtin.Getset_descriptor.descrNameAndClass isInstance
 simp only[W.KF.owner_class]
 repeat lk
 refine⟨Code.quiet_builtin _ `D,codeAny_builtin W.KF.entry_class ?_⟩
 unfold Builtin.«object.__class__»PySem.shownTypeOf
 repeat lk
 exact h
end
theorem xca{K:W.Frag}{C a:Addr}(Z:Tq K C){prog:Program}{w:World}{A:Around}{E:`T}{Q:Option Value->Shared->Prop}{s:Shared}(X:K.In s.heap)
  (p:∃o vs,s.heap.get? a=some o/\o.cls=.ref C/\o.data=.fields vs)(k:Q (some (.ref C)) {s with toks:=s.toks+1}):wpAny `a A (getAttr? `G "__class__") Q E s:=by
 obtain⟨hh,g,d,t,os⟩:=s
 obtain⟨o,vs,h1,h2,h3⟩:=p
 have L0:W.Looks `a hh (typeOf `G) (.ref C):=h2▸(W.Looks.ld h1).andThen .now
 have L1:=W.looks_findIn (M:=`a) X Z.ga
 unfold getAttr? getAttrBy? getAttrBy
 refine wpAny_bind (wpAny_mkText (wpAny_bind (wpAny_attempt (wpAny_holding (wpAny_bind (L0.at (wpAny_bind (L1.at ?_))))))))
 have L2:=W.looks_findIn (M:=`a) X Z.gt
 have L3:=W.looks_findIn (M:=`a) X Z.cl
 have L4:=W.looks_subIn (M:=`a) X Z.be
 have hx2:(Value.builtin "BaseException.__getattribute__"==Value.builtin "object.__getattribute__")=false:=`D
 dsimp only
 rw[if_neg (by rw[hx2,Bool.and_false];decide)]
 unfold getAttrByItsOwn hookBefore callGetattribute boundAndCalled
 refine wpAny_bind (L2.at (wpAny_bind (wpAny_attempt (wpAny_holding ?_))))
 rw[if_neg `B]
 refine wpAny_bind (wpAny_of_eq (F.attr_ValueError.ga.bind `G) ?_)
 refine wpAny_call (codeAny_call_builtin F.attr_ValueError.ga.plain F.entry_bexc_ga ?_)
 have hk:builtinKind "BaseException.__getattribute__"=some .slot:=`D
 have hsp:splitId "BaseException.__getattribute__"=some ("BaseException","__getattribute__"):=`D
 have hargs:=F.args_bexc_ga `G (.str (Str.ofString "__class__") t)
 simp only[checkBuiltinCall,hk,hsp]
 refine wpAny_bind ?_
 unfold isInstance
 have f5:=W.KF.type_class
 have f6:=F.slot_gs_get.lookup
 have f7:=F.slot_gs_set.lookup
 repeat(any_goals(first|assumption|with_reducible refine L0.at ?_|with_reducible refine L4.at ?_|with_reducible refine L3.at ?_|wp_step))
 refine ahc X L0 Z.ob ?_
 exact wpAny_pure (W.handed_on rfl (wpAny_pure k))
theorem agi{K:W.Frag}{C a:Addr}(Z:Tq K C):W.KitX K `G (.ref C) (fun h=>∃o vs,h.get? a=some o/\o.cls=.ref C/\o.data=.fields vs)where
 ty:=fun M h _ p=>by
  obtain⟨o,vs,h1,h2,_⟩:=p
  exact h2▸(W.Looks.ld h1).andThen .now
 it:=fun M h X _=>by
  obtain⟨cd,hcd⟩:=Z.cls
  unfold W.clsIn at hcd
  split at hcd
  ·rename_i c1 d1 cd1 sl1 hol
   intro A1 Q1 E1 s1 k1 q1
   unfold isType loadHead
   exact wpAny_bind (wpAny_loadPart (k1 _ _ (X _ _ hol)) (wpAny_pure q1))
  ·cases hcd
 ne:=fun h tp dd its n sl X htp=>by
  obtain⟨cd,hcd⟩:=Z.cls
  refine Bool.eq_false_iff.mpr fun z=>?_
  have e:C=tp:=Value.ref.inj (beq_iff_eq.mp z)
  subst e
  unfold W.clsIn at hcd
  split at hcd
  ·rename_i c1 d1 cd1 sl1 hol
   have z2:=(X _ _ hol).symm.trans htp
   cases z2
  ·cases hcd
 ca:=fun X p k=>xca Z X p k
def akh:V->Value
 | .ref D=>.ref D
 | .ty T=>.type T
 |_=>.none
theorem zG{X:Cx}:CallR X (.builtin "isinstance") (fun xs H Q=>∃a C y b,xs=[`G,y]/\((∃D,y=.ref D)\/∃T,y=.ty T)/\H a=some (XO a C)/\Tq X.K C/\W.kitOne X.K (.ref C) (akh y)=some b/\Q (.bl b) H):=by
 intro pins s σ H xs us Q I r h
 obtain⟨a,C,y,b,rfl,hy,ha,Z,e,q⟩:=h
 obtain⟨u,w',rfl,r1,r2⟩:=vals2 r
 cases r1
 have ew:w'=akh y:=by
  rcases hy with⟨D,rfl⟩|⟨T,rfl⟩
  ·exact r2
  ·exact r2
 subst ew
 obtain⟨p,_⟩:=(show ObjOk X.prog X.w H s.heap a (XO a C)from I.hok a _ ha)
 exact W.kia_one (agi Z) I.kIn p e (fun z=>nomatch z) fun tk=>⟨.bl b,H,I.tok tk,rfl,q⟩
structure QE(X:Cx)(e:Expr)(t:TE):Prop where
 run:PE X e t
structure QT(X:Cx)(e:Expr)(t:TT):Prop where
 run:PT X e t
structure QW(X:Cx)(e:Expr)(t:TT):Prop where
 run:PW X e t
structure QA(X:Cx)(es:List Expr)(t:TA):Prop where
 run:PA X es t
structure QS(X:Cx)(st:Stmt)(t:TS):Prop where
 run:PS X st t
structure QSs(X:Cx)(st:List Stmt)(t:TS):Prop where
 run:PSs X st t
structure QI(X:Cx)(tg iter:Expr)(wi:TI):Prop where
 run:PI X tg iter wi
structure QG(X:Cx)(tg:Expr)(t:TG):Prop where
 run:PG X tg t
structure QGs(X:Cx)(ts:List Expr)(t:TGs):Prop where
 run:PGs X ts t
structure QO(X:Cx)(o:Option Expr)(t:TO):Prop where
 run:PO X o t
theorem QW.pt{X:Cx}{e:Expr}{t:TT}(h:QW X e t):QT X e t:=⟨h.run.pt⟩
theorem qv{X:Cx}(i:Nat){x:Str}{pos:Pos}(hN:X.N[i]?=some x:=by rfl)(hv:Vis X.env.scope x:=by first|exact`O|exact Or.inr `O|exact Or.inr (Or.inr rfl))(hd:`k:=by decide)(hcd:(x==("__classdict__":Str))=false:=by decide):QE X (.Name x pos) (tVar i):=⟨L2.pv (i:=i) (hN:=hN) (hv:=hv) (hd:=hd) (hcd:=hcd)⟩
theorem aN{X:Cx}{i j pos}:QE X (.Constant (.int i) j pos) (tC (.int i)):=⟨L2.pe_int⟩
theorem pU{X:Cx}{b j pos}:QE X (.Constant (.bool b) j pos) (tC (.bl b)):=⟨L2.pe_bl⟩
theorem jq{X:Cx}{j pos}:QE X (.Constant .none j pos) (tC .non):=⟨L2.Wx⟩
theorem bF{X:Cx}{x j pos}:QE X (.Constant (.str x) j pos) (tC (.str x)):=⟨L2.Cy⟩
theorem Q8{X:Cx}{x:Str}{v:V}{u:Value}{pos:Pos}(hg:Gl X x)(hm:X.mg x=none)(hv:bootBuiltins x=some u)(r:RelV v u)(hn:x≠"__name__":=by decide)(hd:`k:=by decide):QE X (.Name x pos) (tC v):=⟨L2.aaC (hg:=hg) (hm:=hm) (hv:=hv) (r:=r) (hn:=hn) (hd:=hd)⟩
theorem aU{X:Cx}{x:Str}{v:V}{u:Value}{pos:Pos}(hg:Gl X x)(hm:X.mg x=some u)(r:RelV v u)(hd:`k:=by decide):QE X (.Name x pos) (tC v):=⟨L2.ahV (hg:=hg) (hm:=hm) (r:=r) (hd:=hd)⟩
theorem bD{X:Cx}{a b:Expr}{ta tb:TE}{pos:Pos}{op:Operator}{r:R2}(ho:OpR X (binaryOp op) r)(ha:QE X a ta)(hb:QE X b tb):QE X (.BinOp a op b pos) (tOp r ta tb):=⟨L2.pe_op (ho:=ho) (ha:=ha.run) (hb:=hb.run)⟩
theorem qK{X:Cx}{a:Expr}{ta:TE}{pos:Pos}{op:UnaryOp}{r:V->Hp->VK->Prop}(ho:UnR X (unaryOp op) r)(ha:QE X a ta):QE X (.UnaryOp op a pos) (tUn r ta):=⟨L2.ag2 (ho:=ho) (ha:=ha.run)⟩
theorem pR{X:Cx}{a b:Expr}{ta tb:TE}{pos:Pos}{op:CmpOp}{r:R2}(ho:OpR X (compareOp op) r)(ha:QE X a ta)(hb:QE X b tb)(hm:behindInMarks op b=false):QE X (.Compare a [op] [b] pos) (tOp r ta tb):=⟨L2.pe_cmpR (ho:=ho) (ha:=ha.run) (hb:=hb.run) (hm:=hm)⟩
theorem ajn{X:Cx}{a b:Expr}{ta tb:TE}{pos:Pos}{rest:List Expr}(ha:QE X a ta)(hb:QE X (.BoolOp .And (b::rest) pos) tb):QE X (.BoolOp .And (a::b::rest) pos) (agW ta tb):=⟨L2.ajy (ha:=ha.run) (hb:=hb.run)⟩
theorem alD{X:Cx}{a b:Expr}{ta tb:TE}{pos:Pos}{rest:List Expr}(ha:QE X a ta)(hb:QE X (.BoolOp .Or (b::rest) pos) tb):QE X (.BoolOp .Or (a::b::rest) pos) (ai3 ta tb):=⟨L2.alH (ha:=ha.run) (hb:=hb.run)⟩
theorem ad2{X:Cx}{a:Expr}{pos:Pos}{op}{t:TE}(h:QE X a t):QE X (.BoolOp op [a] pos) t:=⟨L2.ajx (h:=h.run)⟩
theorem d7{X:Cx}{es:List Expr}{t:TA}{pos:Pos}(h:QA X es t):QE X (.List es pos) (tLst t):=⟨L2.pe_lst (h:=h.run)⟩
theorem bA{X:Cx}{es:List Expr}{t:TA}{pos:Pos}{x1}(h:QA X es t):QE X (.Tuple es x1 pos) (ai2 t):=⟨L2.ajw (h:=h.run)⟩
theorem oN{X:Cx}{a b:Expr}{ta tb:TE}{pos:Pos}{tA:TT}{c:Expr}(hc:QT X c tA)(ha:QE X a ta)(hb:QE X b tb):QE X (.IfExp c a b pos) (tIf tA ta tb):=⟨L2.afM (hc:=hc.run) (ha:=ha.run) (hb:=hb.run)⟩
theorem jo{X:Cx}{e:Expr}{te:TE}{lo hi:Option Expr}{tl th:TO}{pos p2:Pos}{r:V->Option Int->Option Int->Hp->VK->Prop}(hr:SlR X r)(he:QE X e te)(hl:QO X lo tl)(hu:QO X hi th):QE X (.Subscript e (.Slice lo hi none p2) pos) (tSl r te tl th):=⟨L2.afK (hr:=hr) (he:=he.run) (hl:=hl.run) (hu:=hu.run)⟩
theorem cH{X:Cx}{a b:Expr}{ta tb:TE}{pos:Pos}{r:R2}(hr:IxR X r)(ha:QE X a ta)(hb:QE X b tb)(hs:PlainIx b):QE X (.Subscript a b pos) (tOp r ta tb):=⟨L2.pe_ix (hr:=hr) (ha:=ha.run) (hb:=hb.run) (hs:=hs)⟩
theorem Jx{X:Cx}{scope:Scope}{cl:List (Str×Addr)}{x:Str}{fr:List Str}{js:`E}{elt iter:Expr}{px pos:Pos}{wi:TI}{te:TE}(hc:X.calm=true)(L:Jj X scope x fr js cl)(hi:QI X (.Name x px) iter wi)(he:∀C s H fp pins,QE (blk X scope cl C (x::fr) s H fp pins) elt te)(hs:∀v,foldedSetIterable iter X.env v=pure v:=by intro _;rfl):QE X (.ListComp elt [⟨.Name x px,iter,[],0⟩] scope pos) (tLC wi js te):=⟨Sw.alI (hc:=hc) (L:=L) (hi:=hi.run) (he:=fun C s H fp pins=>(he C s H fp pins).run) (hs:=hs)⟩
theorem aO{X:Cx}{CX:CXT}{k:Nat}{f:Addr}{fd:FuncData}{ps:List Str}{sp:Sp}{dvs:`F}{ds:`M}{E:XK}{x:Str}{p pos:Pos}{e:Expr}{es:List Expr}{t:TA}(F:FnOk X.prog X.w X.K X.mg X.base CX k f fd ps sp)(hr:Room k X.A)(hg:Gl X x)(hm:X.mg x=some (.ref f))(hk:W.keepIn X.K (.ref f)=true)(hb:Binds X.K fd ps ds)(hd:Vals dvs ds)(hx:Passes CX X E)(ha:QA X (e::es) t)(hdb:`k:=by decide)(he:`n:=by rfl)(hpl:(backTo pos (starEach es X.env)).any (·.1)=false:=by rfl):QE X (.Call (.Name x p) (e::es) [] pos) (tCall sp dvs E t):=⟨L2.pe_call (F:=F) (hr:=hr) (hg:=hg) (hm:=hm) (hk:=hk) (hb:=hb) (hd:=hd) (hx:=hx) (ha:=ha.run) (hdb:=hdb) (he:=he) (hpl:=hpl)⟩
theorem jY{X:Cx}{x:Str}{p pos:Pos}{e:Expr}{es:List Expr}{t:TA}{T:String}{r:`F->Hp->VK->Prop}(hc:CallR X (.type T) r)(hg:Gl X x)(hm:X.mg x=none)(hv:bootBuiltins x=some (.type T))(ha:QA X (e::es) t)(hn:x≠"__name__":=by decide)(hdb:`k:=by decide)(he:`n:=by rfl)(hpl:(backTo pos (starEach es X.env)).any (·.1)=false:=by rfl):QE X (.Call (.Name x p) (e::es) [] pos) (tCB r t):=⟨L2.Ug (hc:=hc) (hg:=hg) (hm:=hm) (hv:=hv) (ha:=ha.run) (hn:=hn) (hdb:=hdb) (he:=he) (hpl:=hpl)⟩
theorem bV{X:Cx}{x:Str}{p pos:Pos}{e:Expr}{es:List Expr}{t:TA}{id:String}{r:`F->Hp->VK->Prop}(hc:CallR X (.builtin id) r)(hg:Gl X x)(hm:X.mg x=none)(hv:bootBuiltins x=some (.builtin id))(ha:QA X (e::es) t)(hn:x≠"__name__":=by decide)(hdb:`k:=by decide)(he:`n:=by rfl)(hpl:(backTo pos (starEach es X.env)).any (·.1)=false:=by rfl):QE X (.Call (.Name x p) (e::es) [] pos) (tCB r t):=⟨L2.pe_callB (hc:=hc) (hg:=hg) (hm:=hm) (hv:=hv) (ha:=ha.run) (hn:=hn) (hdb:=hdb) (he:=he) (hpl:=hpl)⟩
theorem cI{X:Cx}{o e:Expr}{es:List Expr}{to:TE}{t:TA}{name:Str}{apos cpos:Pos}{T id:String}{r:V->`F->Hp->VK->Prop}(pa:PlainAttrs T)(slot:Slot T name id)(hty:typeOf (.builtin id)=pure (.type "method_descriptor"))(hm:MtR X id r)(ho:QE X o to)(ha:QA X (e::es) t)(hbase:attributeBase o name X.env (eval o X.env)=eval o X.env:=by rfl)(hfew:((backTo cpos (starEach (e::es) X.env)).all (fun x=>!x.1)&&(backToKw cpos (keywordEach [] X.env)).all (fun x=>x.1.isSome)
   &&decide ((e::es).length+([]:List Keyword).length+(if([]:List Keyword).isEmpty then 0 else 1)<30))=true:=by rfl)(hline:(apos.endLine==cpos.line)=true:=by rfl)(hs:`n:=by rfl)(hplain:(backTo cpos (starEach es X.env)).any (·.1)=false:=by rfl):QE X (.Call (.Attribute o name apos) (e::es) [] cpos) (tBM X.K T r to t):=⟨L2.zV (pa:=pa) (slot:=slot) (hty:=hty) (hm:=hm) (ho:=ho.run) (ha:=ha.run) (hbase:=hbase) (hfew:=hfew) (hline:=hline) (hs:=hs) (hplain:=hplain)⟩
theorem mV{X:Cx}{o:Expr}{to:TE}{name:Str}{apos cpos:Pos}{T id:String}{r:V->`F->Hp->VK->Prop}(pa:PlainAttrs T)(slot:Slot T name id)(hty:typeOf (.builtin id)=pure (.type "method_descriptor"))(hm:MtR X id r)(ho:QE X o to)(hbase:attributeBase o name X.env (eval o X.env)=eval o X.env:=by rfl)(hline:(apos.endLine==cpos.line)=true:=by rfl):QE X (.Call (.Attribute o name apos) [] [] cpos) (ai5 X.K T r to):=⟨L2.Wy (pa:=pa) (slot:=slot) (hty:=hty) (hm:=hm) (ho:=ho.run) (hbase:=hbase) (hline:=hline)⟩
theorem D_{X:Cx}{e:Expr}{te:TE}{p1 p2 pos pos2:Pos}(hgl:Gl X "list")(hgr:Gl X "reversed")(ml:X.mg "list"=none)(mr:X.mg "reversed"=none)(hc:X.calm=true)(he:QE X e te)(hs1:starEach [.Call (.Name "reversed" p2) [e] [] pos2] X.env=[(false,eval (.Call (.Name "reversed" p2) [e] [] pos2) X.env)]:=by rfl)(hs2:starEach [e] X.env=[(false,eval e X.env)]:=by rfl):QE X (.Call (.Name "list" p1) [.Call (.Name "reversed" p2) [e] [] pos2] [] pos) (SwR.tLR X.K te):=⟨SwR.Ot (hgl:=hgl) (hgr:=hgr) (ml:=ml) (mr:=mr) (hc:=hc) (he:=he.run) (hs1:=hs1) (hs2:=hs2)⟩
theorem dU{X:Cx}{e:Expr}{t:TE}(h:QE X e t)(he:∀whole,isTrue e X.env whole=(do let v<-whole;standAt e.pos;holding [v] (truthy v)):=by intro _;rfl):QT X e (tB t):=⟨L2.ad5 (h:=h.run) (he:=he)⟩
theorem yN{X:Cx}{a:Expr}{ta:TE}(ha:QE X a ta)(he:∀whole,isTrue a X.env whole=(do let v<-whole;standAt a.pos;holding [v] (truthy v))):QT X a (fun σ H Q=>ta σ H fun x H'=>∃k,YF X.K x H' k/\Q k H'):=⟨L2.Wo (ha:=ha.run) (he:=he)⟩
theorem aR{X:Cx}{a b:Expr}{ta tb:TE}{pos:Pos}{op:CmpOp}{r:R2}(ho:OpR X (compareOp op) r)(ha:QE X a ta)(hb:QE X b tb)(hm:behindInMarks op b=false):QT X (.Compare a [op] [b] pos) (tTest (tOp r ta tb)):=⟨L2.pt_cmpR (ho:=ho) (ha:=ha.run) (hb:=hb.run) (hm:=hm)⟩
theorem yO{X:Cx}{a:Expr}{pos:Pos}{tA:TT}(ha:QT X a tA):QT X (.UnaryOp .Not a pos) (ai4 tA):=⟨L2.ad6 (ha:=ha.run)⟩
theorem Cv{X:Cx}{a b:Expr}{pos:Pos}{tA tB':TT}{rest:List Expr}(ha:QT X a tA)(hb:QW X (.BoolOp .And (b::rest) pos) tB'):QW X (.BoolOp .And (a::b::rest) pos) (abm tA tB'):=⟨L2.ad4 (ha:=ha.run) (hb:=hb.run)⟩
theorem xP{X:Cx}{a:Expr}{pos:Pos}{tA:TT}(ha:QT X a tA):QW X (.BoolOp .And [a] pos) tA:=⟨L2.aaB (ha:=ha.run)⟩
theorem Vi{X:Cx}{a b:Expr}{pos:Pos}{tA tB':TT}{rest:List Expr}(ha:QT X a tA)(hb:QW X (.BoolOp .Or (b::rest) pos) tB'):QW X (.BoolOp .Or (a::b::rest) pos) (tOr tA tB'):=⟨L2.ag1 (ha:=ha.run) (hb:=hb.run)⟩
theorem Wj{X:Cx}{a:Expr}{pos:Pos}{tA:TT}(ha:QT X a tA):QW X (.BoolOp .Or [a] pos) tA:=⟨L2.ad3 (ha:=ha.run)⟩
theorem ak{X:Cx}:QA X [] tNil:=⟨L2.pa_nil⟩
theorem aj{X:Cx}{e:Expr}{es:List Expr}{te:TE}{t:TA}(ha:QE X e te)(hr:QA X es t)(hs:`n:=by rfl):QA X (e::es) (tCons te t):=⟨L2.pa_cons (ha:=ha.run) (hr:=hr.run) (hs:=hs)⟩
theorem aQ{X:Cx}{e:Expr}{te:TE}{pos:Pos}(he:QE X e te):QS X (.Return (some e) pos) (tRet te):=⟨L2.ps_ret (he:=he.run)⟩
theorem aax{X:Cx}{pos:Pos}:QS X (.Return none pos) agS:=⟨L2.ahH⟩
theorem bC{X:Cx}{pos:Pos}{i:Nat}{x:Str}{e:Expr}{te:TE}{pos':Pos}(hN:X.N.Nodup)(hi:X.N[i]?=some x)(hx:Loc X.env.scope x)(he:QE X e te)(hs:swapsWith e (some (.Name x pos')) pos.line X.env=pure false:=by rfl)(hf:X.fn x=true\/X.env.scope.names.lookup x=some .local:=by first|exact .inl rfl|exact .inr rfl|assumption):QS X (.Assign [.Name x pos'] e pos) (tAsg te (gName i)):=⟨L2.ps_set (hN:=hN) (hi:=hi) (hx:=hx) (he:=he.run) (hs:=hs) (hf:=hf)⟩
theorem adZ{X:Cx}{pos:Pos}{i:Nat}{x:Str}{e:Expr}{te:TE}{op:Operator}{ti:TIp}{pos':Pos}(hN:X.N.Nodup)(hi:X.N[i]?=some x)(hx:Loc X.env.scope x)(he:QE X e te)(ho:PIp X op ti)(hf:X.fn x=true\/X.env.scope.names.lookup x=some .local:=by first|exact .inl rfl|exact .inr rfl|assumption):QS X (.AugAssign (.Name x pos') op e pos) (ai6 i te ti):=⟨L2.ajo (hN:=hN) (hi:=hi) (hx:=hx) (he:=he.run) (ho:=ho) (hf:=hf)⟩
theorem bB{X:Cx}{t u:TS}{pos:Pos}{c:Expr}{a b:List Stmt}{tc:TT}(hc:QT X c tc)(ha:QSs X a t)(hb:QSs X b u):QS X (.If c a b pos) (tIfS tc t u):=⟨L2.ps_if (hc:=hc.run) (ha:=ha.run) (hb:=hb.run)⟩
theorem uq{X:Cx}{pos:Pos}{c:Expr}{body:List Stmt}{tc:TT}{tb:TS}(hp:PassesOwn `X X.A X.env X.xe)(hc:QT X c tc)(hb:QSs X body tb):QS X (.While c body [] pos) (adq tc tb):=⟨L2.Wq (hp:=hp) (hc:=hc.run) (hb:=hb.run)⟩
theorem adY{X:Cx}{tg:Expr}{iter:Expr}{body:List Stmt}{wi:TI}{g:TG}{tb:TS}{pos:Pos}(hp:PassesOwn `X X.A X.env X.xe)(hc:X.calm=true)(hi:QI X tg iter wi)(hg:QG X tg g)(hb:QSs X body tb)(hs:∀x,foldedSetIterable iter X.env x=pure x:=by intro _;rfl):QS X (.For tg iter body [] pos) (tFor wi g tb):=⟨L2.ps_for (hp:=hp) (hc:=hc) (hi:=hi.run) (hg:=hg.run) (hb:=hb.run) (hs:=hs)⟩
theorem bO{X:Cx}{e:Expr}{te:TE}{pos:Pos}(he:QE X e te)(hs:swapsWith e none pos.line X.env=pure false:=by rfl):QS X (.Expr e pos) (tDrop te):=⟨L2.ps_expr (he:=he.run) (hs:=hs)⟩
theorem Za{X:Cx}{pos:Pos}:QS X (.Continue pos) agU:=⟨L2.Zb⟩
theorem ahE{X:Cx}{pos:Pos}:QS X (.Pass pos) tNext:=⟨L2.ahI⟩
theorem yP{P:Program}{w:World}{K:W.Frag}{mg:`U}{base:Heap}{N:List Str}{qual:Str}{scope:Scope}{f:Addr}{cd:Value}{A:Around}{outer:List Env}{s₀:Shared}{H₀:Hp}{E:XK}{x:Str}{C:Addr}{B newId initId:String}{bmB:`M}{np cpos pos:Pos}(FB:ExcBaseFacts B newId initId bmB)(q:W.excIn K C bmB newId=true)(hg:Gl `f x)(hm:mg x=some (.ref C))(hd:`k:=by decide):QS `f (.Raise (some (.Call (.Name x np) [] [] cpos)) none pos) (Vu C E):=⟨Sw.afA (FB:=FB) (q:=q) (hg:=hg) (hm:=hm) (hd:=hd)⟩
theorem afx{X:Cx}{st:Stmt}:QS X st adu:=⟨L2.afB⟩
theorem Wm{X:Cx}{pos:Pos}{tg e:Expr}{te:TE}{g:TG}(he:QE X e te)(hg:QG X tg g)(hs:swapsWithSole [tg] e pos.line X.env=pure false:=by rfl)(hw:swappedStores [tg] e X.env=pure none:=by rfl)(h1:(assignEach [tg] X.env).map (·.2)=[assign tg X.env]:=by rfl):QS X (.Assign [tg] e pos) (tAsg te g):=⟨L2.ajp (he:=he.run) (hg:=hg.run) (hs:=hs) (hw:=hw) (h1:=h1)⟩
theorem aX{X:Cx}:QSs X [] tNext:=⟨L2.pss_nil⟩
theorem aq{X:Cx}{st:Stmt}{rest:List Stmt}{t u:TS}(h1:QS X st t)(h2:QSs X rest u):QSs X (st::rest) (tSeq t u):=⟨L2.pss_cons (h1:=h1.run) (h2:=h2.run)⟩
theorem au{X:Cx}{st:Stmt}{t:TS}(h1:QS X st t):QSs X [st] t:=⟨L2.pss_one (h1:=h1.run)⟩
theorem zU{X:Cx}{tg:Expr}{a:Expr}{ta:TA}{p pos:Pos}(hg:Gl X "range")(hm:X.mg "range"=none)(ha:QA X [a] ta)(hs:starEach [a] X.env=[(false,eval a X.env)]:=by rfl):QI X tg (.Call (.Name "range" p) [a] [] pos) (ag5 ta):=⟨L2.aed (hg:=hg) (hm:=hm) (ha:=ha.run) (hs:=hs)⟩
theorem aay{X:Cx}{tg:Expr}{l:Expr}{tl:TE}(hl:QE X l tl):QI X tg l (iList X.K tl):=⟨L2.pi_list (hl:=hl.run)⟩
theorem ad0{X:Cx}{tg:Expr}{l:Expr}{tl:TE}(hl:QE X l tl):QI X tg l (aj3 X.K tl):=⟨L2.ajs (hl:=hl.run)⟩
theorem ur{X:Cx}{pos:Pos}{i:Nat}{x:Str}(hN:X.N.Nodup)(hi:X.N[i]?=some x)(hx:Loc X.env.scope x)(hf:X.fn x=true\/X.env.scope.names.lookup x=some .local:=by first|exact .inl rfl|exact .inr rfl|assumption):QG X (.Name x pos) (gName i):=⟨L2.pg_name (hN:=hN) (hi:=hi) (hx:=hx) (hf:=hf)⟩
theorem ad1{X:Cx}{pos:Pos}{es:List Expr}{k:Nat}{t:TGs}{n:Nat}(hc:X.calm=true)(h:QGs X es t)(hn:(assignEach es X.env).length=n:=by rfl)(hst:(assignEach es X.env).findIdx? (·.1)=none:=by rfl):QG X (.Tuple es k pos) (akb X.K n t):=⟨L2.aju (hc:=hc) (h:=h.run) (hn:=hn) (hst:=hst)⟩
theorem aaz{X:Cx}:QGs X [] ab7:=⟨L2.ahS⟩
theorem yQ{X:Cx}{e:Expr}{es:List Expr}{t:TG}{u:TGs}(h1:QG X e t)(h2:QGs X es u)(hs:(assignEach (e::es) X.env).map (·.2)=assign e X.env::(assignEach es X.env).map (·.2):=by rfl):QGs X (e::es) (ag9 t u):=⟨L2.afJ (h1:=h1.run) (h2:=h2.run) (hs:=hs)⟩
theorem nA{X:Cx}:QO X none Qv:=⟨L2.ahL⟩
theorem jF{X:Cx}{e:Expr}{te:TE}(h:QE X e te):QO X (some e) (agT te):=⟨L2.ahK (h:=h.run)⟩
theorem okQ{P:Program}{w:World}{K:W.Frag}{mg:`U}{base:Heap}{x qual:Str}{st:Stmt}{f:Addr}{fd:FuncData}{N ps:List Str}{k:Nat}{sp:Sp}(F:Fun K x qual st f fd)(S:FnScope N ps (defScope st))(len:∀vs H Q E,sp vs H Q E->vs.length=ps.length)
  (hb:∀(cdv:Value)(A:Around)(outer:List Env)(s:Shared)(H:Hp)(vs:`F)(Q:VK)(E:XK),Room k (A.deeper (envOfC qual (defScope st) s.heap.objs.size f cdv))->sp vs H Q E->
   ∃t,QSs (cxOf CX0 P w K mg base N qual (defScope st) f cdv A outer s H E).nox (defBody st) t/\t {nx:=fun _ H'=>Q .non H',rt:=Q} (start N vs) H):FnOk P w K mg base CX0 (k+1) f fd ps sp:=
 F.ok S len fun cdv A outer s H vs Q E hr h=>let⟨t,q,r⟩:=hb cdv A outer s H vs Q E hr h;⟨t,q.run,r⟩
theorem LQ{P:Program}{w:World}{K:W.Frag}{mg:`U}{base:Heap}{x qual:Str}{st:Stmt}{f:Addr}{fd:FuncData}{N ps:List Str}{k:Nat}{sp:Sp}(F:Fun K x qual st f fd)(S:FnScope N ps (defScope st))(len:∀vs H Q E,sp vs H Q E->vs.length=ps.length)
  (hb:∀(cdv:Value)(A:Around)(outer:List Env)(s:Shared)(H:Hp)(vs:`F)(Q:VK)(E:XK),Room k (A.deeper (envOfC qual (defScope st) s.heap.objs.size f cdv))->sp vs H Q E->
   ∃t,QSs (cxOf (CXE P w) P w K mg base N qual (defScope st) f cdv A outer s H E) (defBody st) t/\t {nx:=fun _ H'=>Q .non H',rt:=Q} (start N vs) H):FnOk P w K mg base (CXE P w) (k+1) f fd ps sp:=
 okX F S len fun cdv A outer s H vs Q E hr h=>let⟨t,q,r⟩:=hb cdv A outer s H vs Q E hr h;⟨t,q.run,r⟩
end Sw
namespace Sw
namespace T
mutual
def wr:T->`E| .node ts=>40::(wrL ts++[41])
def wrL:`C->`E
 |[]=>[]
 |t::ts=>wr t++wrL ts
end
theorem mZ(ts:`C):wr (.node ts)=40::(wrL ts++[41]):=by rw[wr]
theorem lE:wrL []=[]:=by rw[wrL]
theorem jl(t:T)(ts:`C):wrL (t::ts)=wr t++wrL ts:=by rw[wrL]
theorem Qo(t:T):wr t=40::(wrL t.kids++[41]):=by cases t;rw[mZ];rfl
theorem Oa:∀a b:`C,wrL (a++b)=wrL a++wrL b
 |[],b=>by rw[lE];rfl
 |t::a,b=>by rw[List.cons_append,jl,jl,Oa a b,List.append_assoc]
mutual
theorem iK:∀t:T,(wr t).length=2*t.parts
 | .node ts=>by
  rw[mZ,aM,List.length_cons,List.length_append,Qp ts,List.length_singleton]
  lia
theorem Qp:∀ts:`C,(wrL ts).length=2*aG ts
 |[]=>by rw[lE,aZ];rfl
 |t::ts=>by
  rw[jl,aD,List.length_append,iK t,Qp ts]
  lia
end
theorem KZ(ts:`C):(ts.map wr).flatten=wrL ts:=by
 induction ts with
 |nil=>rw[lE];rfl
 |cons t ts ih=>rw[List.map_cons,List.flatten_cons,ih,jl]
def rd1:List `C->Nat->Option (List `C)
 |r::rs,c=>if c=40 then some ([]::r::rs)else if c=41 then(match rs with|r'::rs'=>some ((r'++[.node r])::rs')|[]=>none)else none
 |[],_=>none
def rd:List `C->`E->Option (List `C)
 |st,[]=>some st
 |st,c::l=>(rd1 st c).bind fun st'=>rd st' l
theorem ajh(st:List `C):rd st []=some st:=rfl
theorem uo(st:List `C)(c:Nat)(l:`E):rd st (c::l)=(rd1 st c).bind fun st'=>rd st' l:=rfl
theorem zT:∀(a b:`E)(st:List `C),rd st (a++b)=(rd st a).bind fun st'=>rd st' b
 |[],b,st=>rfl
 |c::a,b,st=>by
  rw[List.cons_append,uo,uo]
  cases rd1 st c with
  |none=>rfl
  |some st'=>exact zT a b st'
theorem Wh(r:`C)(rs:List `C):rd1 (r::rs) 40=some ([]::r::rs):=rfl
theorem Wg(r r':`C)(rs:List `C):rd1 (r::r'::rs) 41=some ((r'++[.node r])::rs):=rfl
mutual
theorem agZ:∀(t:T)(r:`C)(rs:List `C)(l:`E),rd (r::rs) (wr t++l)=rd ((r++[t])::rs) l
 | .node ts,r,rs,l=>by
  rw[mZ,List.cons_append,uo,Wh,Option.bind_some,List.append_assoc,adT ts [] (r::rs) ([41]++l),List.nil_append,List.singleton_append,uo,Wg,Option.bind_some]
theorem adT:∀(ts:`C)(r:`C)(rs:List `C)(l:`E),rd (r::rs) (wrL ts++l)=rd ((r++ts)::rs) l
 |[],r,rs,l=>by rw[lE,List.nil_append,List.append_nil]
 |t::ts,r,rs,l=>by
  rw[jl,List.append_assoc,agZ t r rs,adT ts (r++[t]) rs l,List.append_assoc,List.singleton_append]
end
theorem afs(t:T):rd [[]] (wr t)=some [[t]]:=by
 have:=agZ t [] [] []
 rw[List.append_nil]at this
 rw[this]
 rfl
theorem adV{st st2:List `C}{c:Nat}(h:rd1 st c=some st2):
  (c=40/\∃r rs,st=r::rs/\st2=[]::r::rs)\/(c=41/\∃r r' rs,st=r::r'::rs/\st2=(r'++[.node r])::rs):=by
 cases st with
 |nil=>cases h
 |cons r rs=>
  unfold rd1 at h
  dsimp only at h
  by_cases h1:c=40
  ·rw[if_pos h1]at h
   exact .inl ⟨h1,r,rs,rfl,(Option.some.inj h).symm⟩
  ·rw[if_neg h1]at h
   by_cases h2:c=41
   ·rw[if_pos h2]at h
    cases rs with
    |nil=>cases h
    |cons r' rs=>exact .inr ⟨h2,r,r',rs,rfl,(Option.some.inj h).symm⟩
   ·rw[if_neg h2]at h
    cases h
def Ed:Option T->`E
 |none=>[41]
 |some t=>wr t
def out(os:List (Option T)):`E:=(os.reverse.map Ed).flatten
theorem ahY:out []=[]:=rfl
theorem pX(a b:List (Option T)):out (a++b)=out b++out a:=by
 unfold out
 rw[List.reverse_append,List.map_append,List.flatten_append]
theorem CJ(o:Option T):out [o]=Ed o:=by simp[out]
theorem WK(ts:`C):out (ts.reverse.map some)=wrL ts:=by
 unfold out
 rw[<-List.map_reverse,List.reverse_reverse,List.map_map,<-KZ]
 rfl
theorem WL(o:Option T):1<=(Ed o).length:=by
 cases o with
 |none=>exact`P
 |some t=>
  show 1<=(wr t).length
  rw[Qo]
  simp
theorem aaE(os:List (Option T)):os.length<=(out os).length:=by
 induction os with
 |nil=>exact`R
 |cons o os ih=>
  have:out (o::os)=out os++Ed o:=by rw[<-List.singleton_append,pX,CJ]
  rw[this,List.length_append,List.length_cons]
  have:=WL o
  lia
end T
namespace T
theorem ahA{st:List `C}{c:Nat}(h1:c≠40)(h2:c≠41):rd1 st c=none:=by
 cases st with
 |nil=>rfl
 |cons r rs=>unfold rd1;dsimp only;rw[if_neg h1,if_neg h2]
theorem aav:∀(l:`E)(st st':List `C),rd st l=some st'->((st.reverse.map fun r=>40::wrL r).flatten)++l=(st'.reverse.map fun r=>40::wrL r).flatten
 |[],st,st',h=>by rw[ajh]at h;rw[Option.some.inj h,List.append_nil]
 |c::l,st,st',h=>by
  rw[uo]at h
  cases h1:rd1 st c with
  |none=>rw[h1]at h;cases h
  |some st2=>
   rw[h1,Option.bind_some]at h
   have ih:=aav l st2 st' h
   rw[<-ih]
   rcases adV h1 with⟨rfl,r,rs,rfl,rfl⟩|⟨rfl,r,r',rs,rfl,rfl⟩
   ·simp[lE]
   ·simp[Oa,jl,lE,mZ]
theorem um{l:`E}{t:T}(h:rd [[]] l=some [[t]]):t.wr=l:=by
 have:=aav l [[]] [[t]] h
 simp[lE,jl]at this
 exact this.symm
end T
open PySem PySem.Spec PyProof.Rows L2
theorem jy:bootBuiltins "len"=some (.builtin "len"):=`D
theorem akO:bootBuiltins "sum"=some (.builtin "sum"):=`D
theorem akP:bootBuiltins "min"=some (.builtin "min"):=`D
theorem cG:bootBuiltins "isinstance"=some (.builtin "isinstance"):=`D
theorem I_:bootBuiltins "str"=some (.type "str"):=`D
theorem pD:bootBuiltins "tuple"=some `b:=`D
theorem small{n:Nat}(h:n<=1000000):n<=sizeLine:=Nat.le_trans h `B
theorem vI{n:Nat}(h:n<=1000000):n<sizeLine:=Nat.lt_of_le_of_lt h `B
theorem RD{α:Type}{ys:List α}(h:ys≠[]):∃y,ys[ys.length-1]?=some y:=by
 have:ys.length-1<ys.length:=by
  have:=List.length_pos_iff.mpr h
  lia
 exact⟨ys[ys.length-1],List.getElem?_eq_getElem this⟩
theorem Ai{α:Type}:∀l:List α,(l.map fun c=>[c]).flatten=l
 |[]=>rfl
 |c::l=>by rw[List.map_cons,List.flatten_cons,Ai l];rfl
theorem aP.dropLast{α β:Type}{R:α->β->Prop}{as:List α}{bs:List β}(h:aP R as bs):aP R as.dropLast bs.dropLast:=by
 rw[List.dropLast_eq_take,List.dropLast_eq_take,h.length]
 exact h.take _
theorem Uv{α:Type}{ys:List α}{y:α}(h:ys[ys.length-1]?=some y):ys=ys.dropLast++[y]:=by
 have hne:ys≠[]:=by rintro rfl;simp at h
 have h2:=List.dropLast_concat_getLast hne
 have h3:ys.getLast hne=y:=by
  rw[<-List.getLast?_eq_getElem?,List.getLast?_eq_some_getLast hne]at h
  exact Option.some.inj h
 rw[h3]at h2
 exact h2.symm
theorem Ye(xs:`F)(k:Nat):mJ xs (some (k:Int)) none=xs.drop k:=by
 unfold mJ
 rw[HT.uh,HT.Wb]
 by_cases h:k<=xs.length
 ·rw[Nat.min_eq_left h,List.take_of_length_le (by rw[List.length_drop];lia)]
 ·rw[Nat.min_eq_right `A,List.drop_eq_nil_of_le `A,List.drop_eq_nil_of_le `A,List.take_nil]
theorem aeH(xs:`F)(k:Nat):mJ xs none (some (k:Int))=xs.take k:=by
 unfold mJ
 rw[HT.uh,HT.Wb,List.drop_zero,Nat.sub_zero]
 by_cases h:k<=xs.length
 ·rw[Nat.min_eq_left h]
 ·rw[Nat.min_eq_right `A,List.take_of_length_le `P,List.take_of_length_le `A]
section
variable{K:W.Frag}
theorem aP.rev{α β:Type}{R:α->β->Prop}{as:List α}{bs:List β}(h:aP R as bs):aP R as.reverse bs.reverse:=by
 induction h with
 |nil=>exact .nil
 |cons r _ ih=>rw[List.reverse_cons,List.reverse_cons];exact ih.append (aP.one r)
def JV(K:W.Frag)(H₀ H:Hp)(ts:`C)(x:V):Prop:=∃a xs,x=`G/\H₀ a=none/\H a=some (.lst xs)/\TRs K H ts xs
structure qN(K:W.Frag)(H₀ H:Hp)(p:Addr)(st:List `C)(ys:`F):Prop where
 new:H₀ p=none
 same:Same H₀ H
 at_:H p=some (.lst ys)
 rows:aP (JV K H₀ H) st.reverse ys
 nd:((.ref p:V)::ys).Nodup
theorem JV.upd{H₀ H:Hp}{p:Addr}{o:HO}{ts:`C}{x:V}(h:JV K H₀ H ts x)(hne:x≠.ref p)(k:Kt H (upd H p o)):JV K H₀ (upd H p o) ts x:=by
 obtain⟨a,xs,rfl,h1,h2,h3⟩:=h
 exact⟨a,xs,rfl,h1,by rw[upd_ne (fun z=>hne (by rw[z]))];exact h2,h3.mono k⟩
theorem kJ{H₀ H:Hp}{p:Addr}{o:HO}(k:Kt H (upd H p o)):∀{ss:List `C}{ys:`F},aP (JV K H₀ H) ss ys->(.ref p:V)∉ys->aP (JV K H₀ (upd H p o)) ss ys:=by
 intro ss ys h
 induction h with
 |nil=>intro _;exact .nil
 |cons r _ ih=>intro hn;exact .cons (r.upd (fun z=>hn (by rw[z];exact List.mem_cons_self)) k) (ih fun z=>hn (List.mem_cons_of_mem _ z))
theorem Hj{H₀ H:Hp}{p q:Addr}{st:List `C}{ys:`F}(R:qN K H₀ H p st ys)(hq:H q=none):qN K H₀ (upd (upd H q (.lst [])) p (.lst (ys++[.ref q]))) p ([]::st) (ys++[.ref q]):=by
 have npq:p≠q:=ne_of_none R.at_ hq
 have hq0:H₀ q=none:=R.same.free hq
 have nin:(.ref q:V)∉ys:=fun hm=>by
  obtain⟨i,hi⟩:=List.mem_iff_getElem?.mp hm
  obtain⟨ts,_,a,xs,e,_,h2,_⟩:=R.rows.get hi
  cases e
  rw[hq]at h2
  cases h2
 have nd:=List.nodup_cons.mp R.nd
 have k1:Kt H (upd H q (.lst [])):=Kt.new hq
 have h1:upd H q (.lst []) p=some (.lst ys):=by rw[upd_ne npq];exact R.at_
 have k2:Kt (upd H q (.lst [])) (upd (upd H q (.lst [])) p (.lst (ys++[.ref q]))):=Kt.lst h1
 refine⟨R.new,bQ (bQ R.same hq0) R.new,upd_same,?_,?_⟩
 ·rw[List.reverse_cons]
  refine aP.append (kJ k2 (kJ k1 R.rows nin) nd.1) (aP.one ⟨q,[],rfl,hq0,?_,bJ.mpr rfl⟩)
  rw[upd_ne (Ne.symm npq)]
  exact upd_same
 ·rw[<-List.cons_append]
  refine List.nodup_append.mpr ⟨R.nd,`H,fun x hx y hy e=>?_⟩
  have ey:y=.ref q:=by simpa using hy
  rw[ey]at e
  subst e
  rcases List.mem_cons.mp hx with z|z
  ·exact npq (V.ref.inj z).symm
  ·exact nin z
theorem aP.snoc{α β:Type}{R:α->β->Prop}{as:List α}{a:α}{bs:List β}(h:aP R (as++[a]) bs):∃bs' b,bs=bs'++[b]/\aP R as bs'/\R a b:=by
 induction as generalizing bs with
 |nil=>
  cases h with
  |cons r h=>cases h;exact⟨[],_,rfl,.nil,r⟩
 |cons c as ih=>
  cases h with
  |cons r h=>
   obtain⟨bs',b,rfl,h1,h2⟩:=ih h
   exact⟨_::bs',b,rfl,.cons r h1,h2⟩
theorem adR{H₀ H:Hp}{p:Addr}{r r':`C}{rs:List `C}{ys:`F}(R:qN K H₀ H p (r::r'::rs) ys):
  ∃(ys0:`F)(a' a:Addr)(xs' xs:`F),ys=ys0++[.ref a']++[`G]/\H a=some (.lst xs)/\H a'=some (.lst xs')/\p≠a/\p≠a'/\xs.length=r.length/\xs'.length=r'.length/\
   ∀b,upd H p (.lst (ys0++[.ref a'])) b=none->qN K H₀ (upd (upd (upd H p (.lst (ys0++[.ref a']))) b (.tup xs)) a' (.lst (xs'++[.ref b]))) p ((r'++[.node r])::rs) (ys0++[.ref a']):=by
 have hr:=R.rows
 rw[List.reverse_cons,List.reverse_cons]at hr
 obtain⟨ys1,y,rfl,h1,a,xs,rfl,ha0,ha,hta⟩:=aP.snoc hr
 obtain⟨ys0,y',rfl,h2,a',xs',rfl,aj_,ha',aj5⟩:=aP.snoc h1
 have nd:=R.nd
 have ndp:(.ref p:V)∉ys0++[.ref a']++[`G]:=(List.nodup_cons.mp nd).1
 have ndy:=(List.nodup_cons.mp nd).2
 have npa:p≠a:=fun z=>ndp (by rw[z];simp)
 have HB:p≠a':=fun z=>ndp (by rw[z];simp)
 have nd1:(ys0++[V.ref a']).Nodup:=(List.nodup_append.mp ndy).1
 have na':(.ref a':V)∉ys0:=fun z=>(List.nodup_append.mp nd1).2.2 _ z _ `H rfl
 refine⟨ys0,a',a,xs',xs,rfl,ha,ha',npa,HB,hta.length,aj5.length,fun b hb=>?_⟩
 have k1:Kt H (upd H p (.lst (ys0++[.ref a']))):=Kt.lst R.at_
 have k2:Kt (upd H p (.lst (ys0++[.ref a']))) (upd (upd H p (.lst (ys0++[.ref a']))) b (.tup xs)):=Kt.new hb
 have npb:p≠b:=fun z=>by rw[<-z,upd_same]at hb;cases hb
 have nab:a'≠b:=fun z=>by
  rw[<-z,upd_ne (Ne.symm HB),ha']at hb
  cases hb
 have hbH:H b=none:=by rw[upd_ne (Ne.symm npb)]at hb;exact hb
 have hb0:H₀ b=none:=R.same.free hbH
 have h3:upd (upd H p (.lst (ys0++[.ref a']))) b (.tup xs) a'=some (.lst xs'):=by rw[upd_ne nab,upd_ne (Ne.symm HB)];exact ha'
 have k3:Kt (upd (upd H p (.lst (ys0++[.ref a']))) b (.tup xs)) (upd (upd (upd H p (.lst (ys0++[.ref a']))) b (.tup xs)) a' (.lst (xs'++[.ref b]))):=Kt.lst h3
 have nb0:(.ref b:V)∉ys0:=fun hm=>by
  obtain⟨i,hi⟩:=List.mem_iff_getElem?.mp hm
  obtain⟨ts,_,c,zs,e,_,g2,_⟩:=h2.get hi
  cases e
  rw[hbH]at g2
  cases g2
 have np0:(.ref p:V)∉ys0:=fun z=>ndp (by simp[z])
 refine⟨R.new,bQ (bQ (bQ R.same R.new) hb0) aj_,?_,?_,?_⟩
 ·rw[upd_ne HB,upd_ne npb]
  exact upd_same
 ·rw[List.reverse_cons]
  refine aP.append (kJ k3 (kJ k2 (kJ k1 h2 np0) nb0) na') (aP.one ⟨a',xs'++[.ref b],rfl,aj_,upd_same,?_⟩)
  have kk:=k1.trans (k2.trans k3)
  refine TRs.append (aj5.mono kk) (b_.mpr ⟨_,[],rfl,qM (xs:=xs) (SqT.of ?_) (hta.mono kk),bJ.mpr rfl⟩)
  rw[upd_ne (Ne.symm nab)]
  exact upd_same
 ·exact List.nodup_cons.mpr ⟨fun z=>ndp (by rcases List.mem_append.mp z with z|z<;>simp[z]<;>simp_all),nd1⟩
theorem ji{ys:`F}{v:V}:atI (ys++[v]) (-1)=some v:=by
 unfold atI ixN
 have hl:(ys++[v]).length=ys.length+1:=`H
 rw[if_neg `B,if_pos (by rw[hl];lia),hl,show((-1:Int)+((ys.length+1:Nat):Int)).toNat=ys.length by lia,Option.bind_some]
 simp
theorem alv{t u:TT}{σ:Sg}{H H1 H2:Hp}{Q:Bool->`S}{b1 b2:Bool}(h1:∀R:Bool->`S,R b1 H1->t σ H R)(h2:∀R:Bool->`S,R b2 H2->u σ H1 R)(q1:b1=true->Q b2 H2)(q2:b1=false->Q false H1):abm t u σ H Q:=by
 refine h1 _ ?_
 cases b1 with
 |true=>exact iteT (h2 _ (q1 rfl))
 |false=>exact iteF (q2 rfl)
theorem Vt{t u:TT}{σ:Sg}{H:Hp}{Q:Bool->`S}{b1 b2:Bool}(h1:∀R:Bool->`S,R b1 H->t σ H R)(h2:∀R:Bool->`S,R b2 H->u σ H R)(q:Q (b1&&b2) H):abm t u σ H Q:=
 alv h1 h2 (fun e=>by subst e;exact q) (fun e=>by subst e;exact q)
end
section
variable{X:Cx}
def Wi(K:W.Frag):R2:=fun x y H Q=>∃a b xs ys,x=`G/\y=.ref b/\SqT K H a xs/\SqT K H b ys/\xs.length+ys.length<=sizeLine/\∀p H',`L->SqT K H' p (xs++ys)->Q (.ref p) H'
theorem eV:OpR X (binaryOp .Add) (Wi X.K):=by
 intro pins s σ H x y v u Q I rx ry h
 obtain⟨a,b,xs,ys,rfl,rfl,ha,hb,hz,q⟩:=h
 by_cases hx:xs=[]
 ·subst hx
  cases rx
  cases ry
  obtain⟨its,r1,p1,_⟩:=I.tuple ha
  obtain⟨its2,r2,p2,_⟩:=I.tuple hb
  have e1:its=[]:=r1.CK.mpr rfl
  subst e1
  obtain⟨⟨cls,dd,data,sl⟩,ho,hc,n,hd⟩:=id p1
  obtain⟨⟨cls2,dd2,data2,sl2⟩,ho2,hc2,n2,hd2⟩:=id p2
  simp only at hc hd hc2 hd2
  subst hc hd hc2 hd2
  exact concat_meets ⟨_,ho,rfl⟩ ⟨_,ho2,rfl⟩ noFill_tuple_add seq_tuple_add PySem.F.slot_tuple_add PySem.F.entry_tuple_add (PySem.F.args_tuple_add_2 _ _)
   (tuple_addW0 a b ([]:`M).toArray its2.toArray n n2 dd dd2 sl sl2 rfl) ⟨ho,ho2,⟨.ref b,H,I,rfl,q b H (Same.refl H) hb⟩⟩
 ·refine ah2 pins s σ H _ _ v u Q I rx ry ⟨a,b,xs,ys,rfl,rfl,ha,hb,hx,hz,fun e=>?_,fun _ p hp=>q p _ (same_new hp _) (SqT.of upd_same)⟩
  subst e
  exact q a H (Same.refl H) (by rw[List.append_nil];exact ha)
theorem Mq:fillsNumberSlot `b "mul"=pure false:=by
 first|kernel_rfl|(unfold fillsNumberSlot;kernel_rfl)
theorem Wd:seqRepeat? `b=pure (some (.builtin "tuple.__mul__")):=by
 unfold seqRepeat?
 first|kernel_rfl|(simp only[typeLookup_type,builtinLookup_eq_fast];kernel_rfl)|rfl
theorem aby(a:Int)(t:Tok)(l:Addr)(items:Array Value)(n:Nat)(dd:Option Addr)(sl:`g):
  Meets (Builtin.«int.__rmul__» ⟨[.int a t,.ref l],[]⟩) (fun _ R s=>s.heap.get? l=some {cls:=`b,dict:=dd,data:=.seq items n,slots:=sl}/\R (.ok (.ret Value.notImplemented)) s):=
 .of_wp fun prog w A R s h=>by
  obtain⟨hp,g,d,tk,os⟩:=s
  obtain⟨hl,h⟩:=h
  wp_walk
  exact⟨_,rfl,h⟩
theorem ado(l:Addr)(items:Array Value)(n:Nat)(dd:Option Addr)(sl:`g)(k:Int)(t:Tok)(h0:(items.isEmpty||k==1)=true)(h1:¬(decide (k< -(2^63))||decide (k>=2^63))=true):
  Meets (Builtin.«tuple.__mul__» ⟨[.ref l,.int k t],[]⟩) (fun _ R s=>s.heap.get? l=some {cls:=`b,dict:=dd,data:=.seq items n,slots:=sl}/\R (.ok (.ret (.ref l))) s):=
 .of_wp fun prog w A R s h=>by
  obtain⟨hp,g,d,tk,os⟩:=s
  obtain⟨hl,h⟩:=h
  have f1:=AutoSeq1.idx_int
  have f2:=AutoSeq1.sub_tuple_tuple
  wp_walk using AutoSeq1.wpAny_loadPart' hl
  rw[if_neg h1]
  wp_walk using AutoSeq1.wpAny_loadPart' hl
  exact⟨_,rfl,h⟩
theorem adn(l:Addr)(items:Array Value)(n:Nat)(dd:Option Addr)(sl:`g)(k:Int)(t:Tok)(h0:¬(items.isEmpty||k==1)=true)(h1:¬(decide (k< -(2^63))||decide (k>=2^63))=true)(h2:(decide (k<=0)||items.isEmpty)=true):
  Meets (Builtin.«tuple.__mul__» ⟨[.ref l,.int k t],[]⟩) (fun _ R s=>s.heap.get? l=some {cls:=`b,dict:=dd,data:=.seq items n,slots:=sl}/\R (.ok (.ret (.ref s.heap.objs.size))) {s with heap:=s.heap.push {cls:=`b,data:=.seq #[]}}):=
 .of_wp fun prog w A R s h=>by
  obtain⟨hp,g,d,tk,os⟩:=s
  obtain⟨hl,h⟩:=h
  have f1:=AutoSeq1.idx_int
  have f2:=AutoSeq1.sub_tuple_tuple
  wp_walk using AutoSeq1.wpAny_loadPart' hl
  rw[if_neg h1]
  wp_walk using AutoSeq1.wpAny_loadPart' hl
  exact⟨_,rfl,h⟩
theorem adp(l:Addr)(items:Array Value)(n:Nat)(dd:Option Addr)(sl:`g)(k:Int)(t:Tok)(h0:¬(items.isEmpty||k==1)=true)(h1:¬(decide (k< -(2^63))||decide (k>=2^63))=true)(h2:¬(decide (k<=0)||items.isEmpty)=true)
  (h3:¬(items.size:Int)*k>(2^63-1)/8)(h4:¬Builtin.Tuple.tupleTooMany ((items.size:Int)*k)=true)(h5:((List.replicate k.toNat items).foldl (·++·) #[]).size<=sizeLine):
  Meets (Builtin.«tuple.__mul__» ⟨[.ref l,.int k t],[]⟩) (fun _ R s=>s.heap.get? l=some {cls:=`b,dict:=dd,data:=.seq items n,slots:=sl}/\R (.ok (.ret (.ref s.heap.objs.size))) {s with heap:=s.heap.push {cls:=`b,data:=.seq ((List.replicate k.toNat items).foldl (·++·) #[])}}):=
 .of_wp fun prog w A R s h=>by
  obtain⟨hp,g,d,tk,os⟩:=s
  obtain⟨hl,h⟩:=h
  have f1:=AutoSeq1.idx_int
  have f2:=AutoSeq1.sub_tuple_tuple
  wp_walk using AutoSeq1.wpAny_loadPart' hl
  rw[if_neg h1]
  wp_walk using AutoSeq1.wpAny_loadPart' hl
  rw[if_neg h3]
  wp_walk using AutoSeq1.wpAny_loadPart' hl
  exact⟨_,rfl,h⟩
def su(xs:`F)(k:Int):`F:=(List.replicate k.toNat xs).flatten
def Ol(K:W.Frag):R2:=fun x y H Q=>∃a k xs,x=`G/\y=.int k/\SqT K H a xs/\-(2^62)<=k/\k<2^62/\xs.length*k.toNat<=sizeLine/\∀p H',`L->SqT K H' p (su xs k)->Q (.ref p) H'
theorem qP:OpR X (binaryOp .Mult) (Ol X.K):=by
 intro pins s σ H x y v u Q I rx ry h
 obtain⟨a,k,xs,rfl,rfl,ha,h1,h2,hz,q⟩:=h
 cases rx
 obtain⟨t,rfl⟩:=ry
 obtain⟨its,r,p1,hzx⟩:=I.tuple ha
 have hlen:=r.length
 obtain⟨⟨cls,dd,data,sl⟩,ho,hc,n,hd⟩:=id p1
 simp only at hc hd
 subst hc hd
 have b1:¬(decide (k< -(2^63))||decide (k>=2^63))=true:=by
  rw[decide_eq_false `A,decide_eq_false `A]
  decide
 refine wpAny_binaryOp_repeat_ref (T:="tuple") (U:="int") `B ⟨_,ho,rfl⟩ (fun s'=>typeIs_int s' k t) Mq F.fills_int_mul F.slot_int_rmul Wd F.slot_int_index.lookup
  (call_meets F.slot_int_rmul (typeIs_int s k t) F.entry_int_rmul (F.args_int_rmul_2 _ _) (aby k t a its.toArray n dd sl) ⟨ho,rfl,⟨_,ho,rfl⟩,?_⟩)
 by_cases c0:(its.toArray.isEmpty||k==1)=true
 ·refine call_meets F.slot_tuple_mul ⟨_,ho,rfl⟩ F.entry_tuple_mul (F.args_tuple_mul_2 _ _) (ado a its.toArray n dd sl k t c0 b1) ⟨ho,⟨`G,H,I,rfl,q a H (Same.refl H) ?_⟩⟩
  rcases Bool.or_eq_true_iff.mp c0 with z|z
  ·have:its=[]:=by simpa using z
   have hx:xs=[]:=r.CK.mp this
   subst hx
   have:su ([]:`F) k=[]:=by unfold su;simp
   rw[this]
   exact ha
  ·have:k=1:=by simpa using z
   subst this
   have:su xs 1=xs:=by unfold su;simp
   rw[this]
   exact ha
 ·by_cases c2:(decide (k<=0)||its.toArray.isEmpty)=true
  ·refine call_meets F.slot_tuple_mul ⟨_,ho,rfl⟩ F.entry_tuple_mul (F.args_tuple_mul_2 _ _) (adn a its.toArray n dd sl k t c0 b1 c2) ⟨ho,?_⟩
   have hk:k<=0:=by
    rcases Bool.or_eq_true_iff.mp c2 with z|z
    ·exact of_decide_eq_true z
    ·rw[z]at c0
     exact absurd rfl c0
   have e0:su xs k=[]:=by
    unfold su
    rw[show k.toNat=0 by lia]
    rfl
   refine⟨.ref s.heap.objs.size,_,I.laid (t':=s.toks) (o:=.tup []) (fun b ob z=>Heap.get?_push_of_some _ z) `P ?_,rfl,q _ _ (same_new (I.hok.fresh `P) _) (by rw[e0];exact SqT.of upd_same)⟩
   exact⟨`R,[],.nil,IsTup.new _ _⟩
  ·have hk:0<k:=by
    by_cases hk:k<=0
    ·rw[decide_eq_true hk]at c2
     exact absurd rfl c2
    ·lia
   have hsz:its.toArray.size*k.toNat<=sizeLine:=by rw[List.size_toArray,<-hlen];exact hz
   have hsl:(sizeLine:Nat)=16777216:=sizeLine_eq
   have hpr:(its.toArray.size:Int)*k=((its.toArray.size*k.toNat:Nat):Int):=by
    rw[Int.natCast_mul,show((k.toNat:Nat):Int)=k by lia]
   have hnew:(List.replicate k.toNat its.toArray).foldl (·++·) #[]=(List.replicate k.toNat its).flatten.toArray:=by
    have:=foldl_rep its k.toNat []
    rw[List.nil_append]at this
    exact this
   have hrl:(List.replicate k.toNat its).flatten.length<=sizeLine:=by
    rw[len_rep,Nat.mul_comm]
    simpa using hsz
   refine call_meets F.slot_tuple_mul ⟨_,ho,rfl⟩ F.entry_tuple_mul (F.args_tuple_mul_2 _ _) (adp a its.toArray n dd sl k t c0 b1 c2 ?_ ?_ ?_) ⟨ho,?_⟩
   ·rw[hpr]
    have:((2:Int)^63-1)/8=1152921504606846975:=`B
    rw[this]
    lia
   ·unfold Builtin.Tuple.tupleTooMany
    rw[hpr,decide_eq_false `A]
    decide
   ·rw[hnew,List.size_toArray]
    exact hrl
   ·rw[hnew]
    have rr:=r.rep k.toNat
    refine⟨.ref s.heap.objs.size,_,I.laid (t':=s.toks) (o:=.tup (su xs k)) (fun b ob z=>Heap.get?_push_of_some _ z) `P ?_,rfl,q _ _ (same_new (I.hok.fresh `P) _) (SqT.of upd_same)⟩
    exact⟨by unfold su;rw[rr.length];exact hrl,_,rr,IsTup.new _ _⟩
end
theorem Uo{H:Hp}{lo:Int}{n:Nat}{σ:Sg}{js:`E}{te:TE}{Q:VK}(J:Addr->Nat->`F->`S)(hz:n<=sizeLine)(h0:∀D,H D=none->J D 0 [] (upd H D (.lst [])))
  (hD:∀D i ys H',J D i ys H'->H' D=some (.lst ys)/\ys.length=i)
  (hte:∀D i ys H'(R:VK),i<n->J D i ys H'->(∀y H3,H3 D=some (.lst ys)->J D (i+1) (ys++[y]) (upd H3 D (.lst (ys++[y])))->R y H3)->te (some (.int (lo+i))::frv σ js) H' R)
  (q:∀D ys H',J D n ys H'->Q (.ref D) H'):Gd (Itr lo n) js te σ Q H:=by
 intro D hDn
 refine⟨fun i m ys H'=>m=n-i/\i<=n/\J D i ys H',⟨n,`A,`R,h0 D hDn⟩,?_⟩
 rintro i m ys H'⟨rfl,hi,hj⟩
 obtain⟨h1,h2⟩:=hD D i ys H' hj
 refine⟨h1,?_⟩
 by_cases hlt:i<n
 ·refine .inr ⟨hlt,fun x H2 y=>?_⟩
  obtain⟨e,y⟩:=y
  subst e
  subst y
  exact hte D i ys _ _ hlt hj fun y H3 g1 g2=>⟨g1,`A,n-(i+1),`A,rfl,hlt,g2⟩
 ·have e:i=n:=`A
  subst e
  exact .inl ⟨`P,q D ys H' hj⟩
theorem aaM{K:W.Frag}{H:Hp}{a:Addr}{xs:`F}{σ:Sg}{js:`E}{te:TE}{Q:VK}(J:Addr->Nat->`F->`S)(hz:xs.length<=sizeLine)(h0:∀D,H D=none->J D 0 [] (upd H D (.lst [])))
  (hD:∀D i ys H',J D i ys H'->H' D=some (.lst ys)/\ys.length=i/\SqT K H' a xs)
  (hte:∀D i x ys H'(R:VK),xs[i]?=some x->J D i ys H'->(∀y H3,H3 D=some (.lst ys)->J D (i+1) (ys++[y]) (upd H3 D (.lst (ys++[y])))->R y H3)->te (some x::frv σ js) H' R)
  (q:∀D ys H',J D xs.length ys H'->Q (.ref D) H'):Gd (Itt K a) js te σ Q H:=by
 intro D hDn
 refine⟨fun i m ys H'=>m=xs.length-i/\i<=xs.length/\J D i ys H',⟨xs.length,`A,`R,h0 D hDn⟩,?_⟩
 rintro i m ys H'⟨rfl,hi,hj⟩
 obtain⟨h1,h2,h3⟩:=hD D i ys H' hj
 refine⟨h1,?_⟩
 by_cases hlt:i<xs.length
 ·refine .inr ⟨⟨xs,xs[i],h3,List.getElem?_eq_getElem hlt⟩,fun x H2 y=>?_⟩
  obtain⟨e,y⟩:=y
  subst e
  exact hte D i x ys _ _ (y xs h3) hj fun y H3 g1 g2=>⟨g1,`A,xs.length-(i+1),`A,rfl,hlt,g2⟩
 ·have e:i=xs.length:=`A
  subst e
  exact .inl ⟨⟨xs,h3,`P⟩,q D ys H' hj⟩
def BL(H:Hp)(p:Addr):Prop:=∃ns:List Int,H p=some (.lst (ns.map V.int))
structure Dr(p:Addr)(H H':Hp):Prop where
 keep:∀b o,b≠p->H b=some o->H' b=some o
 bW:BL H' p
theorem Dr.refl{p:Addr}{H:Hp}(d:BL H p):Dr p H H:=⟨fun _ _ _ e=>e,d⟩
theorem Dr.trans{p:Addr}{H H1 H2:Hp}(a:Dr p H H1)(b:Dr p H1 H2):Dr p H H2:=⟨fun c o n e=>b.keep c o n (a.keep c o n e),b.bW⟩
theorem Dr.same{p:Addr}{H H1 H2:Hp}(a:Dr p H H1)(S:Same H1 H2):Dr p H H2:=⟨fun c o n e=>S c o (a.keep c o n e),let⟨ns,e⟩:=a.bW;⟨ns,S _ _ e⟩⟩
theorem Dr.kt{p:Addr}{H H':Hp}(d:BL H p)(a:Dr p H H'):Kt H H':=by
 obtain⟨ns,e⟩:=d
 exact⟨fun b xs q=>a.keep b _ (ne_of q e (fun z=>by cases z)) q,fun b o u q=>a.keep b _ (ne_of q e (fun z=>by cases z)) q⟩
theorem Dr.upd{p b:Addr}{H H':Hp}{o:HO}(a:Dr p H H')(h:H b=none)(hp:b≠p):Dr p H (upd H' b o):=
 ⟨fun c u n e=>by rw[upd_ne (ne_of_none e h)];exact a.keep c u n e,let⟨ns,e⟩:=a.bW;⟨ns,by rw[upd_ne (Ne.symm hp)];exact e⟩⟩
section
variable{X:Cx}{scope:Scope}{cl:List (Str×Addr)}{x:Str}{fr:List Str}{js:`E}{elt iter:Expr}{px pos:Pos}{wi:TI}{te:TE}{pins:`Q}{s:Shared}{σ:Sg}{H:Hp}
theorem aio{Q:VK}(use:Option (Value->Sem Unit))(QQ:`T)(hc:X.calm=true)(L:Jj X scope x fr js cl)(hi:PI X (.Name x px) iter wi)
  (he:∀C s H fp pins,PE (blk X scope cl C (x::fr) s H fp pins) elt te)
  (hs:∀v,foldedSetIterable iter X.env v=pure v)(I:`J)(h:tLC wi js te σ H Q)
  (fin:∀(D C:Addr)(s6:Shared)(H5:Hp)(m6:`U),s6.heap.Ns C m6->H5 C=none->(∀h',Heap.SameBut C s6.heap h'->Inv X pins σ H5 {s6 with heap:=h'})->X.env.locals≠C->X.s₀.heap.objs.size<=C->
   (∀y c,X.env.cells.lookup y=some c->c≠C)->(∀p∈X.pn++pins,p.1≠C)->Q (.ref D) H5->compPost `X X.A X.xe use QQ (.ref D) C (.ok .next) s6):
  wpAny `X X.A (comprehension (.ListComp elt [⟨.Name x px,iter,[],0⟩] scope pos) scope X.env (firstIterPos [⟨.Name x px,iter,[],0⟩] pos) (newList []) false (eval iter X.env) use) QQ X.xe s:=by
 refine wpAny_comprehension_free rfl hs L.clos L.kind L.loc (thn (hi pins s σ H _ I h) fun v s1 h1=>thn h1 fun itv s2 h2=>?_)
 obtain⟨it,fp,tn,J,H2,e,I2,T,st2,f2,rd⟩:=h2
 subst e
 obtain⟨W,⟨m0,w0⟩,turn⟩:=rd _ I2.fresh
 have I3:=I2.lnew (ys:=[]) (its:=[]) (t':=s2.toks) .nil `R
 refine wpAny_newObj_type ?_
 have Xw:∀b∈fp,b<s2.heap.objs.size:=fun b hb=>by
  obtain⟨o,ho,_⟩:=T.obj 0 _ st2 b hb
  exact Heap.lt_size ho
 generalize hs3:({s2 with heap:=s2.heap.push {cls:=.type "list",dict:=none,data:=.seq ([]:`M).toArray}}:Shared)=s3
 have I3':Inv X pins σ (upd H2 s2.heap.objs.size (.lst [])) s3:=by rw[<-hs3];exact I3
 have sz3:s3.heap.objs.size=s2.heap.objs.size+1:=by rw[<-hs3];exact Heap.size_push ..
 have k23:∀b o,s2.heap.get? b=some o->s3.heap.get? b=some o:=fun b o e=>by rw[<-hs3];exact Heap.get?_push_of_some _ e
 have fsz:∀b∈fp,b<s3.heap.objs.size:=fun b hb=>by rw[sz3];exact Nat.lt_succ_of_lt (Xw b hb)
 have f3:∀b∈fp,FpOk X pins (upd H2 s2.heap.objs.size (.lst [])) b:=fun b hb=>⟨by rw[upd_ne (Nat.ne_of_lt (Xw b hb))];exact(f2 b hb).1,(f2 b hb).2⟩
 refine wpAny_newFunctionEnv L.cell (by intro y hy;simp at hy) (fun h4 hn4 agq=>?_) L.kind
 have k34:∀b o,s3.heap.get? b=some o->h4.get? b=some o:=fun b o e=>(agq.2 b (Nat.ne_of_lt (Heap.lt_size e))).trans (Heap.get?_push_of_some _ e)
 generalize hX':blk X scope cl s3.heap.objs.size (x::fr) s3 (upd H2 s2.heap.objs.size (.lst [])) fp pins=X'
 have I4:Inv X' [] (none::frv σ js) (upd H2 s2.heap.objs.size (.lst [])) {s3 with heap:=h4,toks:=s3.toks+([]:List (Str×Value)).length}:=by
  rw[<-hX'];exact aaY I3' L hc f3 fsz hn4 k34
 have st4:tn 0 h4:=T.keep _ _ _ st2 fun b _ o e=>k34 b o (k23 b o e)
 have he':PE X' elt te:=by rw[<-hX'];exact he _ _ _ _ _
 have xp:X'.prog=X.prog:=by rw[<-hX'];rfl
 have xw:X'.w=X.w:=by rw[<-hX'];rfl
 have xK:X'.K=X.K:=by rw[<-hX'];rfl
 have xA:X'.A=X.A:=by rw[<-hX'];rfl
 have xc:X'.calm=true:=by rw[<-hX'];rfl
 have xe:X'.xe=fun _ _=>False:=by rw[<-hX'];rfl
 have xn:X'.N=x::fr:=by rw[<-hX'];rfl
 have xv:X'.env=compEnvC scope cl s3.heap.objs.size X.env:=by rw[<-hX'];rfl
 have xpn:X'.pn=X.pn++pins:=by rw[<-hX'];rfl
 have xex:X'.ex=fp:=by rw[<-hX'];rfl
 have xfs:X'.fs=frs X.stack:=by rw[<-hX'];rfl
 have back:∀{H':Hp}{s':Shared}{h':Heap}{σ':Sg},Inv X' [] σ' H' s'->Heap.SameBut s3.heap.objs.size s'.heap h'->Inv X pins σ H' {s' with heap:=h'}:=fun{H' s' h' σ'}J' hsb=>by
  rw[<-hX']at J';exact Yq I3' J' f3 hsb
 have frame:∀b∈fp,b∉frs X.stack:=fun b hb z=>by
  rcases List.mem_cons.mp (I3'.stkSub b z)with e|e
  ·exact(f3 b hb).2.1 e
  ·exact(f3 b hb).2.2.1 e
 have stat:∀{H':Hp},(∀b∈fp,H' b=none)->∀b∈fp,FpOk X' [] H' b:=fun{H'}hn b hb=>by
  refine⟨hn b hb,?_,?_,.inl (by rw[xex];exact hb),?_,?_⟩
  ·rw[xv];exact Nat.ne_of_lt (fsz b hb)
  ·rw[xfs];exact frame b hb
  ·rw[xv];exact fun y c e=>(f3 b hb).2.2.2.2.1 y c (L.sub y c e)
  ·rw[xpn,List.append_nil];exact(f3 b hb).2.2.2.2.2
 have loop:codeAny `X X.A (.compLoop (.ListComp elt [⟨.Name x px,iter,[],0⟩] scope pos) 0 (.ref it) (.ref s2.heap.objs.size) (compEnvC scope cl s3.heap.objs.size X.env))
   (compPost `X X.A X.xe use QQ (.ref s2.heap.objs.size) s3.heap.objs.size) {s3 with heap:=h4,toks:=s3.toks+([]:List (Str×Value)).length}:=by
  refine aaN (fun n s'=>∃i ys o H',Inv X' [] (o::frv σ js) H' s'/\tn i s'.heap/\(∀b∈fp,H' b=none)/\W i n ys H') ?_ m0 ⟨0,[],none,_,I4,st4,fun b hb=>(f3 b hb).1,w0⟩
  rintro n s5⟨i,ys,o,H5,I5,st5,fr5,w5⟩
  obtain⟨hD,hstep⟩:=turn i n ys H5 w5
  rcases hstep with⟨stop,qn⟩|⟨go,step⟩
  ·have q:=T.done X' xp xw xK xc i [] s5 _ H5 (fun _ _=>False) I5 (stat fr5) st5 stop
   rw[xA]at q
   refine thn q fun r s6⟨hr,I6⟩=>?_
   subst hr
   obtain⟨m6,hn6,_⟩:=I6.loc
   rw[xv]at hn6
   have nC:H5 s3.heap.objs.size=none:=by
    have q:=I6.free
    rw[xv]at q
    exact q
   exact fin s2.heap.objs.size s3.heap.objs.size s6 H5 m6 hn6 nC (fun h' hsb=>back I6 hsb) (Nat.ne_of_lt I3'.lt) I3'.sz (fun y c e=>Nat.ne_of_lt (by
    obtain⟨v,hv⟩:=I3'.cell y c e
    obtain⟨o,ho,_⟩:=hv
    exact Heap.lt_size ho)) (fun p hp=>Nat.ne_of_lt (Heap.lt_size (I3'.pin p hp).1)) qn
  ·have q:=T.item X' xp xw xK xc i [] s5 _ H5 (fun _ _=>False) I5 (stat fr5) st5 go
   rw[xA]at q
   refine thn q fun r s6⟨u,hr,h6⟩=>?_
   subst hr
   refine thn h6 fun _ s7⟨xx,H7,I7,r7,y7,st7,fr7⟩=>?_
   have I7':=I7.pinned (stat fr7) (T.obj _ _ st7)
   have hg:PG X' (.Name x px) (gName 0):=by
    refine pg_name (i:=0) (x:=x) (by rw[xn];exact L.nd) (by rw[xn];rfl) ?_ ?_
    ·rw[xv];exact .inl (lookup_relabel_local L.var)
    ·rw[xv];exact .inr (lookup_relabel_local L.var)
   have q7:=hg _ s7 _ H7 xx u (fun σ8 H8=>σ8=some xx::frv σ js/\H8=H7) I7' r7 ⟨rfl,rfl⟩
   rw[xp,xw,xA,xe,xv]at q7
   refine thn q7 fun _ s8⟨σ8,H8,I8,e8,e8'⟩=>?_
   subst e8 e8'
   have q8:=he' _ s8 _ _ _ I8 (step xx _ y7)
   rw[xp,xw,xA,xe,xv]at q8
   refine thn q8 fun yv s9⟨y,H9,I9,r9,d9,z9,m9,hm9,w9⟩=>?_
   have q9:=bN (X:=X') _ s9 _ H9 (.ref s2.heap.objs.size) [y] (.ref s2.heap.objs.size) [yv] (fun z H'=>H'=upd H9 s2.heap.objs.size (.lst (ys++[y]))) I9 rfl (.cons r9 .nil) ⟨_,ys,y,rfl,rfl,d9,z9,rfl⟩
   rw[xp,xw,xA,xe]at q9
   refine thn q9 fun _ s10⟨_,H10,I10,_,e10⟩=>?_
   subst e10
   refine⟨m9,hm9,i+1,ys++[y],some xx,_,I10.unpinned,T.keep _ _ _ st7 fun b hb ob e=>(I10.pin (b,ob) (List.mem_append_right _ (List.mem_append_right _ (mem_pinsAt hb e)))).1,fun b hb=>?_,w9⟩
   obtain⟨ob,e,_⟩:=T.obj _ _ st7 b hb
   exact(I10.pin (b,ob) (List.mem_append_right _ (List.mem_append_right _ (mem_pinsAt hb e)))).2.1
 exact codeAny_compStart_list loop (T.self _ 0 _ _ _ st4 loop)
theorem afz{i:Nat}{y:Str}{py spos:Pos}(hN:X.N.Nodup)(hy:X.N[i]?=some y)(hx:Loc X.env.scope y)(hc:X.calm=true)(L:Jj X scope x fr js cl)(hi:PI X (.Name x px) iter wi)
  (he:∀C s H fp pins,PE (blk X scope cl C (x::fr) s H fp pins) elt te)
  (hs:∀v,foldedSetIterable iter X.env v=pure v:=by intro _;rfl)
  (hsw:swapsWith (.ListComp elt [⟨.Name x px,iter,[],0⟩] scope pos) (some (.Name y py)) spos.line X.env=pure true:=by rfl)
  (hf:X.fn y=true\/X.env.scope.names.lookup y=some .local:=by first|exact .inl rfl|exact .inr rfl|assumption):
  PS X (.Assign [.Name y py] (.ListComp elt [⟨.Name x px,iter,[],0⟩] scope pos) spos) (tAsg (tLC wi js te) (gName i)):=by
 intro pins s σ H D I h
 rw[exec_Assign_Name_used _ _ _ _ hsw]
 refine wpAny_bind (wpAny_standAt (wpAny_bind ?_))
 show wpAny _ X.A (do let _<-comprehension (.ListComp elt [⟨.Name x px,iter,[],0⟩] scope pos) scope X.env (firstIterPos [⟨.Name x px,iter,[],0⟩] pos) (newList []) false (eval iter X.env) (some (assign (.Name y py) X.env))) _ _ s
 refine wpAny_bind (wpAny_mono (aio (some (assign (.Name y py) X.env)) (fun _ s'=>SP X pins D .next s') hc L hi he hs I h ?_) (fun _ s' hq=>wpAny_pure (wpAny_pure hq)) fun _ _ e=>e)
 intro Dd C s6 H5 m6 hn nC back hLC hsz hcell hpin q
 have J:Inv X pins σ H5 s6:=back s6.heap (Heap.SameBut.refl _ _)
 show wpAny _ X.A (assign (.Name y py) X.env (.ref Dd)) _ _ _
 refine wpAny_assign_Name (store_ok2 (v:=.ref Dd) J hN hy hx rfl (fun s7 I7 hsb=>?_) hf)
 obtain⟨a,hsb,ha⟩:=hsb
 have haC:C≠a:=by
  rcases ha with e|e
  ·rw[e];exact Ne.symm hLC
  ·exact Ne.symm (hcell _ _ e)
 refine⟨m6,hn.sameBut hsb haC,fun h' hs'=>?_⟩
 have k:∀b o,b≠C->s7.heap.get? b=some o->h'.get? b=some o:=fun b o n e=>hs'.extBut b o n e
 have J':=I7.turned (t':=s7.toks) k nC (Ne.symm hLC) (.inr hsz) hcell hpin
 exact⟨_,_,J',q⟩
end
theorem afw{X:Cx}{scope:Scope}{cl:List (Str×Addr)}{x:Str}{fr:List Str}{js:`E}{elt iter:Expr}{px pos:Pos}{wi:TI}{te:TE}{i:Nat}{y:Str}{py spos:Pos}(hN:X.N.Nodup)(hy:X.N[i]?=some y)(hx:Loc X.env.scope y)(hc:X.calm=true)(L:Jj X scope x fr js cl)(hi:QI X (.Name x px) iter wi)
  (he:∀C s H fp pins,QE (blk X scope cl C (x::fr) s H fp pins) elt te)
  (hs:∀v,foldedSetIterable iter X.env v=pure v:=by intro _;rfl)
  (hsw:swapsWith (.ListComp elt [⟨.Name x px,iter,[],0⟩] scope pos) (some (.Name y py)) spos.line X.env=pure true:=by rfl)
  (hf:X.fn y=true\/X.env.scope.names.lookup y=some .local:=by first|exact .inl rfl|exact .inr rfl|assumption):
  QS X (.Assign [.Name y py] (.ListComp elt [⟨.Name x px,iter,[],0⟩] scope pos) spos) (tAsg (tLC wi js te) (gName i)):=
 ⟨afz hN hy hx hc L hi.run (fun C s H fp pins=>(he C s H fp pins).run) hs hsw hf⟩
section
variable{K:W.Frag}{H:Hp}{Q:VK}
theorem El{ts us:`C}{x y:V}(hx:TR K H (.node ts) x)(hy:TR K H (.node us) y)(hz:ts.length+us.length<=sizeLine)(q:∀z H',`L->TR K H' (.node (ts++us)) z->Q z H'):Wi K x y H Q:=by
 obtain⟨a,xs,rfl,ha,ra⟩:=bZ.mp hx
 obtain⟨b,ys,rfl,hb,rb⟩:=bZ.mp hy
 refine⟨a,b,xs,ys,rfl,rfl,ha,hb,by rw[ra.length,rb.length];exact hz,fun p H' S h=>q _ _ S (qM h ((ra.append rb).mono (.of S)))⟩
theorem TRs.at{ts:`C}{xs:`F}(h:TRs K H ts xs){i:Nat}{t:T}(e:ts[i]?=some t):∃x,xs[i]?=some x/\TR K H t x:=by
 have hl:=h.length
 have hi:i<ts.length:=(List.getElem?_eq_some_iff.mp e).1
 have e2:xs[i]?=some (xs[i]'`A):=List.getElem?_eq_getElem _
 obtain⟨t',e3,h3⟩:=h.get e2
 rw[e]at e3
 cases e3
 exact⟨_,e2,h3⟩
theorem nIx{ts:`C}{x y:V}{t:T}(hx:TR K H (.node ts) x)(i:Nat)(e:ts[i]?=some t)(q:∀z,TR K H t z->Q z H)(hy:y=.int ((i:Nat):Int):=by rfl):afu K x y H Q:=by
 obtain⟨a,xs,rfl,ha,ra⟩:=bZ.mp hx
 obtain⟨v,e2,h2⟩:=ra.at e
 exact⟨a,xs,_,v,rfl,hy,ha,atI_nat e2,q v h2⟩
theorem alO{ts:`C}{x:V}(hx:TR K H (.node ts) x)(k:Nat){j:Option Int}(q:∀z H',`L->TR K H' (.node (ts.drop k)) z->Q z H')(hj:j=some ((k:Nat):Int):=by rfl):abB K x j none H Q:=by
 obtain⟨a,xs,rfl,ha,ra⟩:=bZ.mp hx
 subst hj
 refine⟨a,xs,rfl,ha,fun p H' S h=>q _ _ S (qM h ?_)⟩
 rw[Ye]
 exact(ra.drop k).mono (.of S)
theorem kh{t:T}{x:V}(h:TR K H t x):TRs K H [t] [x]:=b_.mpr ⟨x,[],rfl,h,bJ.mpr rfl⟩
theorem abl{t u:T}{x y:V}(h:TR K H t x)(g:TR K H u y):TRs K H [t,u] [x,y]:=b_.mpr ⟨x,[y],rfl,h,kh g⟩
theorem al9{t u r:T}{x y z:V}(h:TR K H t x)(g:TR K H u y)(k:TR K H r z):TRs K H [t,u,r] [x,y,z]:=b_.mpr ⟨x,[y,z],rfl,h,abl g k⟩
end
section
variable{X:Cx}{K:W.Frag}
end
theorem aaO{K:W.Frag}{p:Addr}{H1:Hp}{n:Nat}{lo:Int}{σ:Sg}{js:`E}{te:TE}{Q:VK}(Sh:T->Prop)(hk:BL H1 p)(hn:n<=sizeLine)
  (hte:∀(i:Nat)H'(R:VK),i<n->Dr p H1 H'->(∀y t H3,Dr p H' H3->TR K H3 t y->Sh t->R y H3)->te (some (.int (lo+i))::frv σ js) H' R)
  (q:∀D ys ts H',Dr p H1 H'->H' D=some (.lst ys)->ts.length=n->TRs K H' ts ys->(∀t∈ts,Sh t)->Q (.ref D) H'):Gd (Itr lo n) js te σ Q H1:=by
 refine Uo (fun D i ys H'=>D≠p/\H1 D=none/\Dr p H1 H'/\H' D=some (.lst ys)/\ys.length=i/\∃ts,TRs K H' ts ys/\∀t∈ts,Sh t) hn (fun D hD=>?_) (fun D i ys H' j=>⟨j.2.2.2.1,j.2.2.2.2.1⟩) (fun D i ys H' R hi j hR=>?_) (fun D ys H' j=>?_)
 ·have hne:D≠p:=fun z=>by
   obtain⟨ns,e1⟩:=hk
   rw[z,e1]at hD;cases hD
  exact⟨hne,hD,(Dr.refl hk).upd hD hne,upd_same,rfl,[],bJ.mpr rfl,fun _ h=>by simp at h⟩
 ·obtain⟨hne,hD,Dh,h1,hl,ts,htr,hsh⟩:=j
  refine hte i H' R hi Dh fun y t H3 D3 ht hs=>?_
  have h3:=D3.keep D _ hne h1
  refine hR y H3 h3 ⟨hne,hD,(Dh.trans D3).upd hD hne,upd_same,by rw[List.length_append,hl];rfl,ts++[t],?_,fun u hu=>?_⟩
  ·exact TRs.append ((htr.mono (D3.kt Dh.bW)).mono (Kt.lst h3)) (b_.mpr ⟨y,[],rfl,ht.mono (Kt.lst h3),bJ.mpr rfl⟩)
  ·rcases List.mem_append.mp hu with z|z
   ·exact hsh u z
   ·rw[List.mem_singleton.mp z];exact hs
 ·obtain⟨hne,hD,Dh,h1,hl,ts,htr,hsh⟩:=j
  exact q D ys ts H' Dh h1 (by rw[<-htr.length];exact hl) htr hsh
section
variable{X:Cx}
theorem Yp:∀{bs:List Bool}{its:`M},Vals (bs.map V.bl) its->its=bs.map Value.bool
 |[],_,h=>by cases h;rfl
 |b::bs,_,h=>by
  cases h with
  |cons r q=>
   rw[Yp q]
   exact congrArg (·::_) r
end
def B(a b:Nat)(t:T):Prop:=t.deep<=a/\t.parts<=b
theorem B.le{a b a' b':Nat}{t:T}(h:B a b t)(h1:a<=a')(h2:b<=b'):B a' b' t:=⟨Nat.le_trans h.1 h1,Nat.le_trans h.2 h2⟩
theorem xg:B 0 1 (.node []):=⟨by rw[T.aY,T.fC];lia,by rw[T.aM,T.aZ];lia⟩
theorem cP{a b a' b':Nat}{t:T}{ts:`C}(h:B a b t)(g:B a' b' (.node ts)):B (max (a+1) a') (b+b') (.node (t::ts)):=by
 obtain⟨h1,h2⟩:=h
 obtain⟨g1,g2⟩:=g
 rw[T.aY]at g1
 rw[T.aM]at g2
 refine⟨?_,?_⟩
 ·rw[T.aY,T.aW];lia
 ·rw[T.aM,T.aD];lia
theorem Gf{a b a' b':Nat}{us:`C}(g:B a' b' (.node us)):∀{ts:`C},B a b (.node ts)->B (max a a') (b+b') (.node (ts++us))
 |[],_=>g.le `A `A
 |t::ts,h=>by
  obtain⟨h1,h2⟩:=h
  rw[T.aY,T.aW]at h1
  rw[T.aM,T.aD]at h2
  have q:=Gf g (ts:=ts) (a:=a) (b:=b-t.parts) ⟨by rw[T.aY];lia,by rw[T.aM];lia⟩
  have q1:=q.1
  have q2:=q.2
  rw[T.aY]at q1
  rw[T.aM]at q2
  refine⟨?_,?_⟩
  ·rw[List.cons_append,T.aY,T.aW];lia
  ·rw[List.cons_append,T.aM,T.aD];lia
theorem wg{a b:Nat}{t:T}(h:B a b t):B (a+1) (b+1) (.node [t]):=(cP h xg).le `A `A
theorem Qj{a b n:Nat}:∀{ts:`C},(∀t∈ts,B a b t)->ts.length<=n->B (a+1) (1+n*b) (.node ts)
 |[],_,_=>xg.le `A `A
 |t::ts,h,hl=>by
  rw[List.length_cons]at hl
  obtain⟨m,rfl⟩:∃m,n=m+1:=⟨n-1,`A⟩
  refine(cP (h t List.mem_cons_self) (Qj (n:=m) (fun u hu=>h u (List.mem_cons_of_mem _ hu)) `A)).le `A ?_
  rw[Nat.succ_mul];lia
theorem B.len{a b:Nat}{ts:`C}(h:B a b (.node ts)):ts.length<b:=by
 have h2:=h.2
 rw[T.aM]at h2
 have:∀us:`C,us.length<=T.aG us:=fun us=>by
  induction us with
  |nil=>exact`R
  |cons u us ih=>
   rw[List.length_cons,T.aD]
   have:1<=u.parts:=by cases u;rw[T.aM];lia
   lia
 have:=this ts
 lia
theorem dh{K:W.Frag}{H:Hp}{p:Addr}{xs:`F}{ts:`C}(hp:H p=none)(h:TRs K H ts xs):Same H (upd H p (.tup xs))/\TR K (upd H p (.tup xs)) (.node ts) (.ref p):=
 ⟨same_new hp _,qM (SqT.of upd_same) (h.mono (.new hp))⟩
def pbT:Nat->Nat
 |0=>1
 |d+1=>1+3*pbT d
theorem aee{ts:`C}{n b:Nat}(hl:ts.length<=n)(h:∀t∈ts,t.parts<=b):T.aG ts<=n*b:=
 Nat.le_trans (T.Hu h) (Nat.mul_le_mul_right b hl)
theorem qb{K:W.Frag}{H:Hp}{p:Addr}(h:H p=some (.tup [])):TR K H (.node []) (.ref p):=qM (xs:=[]) (SqT.of h) (bJ.mpr rfl)
theorem ahx(x:V)(n:Nat):su [x] (n:Int)=List.replicate n x:=by
 unfold su
 rw[Int.toNat_natCast]
 induction n with
 |zero=>rfl
 |succ n ih=>rw[List.replicate_succ,List.flatten_cons,ih,List.replicate_succ];rfl
theorem Qs{K:W.Frag}{H:Hp}{t:T}{x:V}(h:TR K H t x):∀n:Nat,TRs K H (List.replicate n t) (List.replicate n x)
 |0=>bJ.mpr rfl
 |n+1=>by
  rw[List.replicate_succ,List.replicate_succ]
  exact b_.mpr ⟨x,_,rfl,h,Qs h n⟩
theorem aaP:∀{ys:`F},(∀(i:Nat)y,ys[i]?=some y->∃n:Int,y=.int n/\0<=n/\n<2147483647)->∃ns:List Int,ys=ns.map V.int/\∀n∈ns,0<=n/\n<2147483647
 |[],_=>⟨[],rfl,fun _ h=>by simp at h⟩
 |y::ys,h=>by
  obtain⟨n,rfl,h1,h2⟩:=h 0 y rfl
  obtain⟨ns,e,g⟩:=aaP (ys:=ys) fun i z e=>h (i+1) z (by simpa using e)
  refine⟨n::ns,by rw[e];rfl,fun m hm=>?_⟩
  rcases List.mem_cons.mp hm with rfl|hm
  ·exact⟨h1,h2⟩
  ·exact g m hm
def adM(K:W.Frag):Sp:=fun vs H Q _=>∃(a:Addr)(ns:List Int),vs=[`G]/\SqL K H a (ns.map V.int)/\ns.length<=63/\∀p H',`L->H p=none->BL H' p->Q (.ref p) H'
def Oe:Sp:=fun vs H Q _=>∃(p:Addr)(m:Int),vs=[.ref p,.int m]/\0<m/\BL H p/\∀i H',0<=i->i<m->Dr p H H'->Q (.int i) H'
def ShT:Nat->T->Prop:=fun d t=>t.deep<=d/\t.parts<=pbT d
def VF(K:W.Frag)(n:Nat):Sp:=fun vs H Q _=>∃(p:Addr)(d:Nat),vs=[.ref p,.int (d:Int)]/\d<=n/\BL H p/\∀y t H',Dr p H H'->TR K H' t y->ShT d t->Q y H'
def cQ(n:Nat):T:=.node (List.replicate n (.node []))
def VL(K:W.Frag):Sp:=fun vs H Q _=>∃n:Nat,vs=[.int (n:Int)]/\n<=100000/\∀y H',`L->TR K H' (cQ n) y->Q y H'
theorem rC(n:Nat):B 1 (1+n) (cQ n):=(Qj (n:=n) (fun t ht=>by rw[List.eq_of_mem_replicate ht];exact xg) (by rw[List.length_replicate];exact`P)).le `A `A
theorem ShT.b{d:Nat}{t:T}(h:ShT d t):B d (pbT d) t:=h
def pbW:Nat->Nat
 |0=>60
 |d+1=>60+2*(1+4*pbW d)
theorem ajz:∀d,60<=pbW d
 |0=>`P
 |d+1=>by rw[pbW];lia
theorem afN{d e:Nat}(h:d<=e):pbW d<=pbW e:=by
 induction h with
 |refl=>exact`P
 | @step m _ ih=>rw[pbW];lia
def ShW(d:Nat)(t:T):Prop:=B (3+2*d) (pbW d) t
def ShX(d:Nat)(t:T):Prop:=B (4+2*d) (1+4*pbW d) t/\t.kids.length<=4
def adF(K:W.Frag)(n:Nat):Sp:=fun vs H Q _=>∃(p:Addr)(d:Nat),vs=[.ref p,.int (d:Int)]/\d<n/\BL H p/\∀y t H',Dr p H H'->TR K H' t y->ShW d t->Q y H'
def adH(K:W.Frag)(n:Nat):Sp:=fun vs H Q _=>∃(p:Addr)(d:Nat),vs=[.ref p,.int (d:Int)]/\d<n/\BL H p/\∀y t H',Dr p H H'->TR K H' t y->ShX d t->Q y H'
theorem ajV{ns:`E}{k:Nat}(hk:k<ns.length):∃c∈ns,atI (ns.map fun n:Nat=>V.int (n:Int)) (k:Int)=some (.int (c:Int)):=
 ⟨ns[k],List.getElem_mem hk,atI_nat (by rw[List.getElem?_map,List.getElem?_eq_getElem hk];rfl)⟩
theorem XS(p:Addr)(e:Nat):[V.ref p,V.int (((e+1:Nat):Int)-1)]=[V.ref p,V.int (e:Int)]:=by
 rw[show((e+1:Nat):Int)-1=(e:Int)by lia]
def spLaw(K:W.Frag):Sp:=fun vs H Q _=>∃(a:Addr)(ns:List Int),vs=[`G]/\SqL K H a (ns.map V.int)/\ns.length<=63/\∀H',Q (.bl true) H'
def aA(t:T):Nat:=match t.kids with
 |[]=>0
 |f::_=>min 9 f.kids.length
def aK(t:T):T:=.node (t.kids.drop 1)
theorem agt{α:Type}(x:α)(n:Nat):(List.replicate n [x]).flatten=List.replicate n x:=by
 induction n with
 |zero=>rfl
 |succ n ih=>rw[List.replicate_succ,List.flatten_cons,ih,List.replicate_succ];rfl
def gB(n:Nat)(us:`C):T:=.node (cQ n::us)
def agX(K:W.Frag):Sp:=fun vs H Q _=>∃x t,vs=[x]/\TR K H t x/\t.deep<=400/\t.parts<=1000000/\∀y H',`L->TR K H' (gB 0 t.kids) y->Q y H'
def adK(K:W.Frag):Sp:=fun vs H Q _=>∃x t,vs=[x]/\TR K H t x/\t.deep<=400/\t.parts<=1000000/\∀y H',`L->TR K H' (gB 8 t.kids) y->Q y H'
def aak(K:W.Frag):Sp:=fun vs H Q _=>∃n:Nat,vs=[.int (n:Int)]/\1<=n/\n<=6/\∀y H',`L->TR K H' (gB n []) y->Q y H'
def adL(K:W.Frag):Sp:=fun vs H Q _=>∃x t y u,vs=[x,y]/\TR K H t x/\TR K H u y/\(t.deep<=400/\t.parts<=1000000)/\(u.deep<=400/\u.parts<=1000000)/\∀z H',`L->TR K H' (gB 7 (t::u.kids)) z->Q z H'
theorem ajL{K:W.Frag}{H:Hp}{Q:VK}{σ:L2.St}{ts:`C}{x:V}(hx:TR K H (.node ts) x)(k:Nat){j:Option Int}(q:∀z H',`L->TR K H' (.node (ts.drop k)) z->Q z H')(hj:j=some ((k:Nat):Int):=by rfl):Qv σ H (fun u H3=>abB K x j u H3 Q):=alO hx k q hj
theorem aoG{K:W.Frag}{H:Hp}{Q:VK}{σ:L2.St}{ts:`C}{x y:V}{t:T}(hx:TR K H (.node ts) x)(i:Nat)(e:ts[i]?=some t)(q:∀z,TR K H t z->Q z H)(hy:y=.int ((i:Nat):Int):=by rfl):tC y σ H (fun y H2=>afu K x y H2 Q):=nIx hx i e q hy
theorem lR{a b:Nat}{t:T}(h:B a b t):B a b (aK t):=by
 cases t with
 |node ts=>
  cases ts with
  |nil=>exact h
  |cons u us=>
   obtain⟨h1,h2⟩:=h
   rw[T.aY,T.aW]at h1
   rw[T.aM,T.aD]at h2
   exact⟨by show(T.node us).deep<=a;rw[T.aY];lia,by show(T.node us).parts<=b;rw[T.aM];lia⟩
def leaf:T:=.node []
def ats(s:`C)(k:Nat):T:=(s[k]?).getD leaf
def many(k:Nat):Nat:=([0,1,1,2,2,1,3,1,1,0]:`E).getD k 0
def pad(s:`C)(n:Nat):`C:=s++List.replicate (n-s.length) leaf
theorem yS{s:`C}{n:Nat}(h:n<=s.length):pad s n=s:=by
 unfold pad
 rw[show n-s.length=0 by lia,List.replicate_zero,List.append_nil]
theorem Jz(s:`C)(n:Nat):n<=(pad s n).length:=by
 unfold pad
 rw[List.length_append,List.length_replicate]
 lia
def behind(w:T)(s:`C):`C:=
 if aA w=0 then aK w::s
 else if 6<aA w then pad s (many (aA w))
 else if aA w=1 then(pad s 1).drop 1
 else if aA w=2 then ats (pad s 1) 0::ats (pad s 1) 0::(pad s 1).drop 1
 else if aA w=3 then ats (pad s 2) 1::ats (pad s 2) 0::(pad s 2).drop 2
 else if aA w=4 then .node (ats (pad s 2) 0::(ats (pad s 2) 1).kids)::(pad s 2).drop 2
 else if aA w=5 then ats (ats (pad s 1) 0).kids 0::.node ((ats (pad s 1) 0).kids.drop 1)::(pad s 1).drop 1
 else ats (pad s 3) 2::ats (pad s 3) 0::ats (pad s 3) 1::(pad s 3).drop 3
def onward(tx s:`C):`C×`C×Nat:=
 match(ats tx 0).kids with
 |[]=>(tx.drop 1,s,12)
 |w::ws=>
  if aA w=7 then
   if(ats s 0).kids≠[]then(ats (w.kids.drop 1) 0::`K::tx.drop 1,behind w s,7)else(.node (w.kids.drop 2)::`K::tx.drop 1,behind w s,8)
  else if aA w=8 then
   if(ats s 0).kids≠[]then(aK w::tx,behind w s,9)else(`K::tx.drop 1,behind w s,10)
  else if aA w=9 then(`K::tx.drop 1,behind w s,11)
  else(`K::tx.drop 1,behind w s,aA w)
theorem Ck(w:T):aA w<=9:=by
 unfold aA
 split
 ·lia
 ·exact Nat.min_le_left _ _
def Ju(K:W.Frag):Sp:=fun vs H Q _=>∃x t,vs=[x]/\TR K H t x/\t.deep<=400/\∀H',`L->Q (.int (aA t:Nat)) H'
theorem aiJ{s:`C}{k:Nat}(h:k<s.length):s[k]?=some (ats s k):=by
 unfold ats
 rw[List.getElem?_eq_getElem h]
 rfl
theorem vU(t:T):T.node t.kids=t:=by cases t;rfl
section
variable{w:T}{s:`C}
theorem akZ(h:aA w=0):behind w s=aK w::s:=by unfold behind;rw[if_pos h]
theorem SQ(h:6<aA w):behind w s=pad s (many (aA w)):=by unfold behind;rw[if_neg `A,if_pos h]
theorem akY(h:aA w=1):behind w s=(pad s 1).drop 1:=by unfold behind;rw[h];rfl
theorem agG(h:aA w=2):behind w s=ats (pad s 1) 0::ats (pad s 1) 0::(pad s 1).drop 1:=by unfold behind;rw[h];rfl
theorem akX(h:aA w=3):behind w s=ats (pad s 2) 1::ats (pad s 2) 0::(pad s 2).drop 2:=by unfold behind;rw[h];rfl
theorem akW(h:aA w=4):behind w s=.node (ats (pad s 2) 0::(ats (pad s 2) 1).kids)::(pad s 2).drop 2:=by unfold behind;rw[h];rfl
theorem akV(h:aA w=5):behind w s=ats (ats (pad s 1) 0).kids 0::.node ((ats (pad s 1) 0).kids.drop 1)::(pad s 1).drop 1:=by unfold behind;rw[h];rfl
theorem akU(h:aA w=6):behind w s=ats (pad s 3) 2::ats (pad s 3) 0::ats (pad s 3) 1::(pad s 3).drop 3:=by unfold behind;rw[h];rfl
end
theorem aeQ{s:`C}{k:Nat}(h:k<s.length):ats s k∈s:=List.mem_of_getElem? (aiJ h)
section
variable{X:Cx}
end
theorem alR{tc:TT}{te:TE}{i:Nat}{u:TS}{D:Ends}{σ:L2.St}{H:Hp}(P:V->`S)(v0:V)(hv0:σ.set i (some v0)=σ)(k:∀v H',P v H'->u D (σ.set i (some v)) H')
  (h:∀A B:`S,(∀H1,(∀R:VK,(∀v H',P v H'->R v H')->te σ H1 R)->A H1)->(∀H1,P v0 H1->B H1)->tc σ H (fun b H1=>if b=true then A H1 else B H1)):
  tSeq (tIfS tc (tAsg te (gName i)) tNext) u D σ H:=by
 refine h (fun H1=>tAsg te (gName i) {D with nx:=u D} σ H1) (fun H1=>tNext {D with nx:=u D} σ H1) (fun H1 r=>r _ fun v H' p=>k v H' p) (fun H1 p=>?_)
 have q:=k v0 H1 p
 rw[hv0]at q
 exact q
theorem B.pos{a b:Nat}{t:T}(h:B a b t):1<=b:=Nat.le_trans (T.cZ t) h.2
theorem jA{a b:Nat}(k:Nat){ts:`C}(h:B a b (.node ts)):B a b (.node (ts.drop k)):=by
 obtain⟨h1,h2⟩:=h
 have e:=List.take_append_drop k ts
 rw[<-e,T.aY,T.o_]at h1
 rw[<-e,T.aM,T.bM]at h2
 exact⟨by rw[T.aY];lia,by rw[T.aM];lia⟩
theorem xq{a b:Nat}{ts:`C}{t:T}(h:B a b (.node ts))(ht:t∈ts):B a b t:=by
 have h1:=h.1
 have h2:=h.2
 rw[T.aY]at h1
 rw[T.aM]at h2
 have:=T.oV ht
 have:=T.vO ht
 exact⟨`A,`A⟩
theorem iU{a b:Nat}{ts:`C}(h:B a b (.node ts))(k:Nat):B a b (ats ts k):=by
 by_cases hk:k<ts.length
 ·exact xq h (aeQ hk)
 ·unfold ats
  rw[List.getElem?_eq_none `A]
  exact xg.le `A h.pos
theorem dH{a b:Nat}{t:T}(h:B a b t):B a b (.node t.kids):=by rw[vU];exact h
theorem Qk{a b:Nat}{s:`C}(n:Nat)(hn:n<=3)(ha:1<=a)(h:B a b (.node s)):B a (b+4) (.node (pad s n)):=
 (Gf (Qj (a:=0) (b:=1) (n:=3) (fun t ht=>by rw[List.eq_of_mem_replicate ht];exact xg) (by rw[List.length_replicate];lia)) h).le `A `A
theorem agR{a b:Nat}{w:T}{s:`C}(ha:1<=a)(hw:B a b w)(hs:B a b (.node s)):B (a+2) (4*b+16) (.node (behind w s)):=by
 have hb:=hw.pos
 unfold behind
 split
 ·exact(cP (lR hw) hs).le `A `A
 split
 ·refine(Qk _ ?_ ha hs).le `A `A
  have:∀k,k<=9->many k<=3:=`B
  exact this _ (Ck w)
 have p1:=Qk 1 `A ha hs
 have p2:=Qk 2 `A ha hs
 have p3:=Qk 3 `A ha hs
 split
 ·exact(jA 1 p1).le `A `A
 split
 ·exact(cP (iU p1 0) (cP (iU p1 0) (jA 1 p1))).le `A `A
 split
 ·exact(cP (iU p2 1) (cP (iU p2 0) (jA 2 p2))).le `A `A
 split
 ·exact(cP (cP (iU p2 0) (dH (iU p2 1))) (jA 2 p2)).le `A `A
 split
 ·exact(cP (iU (dH (iU p1 0)) 0) (cP (jA 1 (dH (iU p1 0))) (jA 1 p1))).le `A `A
 ·exact(cP (iU p3 2) (cP (iU p3 0) (cP (iU p3 1) (jA 3 p3)))).le `A `A
theorem agQ{a b:Nat}{tx s:`C}(ha:1<=a)(ht:B a b (.node tx))(hs:B a b (.node s)):B (a+2) (4*b+16) (.node (onward tx s).1)/\B (a+2) (4*b+16) (.node (onward tx s).2.1):=by
 have hb:=ht.pos
 have t0:=dH (iU ht 0)
 unfold onward
 split
 ·exact⟨(jA 1 ht).le `A `A,hs.le `A `A⟩
 ·rename_i w ws e
  rw[e]at t0
  have hw:B a b w:=xq t0 List.mem_cons_self
  have hws:B a b `K:=jA 1 t0
  have hbe:=agR ha hw hs
  have hd:=jA 1 ht
  have hl:=jA 1 (dH hw)
  split
  ·split
   ·exact⟨(cP (iU hl 0) (cP hws hd)).le `A `A,hbe⟩
   ·exact⟨(cP (jA 2 (dH hw)) (cP hws hd)).le `A `A,hbe⟩
  split
  ·split
   ·exact⟨(cP (lR hw) ht).le `A `A,hbe⟩
   ·exact⟨(cP hws hd).le `A `A,hbe⟩
  split
  ·exact⟨(cP hws hd).le `A `A,hbe⟩
  ·exact⟨(cP hws hd).le `A `A,hbe⟩
theorem amM{te:TE}{i:Nat}{u:TS}{D:Ends}{σ:L2.St}{H:Hp}(P:V->`S)(h:∀R:VK,(∀v H',P v H'->R v H')->te σ H R)(k:∀v H',P v H'->u D (σ.set i (some v)) H'):tSeq (tAsg te (gName i)) u D σ H:=h _ k
theorem dW{te:TE}{i:Nat}{u:TS}{D:Ends}{σ:L2.St}{H:Hp}(σ':V->L2.St)(hσ:∀v,σ.set i (some v)=σ' v)(P:V->`S)(h:∀R:VK,(∀v H',P v H'->R v H')->te σ H R)(k:∀v H',P v H'->u D (σ' v) H'):tSeq (tAsg te (gName i)) u D σ H:=
 amM P h fun v H' p=>by rw[hσ];exact k v H' p
theorem aj2{tc:TT}{te:TE}{i:Nat}{u:TS}{D:Ends}{σ:L2.St}{H:Hp}(σ':V->L2.St)(hσ:∀v,σ.set i (some v)=σ' v)(P:V->`S)(v0:V)(hv0:σ.set i (some v0)=σ)(k:∀v H',P v H'->u D (σ' v) H')
  (h:∀A B:`S,(∀H1,(∀R:VK,(∀v H',P v H'->R v H')->te σ H1 R)->A H1)->(∀H1,P v0 H1->B H1)->tc σ H (fun b H1=>if b=true then A H1 else B H1)):
  tSeq (tIfS tc (tAsg te (gName i)) tNext) u D σ H:=alR P v0 hv0 (fun v H' p=>by rw[hσ];exact k v H' p) h
def acJ(o:Obj)(xs:`F):Prop:=∃(its:Array Value)(n:Nat),o.cls=`b/\o.data=.seq its n/\its.size<=sizeLine/\Vals xs its.toList
theorem acJ.sq{K:W.Frag}{o:Obj}{xs:`F}{a:Addr}{H:Hp}(h:acJ o xs)(l:K.lookup a=some o):SqT K H a xs:=by
 obtain⟨its,n,h1,h2,h3,h4⟩:=h
 exact .inr ⟨o,its,n,l,h1,h2,h3,h4⟩
def xG(K:W.Frag):Sp:=fun vs H Q _=>∃x t,vs=[x]/\TR K H t x/\t.deep<=400/\∀y H',`L->TR K H' (ats t.kids 0) y->Q y H'
def vH(K:W.Frag):Sp:=fun vs H Q _=>∃x t,vs=[x]/\TR K H t x/\∀y H',`L->TR K H' (aK t) y->Q y H'
theorem afe(t:T):aA t=min 9 (ats t.kids 0).kids.length:=by
 cases t with
 |node ts=>cases ts<;>rfl
theorem nU{K:W.Frag}{H:Hp}{t:T}{x:V}(h:TR K H t x):TR K H (.node t.kids) x:=by rw[vU];exact h
theorem Cm{n:Nat}(h:n<=16000000):n<=sizeLine:=Nat.le_trans h `B
theorem alu:(2:Int)^62=4611686018427387904:=`B
theorem af_{K:W.Frag}{H:Hp}{Q:VK}{x y:V}{k:Int}(n:Nat)(hx:TR K H (.node [.node []]) x)(hy:y=.int k)(hk:k.toNat=n)(h0:-16000000<=k)(hn:n<=16000000)(q:∀z H',`L->TR K H' (cQ n) z->Q z H'):Ol K x y H Q:=by
 obtain⟨a,xs,rfl,ha,ra⟩:=bZ.mp hx
 obtain⟨v,r,rfl,hv,hr⟩:=b_.mp ra
 rw[bJ]at hr
 subst hr
 subst hk
 have h2:=alu
 refine⟨a,k,[v],rfl,hy,ha,`A,`A,by show 1*k.toNat<=sizeLine;exact Cm `A,fun p H' S h=>q _ _ S ?_⟩
 have e:su [v] k=List.replicate k.toNat v:=by
  unfold su
  exact agt v _
 rw[e]at h
 exact qM h (Qs (hv.mono (.of S)) _)
theorem abQ{K:W.Frag}{H:Hp}{Q:VK}{σ:L2.St}{x y:V}{k:Int}(n:Nat)(hx:TR K H (.node [.node []]) x)(hy:y=.int k)(hk:k.toNat=n)(h0:-16000000<=k)(hn:n<=16000000)(q:∀z H',`L->TR K H' (cQ n) z->Q z H'):tC y σ H (fun y H2=>Ol K x y H2 Q):=af_ n hx hy hk h0 hn q
def looks(k:Nat):Nat:=([0,1,1,2,2,1,3,1,1,1,1,0,0]:`E).getD k 0
def rP(k:Nat)(l:T)(s:`C):`C:=
 if k=0 then l::s
 else if k=1 then s.drop 1
 else if k=2 then ats s 0::s
 else if k=3 then ats s 1::ats s 0::s.drop 2
 else if k=4 then .node (ats s 0::(ats s 1).kids)::s.drop 2
 else if k=5 then ats (ats s 0).kids 0::aK (ats s 0)::s.drop 1
 else if k=6 then ats s 2::ats s 0::ats s 1::s.drop 3
 else s
theorem aeI{s:`C}(h:1<=s.length):ats s 0::s.drop 1=s:=by
 cases s with
 |nil=>simp at h
 |cons t r=>rfl
theorem YW{w:T}{s:`C}(h:aA w<=6):behind w s=rP (aA w) (aK w) (pad s (looks (aA w))):=by
 have hl:aA w=0\/aA w=1\/aA w=2\/aA w=3\/aA w=4\/aA w=5\/aA w=6:=`A
 rcases hl with e|e|e|e|e|e|e
 ·rw[akZ e,e];show _=aK w::pad s 0;rw[yS `R]
 ·rw[akY e,e];rfl
 ·rw[agG e,e]
  show _=ats (pad s 1) 0::pad s 1
  rw[aeI (Jz s 1)]
 ·rw[akX e,e];rfl
 ·rw[akW e,e];rfl
 ·rw[akV e,e];rfl
 ·rw[akU e,e];rfl
def stepT(tx s:`C):Nat:=(onward tx s).2.2
theorem Vv{tx s:`C}(h:(ats tx 0).kids=[]):stepT tx s=12:=by
 unfold stepT onward
 rw[h]
section
variable{tx s:`C}{w:T}{ws:`C}
theorem aeh(h:(ats tx 0).kids=[]):onward tx s=(tx.drop 1,s,12):=by
 unfold onward
 rw[h]
theorem WR(h:(ats tx 0).kids=w::ws)(e:aA w=7)(d:(ats s 0).kids≠[]):onward tx s=(ats (w.kids.drop 1) 0::`K::tx.drop 1,pad s 1,7):=by
 unfold onward
 rw[h]
 show(if aA w=7 then _ else _)=_
 rw[if_pos e,if_pos d,SQ `A,e]
 rfl
theorem abH(h:(ats tx 0).kids=w::ws)(e:aA w=7)(d:(ats s 0).kids=[]):onward tx s=(.node (w.kids.drop 2)::`K::tx.drop 1,pad s 1,8):=by
 unfold onward
 rw[h]
 show(if aA w=7 then _ else _)=_
 rw[if_pos e,if_neg (by simp[d]),SQ `A,e]
 rfl
theorem Rm(h:(ats tx 0).kids=w::ws)(e:aA w=8)(d:(ats s 0).kids≠[]):onward tx s=(aK w::tx,pad s 1,9):=by
 unfold onward
 rw[h]
 show(if aA w=7 then _ else _)=_
 rw[if_neg `A,if_pos e,if_pos d,SQ `A,e]
 rfl
theorem Rj(h:(ats tx 0).kids=w::ws)(e:aA w=8)(d:(ats s 0).kids=[]):onward tx s=(`K::tx.drop 1,pad s 1,10):=by
 unfold onward
 rw[h]
 show(if aA w=7 then _ else _)=_
 rw[if_neg `A,if_pos e,if_neg (by simp[d]),SQ `A,e]
 rfl
theorem Rk(h:(ats tx 0).kids=w::ws)(e:aA w=9):onward tx s=(`K::tx.drop 1,pad s 0,11):=by
 unfold onward
 rw[h]
 show(if aA w=7 then _ else _)=_
 rw[if_neg `A,if_neg `A,if_pos e,SQ `A,e]
 rfl
theorem Ri(h:(ats tx 0).kids=w::ws)(e:aA w<=6):onward tx s=(`K::tx.drop 1,rP (aA w) (aK w) (pad s (looks (aA w))),aA w):=by
 unfold onward
 rw[h]
 show(if aA w=7 then _ else _)=_
 rw[if_neg `A,if_neg `A,if_neg `A,YW e]
end
theorem BR{k:Nat}{l:T}{s:`C}(h:7<=k):rP k l s=s:=by
 unfold rP
 rw[if_neg `A,if_neg `A,if_neg `A,if_neg `A,if_neg `A,if_neg `A,if_neg `A]
theorem Xl(k:Nat):looks k<=3:=by
 by_cases h:k<13
 ·have:∀k,k<13->looks k<=3:=`B
  exact this k h
 ·unfold looks
  rw[List.getD_eq_getElem?_getD,List.getElem?_eq_none (by show 13<=k;lia)]
  decide
section
variable{tx s:`C}
theorem aej:((ats tx 0).kids=[]/\onward tx s=(tx.drop 1,s,12))\/∃w ws,(ats tx 0).kids=w::ws/\
  (onward tx s=(ats (w.kids.drop 1) 0::`K::tx.drop 1,pad s 1,7)\/onward tx s=(.node (w.kids.drop 2)::`K::tx.drop 1,pad s 1,8)\/onward tx s=(aK w::tx,pad s 1,9)\/∃k,(k<=6\/k=10\/k=11)/\onward tx s=(`K::tx.drop 1,rP k (aK w) (pad s (looks k)),k)):=by
 cases hk:(ats tx 0).kids with
 |nil=>exact .inl ⟨rfl,aeh hk⟩
 |cons w ws=>
  refine .inr ⟨w,ws,rfl,?_⟩
  have h9:=Ck w
  by_cases e7:aA w=7
  ·by_cases d:(ats s 0).kids=[]
   ·exact .inr (.inl (abH hk e7 d))
   ·exact .inl (WR hk e7 d)
  by_cases e8:aA w=8
  ·by_cases d:(ats s 0).kids=[]
   ·exact .inr (.inr (.inr ⟨10,`A,Rj hk e8 d⟩))
   ·exact .inr (.inr (.inl (Rm hk e8 d)))
  by_cases e9:aA w=9
  ·exact .inr (.inr (.inr ⟨11,`A,Rk hk e9⟩))
  ·exact .inr (.inr (.inr ⟨aA w,`A,Ri hk `A⟩))
theorem Qx:stepT tx s<=12:=by
 unfold stepT
 rcases aej (tx:=tx) (s:=s)with⟨_,e⟩|⟨w,ws,_,e|e|e|⟨k,h,e⟩⟩
 ·rw[e];exact Nat.le_refl 12
 ·rw[e];show 7<=12;lia
 ·rw[e];show 8<=12;lia
 ·rw[e];show 9<=12;lia
 ·rw[e];show k<=12;lia
variable{w:T}{ws:`C}
end
def BX(tx:`C):Prop:=tx.length<=8000000/\∀t∈tx,B 389 8000000 t
theorem BX.of{a b:Nat}{tx:`C}(h:B a b (.node tx))(ha:a<=390)(hb:b<=8000000):BX tx:=by
 refine⟨by have:=h.len;lia,fun t ht=>?_⟩
 have h1:=h.1
 have h2:=h.2
 rw[T.aY]at h1
 rw[T.aM]at h2
 have:=T.oV ht
 have:=T.vO ht
 exact⟨`A,`A⟩
theorem ajm{X:Cx}{pos:Pos}{o i:Expr}{to ti:TE}{t:N5}(ho:QE X o to)(hi:QE X i ti)(hs:YL X t)
  (ha:∀v,assign (.Subscript o i pos) X.env v=(do
   let ov<-holding [v] (eval o X.env)
   let iv<-holding [v,ov] (eval i X.env)
   standAt pos
   holding [v,ov,iv] (setItem ov iv v)
   release [v,ov,iv] []):=by intro _;rfl):QG X (.Subscript o i pos) (akc to ti t):=⟨L2.ajv (ho:=ho.run) (hi:=hi.run) (hs:=hs) (ha:=ha)⟩
section
variable{X:Cx}
theorem aeJ(hc:X.calm=true):CallR X (.builtin "sum") (fun xs H Q=>∃(p:Addr)(ns:List Int),xs=[.ref p]/\SqT X.K H p (ns.map V.int)/\Q (.int ns.sum) H):=by
 intro pins s σ H xs us Q I r h
 obtain⟨p,ns,rfl,hq,q⟩:=h
 obtain⟨u,rfl,rx⟩:=vals1 r
 cases rx
 obtain⟨its,r',pl,hz⟩:=I.tuple hq
 have hi:IntsAre its ns:=intsAre_of r'
 obtain⟨ys,e⟩:=hi.allInts.items
 have hns:ns=ys.toList.map (·.1):=by
  rw[<-hi.numsOf,<-nums_intItems,<-e]
 have ht:s.heap.IsTuple p its.toArray:=pl
 rw[e]at ht
 obtain⟨o,ho,hc',n,hd⟩:=id ht
 have hne:p≠s.heap.objs.size:=Nat.ne_of_lt (Heap.lt_size ho)
 have hsz:(intItems ys).size=ys.size:=by simp[intItems]
 have W:=Walks.tuple (prog:=X.prog) (w:=X.w) (A:=X.A.in1) (I.ok.hd hc) s.heap.objs.size p hne (intItems ys)
 rw[hsz]at W
 refine call_sum_walkG (wpAny_pyIter_tuple ht ?_)
 refine⟨s.heap.objs.size,_,_,_,_,_,numAt ys,rfl,W,⟨⟨_,Heap.get?_push_size _ rfl,rfl,rfl⟩,ht.push _⟩,fun b hb=>?_,fun i v hP=>intItems_at hP,fun h' tk t' hk=>?_⟩
 ·rcases List.mem_cons.mp hb with rfl|hb
  ·exact Heap.lt_size (Heap.get?_push_size _ rfl)
  ·obtain rfl:=List.mem_singleton.mp hb
   exact Heap.lt_size (Heap.get?_push_of_some _ ho)
 ·have es:preSum (numAt ys) ys.size=ns.sum:=by rw[preSum_eq,List.take_of_length_le `H,hns]
  exact⟨.int ns.sum,H,I.kept (fun b o e=>hk b o (fun z=>absurd (Heap.lt_size e) (by rw[List.mem_singleton.mp z];exact Nat.lt_irrefl _)) (Heap.get?_push_of_some _ e)),⟨t',by rw[es]⟩,q⟩
end
theorem RT{n j:Nat}(h:j<n):ixN n (j:Int)=some j:=by
 unfold ixN
 rw[if_pos `A,if_pos `A,Int.toNat_natCast]
abbrev nv(n:Nat):V:=.int (n:Int)
def VJ(K:W.Frag):Sp:=fun vs H Q _=>∃x t,vs=[x]/\TR K H t x/\t.parts<=8000000/\∀H',`L->Q (.int t.parts) H'
def aa1(K:W.Frag)(H:Hp)(x:V)(n:Nat)(p:Addr):Nat->Sg->`S:=fun m σ H'=>∃(ys:`F)(ts:`C)(c:Nat)(o:Option V),
 σ=[some x,some (.ref p),some (.int c),o]/\`L/\H' p=some (.lst ys)/\TRs K H' ts ys/\c+T.aG ts=n/\m=T.aG ts
def ev0(k:Nat):`E:=(List.replicate 15 0).set k 1
def o8(tx s:`C):`E:=
 if stepT tx s=2 then(ev0 2).set 13 (ats s 0).parts
 else if stepT tx s=9 then(ev0 9).set 14 (aK (ats (ats tx 0).kids 0)).parts
 else ev0 (stepT tx s)
def vg(ns:`E):Int:=((ns.take 13).map fun n:Nat=>(n:Int)).sum-(ns.getD 2 0:Nat)+(ns.getD 13 0:Nat)
def bH(tx s:`C):Nat:=if stepT tx s=2 then(ats s 0).parts else 1
theorem Xz(tx s:`C):(o8 tx s).length=15:=by
 unfold o8 ev0
 split
 ·simp
 split<;>simp
theorem aiy(tx s:`C):vg (o8 tx s)=(bH tx s:Nat):=by
 have h:=Qx (tx:=tx) (s:=s)
 unfold o8 bH
 split
 ·rename_i e
  show(0+(0+(1+(0+(0+(0+(0+(0+(0+(0+(0+(0+(0+0)))))))))))))-(1:Int)+((ats s 0).parts:Int)=_
  lia
 split
 ·show(0+(0+(0+(0+(0+(0+(0+(0+(0+(1+(0+(0+(0+0)))))))))))))-(0:Int)+(0:Int)=_
  lia
 ·generalize stepT tx s=k at*
  have:∀k,k<=12->k≠2->vg (ev0 k)=((1:Nat):Int):=`B
  exact this k h (by assumption)
theorem zA(tx s:`C):1<=bH tx s:=by
 unfold bH
 split
 ·exact T.cZ _
 ·exact Nat.le_refl 1
def adN(K:W.Frag):Sp:=fun vs H Q _=>∃(a:Addr)(ns:`E),vs=[`G]/\SqT K H a (ns.map nv)/\ns.length=15/\∀H',`L->Q (.int (vg ns)) H'
theorem ag3{ns:`E}{k:Nat}(h:k<ns.length):atI (ns.map nv) (k:Int)=some (.int ((ns.getD k 0:Nat):Int)):=
 atI_nat (by rw[List.getElem?_map,List.getElem?_eq_getElem h,List.getD_eq_getElem?_getD,List.getElem?_eq_getElem h];rfl)
theorem aic(ns:`E)(k:Nat):(ns.map nv).take k=((ns.take k).map fun n:Nat=>(n:Int)).map V.int:=by
 rw[<-List.map_take,List.map_map]
 rfl
theorem ajI(ns:`E)(k v:Nat):(ns.map nv).set k (nv v)=(ns.set k v).map nv:=by rw[List.map_set]
theorem Ou(s:`C)(n:Nat):T.aG (pad s n)<=T.aG s+n:=by
 unfold pad
 rw[T.bM]
 have:∀m:Nat,T.aG (List.replicate m leaf)=m:=fun m=>by
  induction m with
  |zero=>rfl
  |succ m ih=>rw[List.replicate_succ,T.aD,ih];show T.parts (.node [])+m=_;rw[T.aM,T.aZ];lia
 rw[this]
 lia
theorem ahW{s:`C}{n k:Nat}:ats (pad s n) k=ats s k:=by
 unfold pad ats
 by_cases h:k<s.length
 ·rw[List.getElem?_append_left h]
 ·rw[List.getElem?_append_right `A,List.getElem?_eq_none (l:=s) `A,List.getElem?_replicate]
  split<;>rfl
theorem Pz(s:`C)(k:Nat):T.aG (s.drop k)<=T.aG s:=by
 have e:=congrArg T.aG (List.take_append_drop k s)
 rw[T.bM]at e
 lia
theorem Lx(t:T):t.parts=1+T.aG t.kids:=by cases t;rw[T.aM];rfl
theorem Ph(t:T):(aK t).parts<=t.parts:=by
 unfold aK
 rw[T.aM,Lx t]
 have:=Pz t.kids 1
 lia
theorem acd(t:T):(ats t.kids 0).parts+(aK t).parts<=t.parts+1:=by
 unfold aK
 rw[T.aM,Lx t]
 cases t.kids with
 |nil=>show T.parts (.node [])+_<=_;rw[T.aM,T.aZ];simp[T.aZ]
 |cons u us=>show u.parts+(1+T.aG us)<=_;rw[T.aD];lia
theorem split1{s:`C}(h:1<=s.length):T.aG s=(ats s 0).parts+T.aG (s.drop 1):=by
 cases s with
 |nil=>simp at h
 |cons t r=>rw[T.aD];rfl
theorem adD{s:`C}(h:2<=s.length):T.aG s=(ats s 0).parts+((ats s 1).parts+T.aG (s.drop 2)):=by
 match s,h with
 |t::u::r,_=>rw[T.aD,T.aD];rfl
theorem ai8{s:`C}(h:3<=s.length):T.aG s=(ats s 0).parts+((ats s 1).parts+((ats s 2).parts+T.aG (s.drop 3))):=by
 match s,h with
 |t::u::v::r,_=>rw[T.aD,T.aD,T.aD];rfl
theorem abg{k:Nat}{l:T}{s:`C}(h:looks k<=s.length):T.aG (rP k l s)<=T.aG s+1+(if k=0 then l.parts else if k=2 then(ats s 0).parts else 0):=by
 by_cases h0:k=0
 ·subst h0;show T.aG (l::s)<=_+l.parts;rw[T.aD];lia
 by_cases h1:k=1
 ·subst h1;show T.aG (s.drop 1)<=_;have:=Pz s 1;lia
 by_cases h2:k=2
 ·subst h2;show T.aG (ats s 0::s)<=_+(ats s 0).parts;rw[T.aD];lia
 by_cases h3:k=3
 ·subst h3;have:=adD (s:=s) h;show T.aG (ats s 1::ats s 0::s.drop 2)<=_+0;rw[T.aD,T.aD];lia
 by_cases h4:k=4
 ·subst h4;have:=adD (s:=s) h;show T.aG (.node (ats s 0::(ats s 1).kids)::s.drop 2)<=_+0;rw[T.aD,T.aM,T.aD];have:=Lx (ats s 1);lia
 by_cases h5:k=5
 ·subst h5;have:=split1 (s:=s) h;show T.aG (ats (ats s 0).kids 0::aK (ats s 0)::s.drop 1)<=_+0;rw[T.aD,T.aD];have:=acd (ats s 0);lia
 by_cases h6:k=6
 ·subst h6;have:=ai8 (s:=s) h;show T.aG (ats s 2::ats s 0::ats s 1::s.drop 3)<=_+0;rw[T.aD,T.aD,T.aD];lia
 ·rw[BR `A];lia
theorem aiI{tx:`C}{w:T}{ws:`C}(h:(ats tx 0).kids=w::ws):ats tx 0∈tx:=by
 cases tx with
 |nil=>cases h
 |cons t r=>exact List.mem_cons_self
end Sw
namespace PySem
section
variable{prog:Program}{w:World}{A:Around}{E:`T}{s:Shared}
end
end PySem
namespace Sw
open PySem PySem.Spec PyProof.Rows L2
section
variable{X:Cx}{pins:`Q}{σ:Sg}{H:Hp}{s:Shared}{scope:Scope}{cl:List (Str×Addr)}{x y:Str}{fr:List Str}{js:`E}{fp:List Addr}
end
section
variable{X:Cx}{scope:Scope}{cl:List (Str×Addr)}{x y:Str}{fr:List Str}{js:`E}{elt iter:Expr}{px py pt pos:Pos}{kt:Nat}{wi:TI}{te:TE}
end
theorem CallR.or{X:Cx}{f:Value}{r1 r2:`F->Hp->VK->Prop}(h1:CallR X f r1)(h2:CallR X f r2):CallR X f (fun xs H Q=>r1 xs H Q\/r2 xs H Q):=by
 intro pins s σ H xs us Q I r h
 rcases h with h|h
 ·exact h1 pins s σ H xs us Q I r h
 ·exact h2 pins s σ H xs us Q I r h
section
variable{X:Cx}{pins:`Q}{σ:Sg}{H:Hp}{s:Shared}
end
section
variable{X:Cx}
theorem IV:CallR X (.builtin "isinstance") (fun xs H Q=>(∃x T t b,xs=[x,.ty T]/\TyOf X.K H x t/\W.kitOne X.K t (.type T)=some b/\Q (.bl b) H)\/(∃a ys T b,xs=[`G,.ty T]/\SqT X.K H a ys/\W.kitOne X.K `b (.type T)=some b/\Q (.bl b) H)):=CallR.or KH Yn
end
namespace Dt
end Dt
section
variable{K:W.Frag}{H H':Hp}
end
section
variable{X:Cx}{pins:`Q}{σ:Sg}{H:Hp}{s:Shared}
end
section
variable{X:Cx}{pins:`Q}{σ:Sg}{H:Hp}{s:Shared}
end
section
variable{X:Cx}
end
def gU:`E:=List.replicate 15 0
def fZ(a b:`E):`E:=a.zipWith (· +·) b
theorem Yw{a b:`E}(h:a.length=15)(g:b.length=15):(fZ a b).length=15:=by unfold fZ;rw[List.length_zipWith,h,g];rfl
theorem aeT{b:`E}(g:b.length=15):fZ gU b=b:=by
 unfold fZ gU
 refine List.ext_getElem? fun i=>?_
 rw[List.getElem?_zipWith,List.getElem?_replicate]
 by_cases h:i<15
 ·rw[if_pos h,List.getElem?_eq_getElem `A]
  show some (0+_)=some _
  rw[Nat.zero_add]
 ·rw[if_neg h,List.getElem?_eq_none `A]
theorem acG{b:`E}(g:b.length=15):fZ b gU=b:=by
 unfold fZ gU
 refine List.ext_getElem? fun i=>?_
 rw[List.getElem?_zipWith,List.getElem?_replicate]
 by_cases h:i<15
 ·rw[if_pos h,List.getElem?_eq_getElem `A]
  show some (_+0)=some _
  rw[Nat.add_zero]
 ·rw[if_neg h,List.getElem?_eq_none `A]
theorem acH(a b c:`E):fZ (fZ a b) c=fZ a (fZ b c):=by
 unfold fZ
 refine List.ext_getElem? fun i=>?_
 simp only[List.getElem?_zipWith]
 cases a[i]? <;>cases b[i]? <;>cases c[i]? <;>simp[Nat.add_assoc]
def goT(b:Nat)(tx s:`C):`C×`C×`E:=
 if h:tx=[]\/b<bH tx s then(tx,s,gU)
 else((goT (b-bH tx s) (onward tx s).1 (onward tx s).2.1).1,(goT (b-bH tx s) (onward tx s).1 (onward tx s).2.1).2.1,fZ (o8 tx s) (goT (b-bH tx s) (onward tx s).1 (onward tx s).2.1).2.2)
termination_by b
decreasing_by
 all_goals
  have:=zA tx s
  have:¬b<bH tx s:=fun z=>h (.inr z)
  lia
def spT(b:Nat)(tx s:`C):Nat:=
 if h:tx=[]\/b<bH tx s then 0
 else bH tx s+spT (b-bH tx s) (onward tx s).1 (onward tx s).2.1
termination_by b
decreasing_by
 have:=zA tx s
 have:¬b<bH tx s:=fun z=>h (.inr z)
 lia
section
variable{b:Nat}{tx s:`C}
theorem xR(h:tx=[]\/b<bH tx s):goT b tx s=(tx,s,gU):=by rw[goT,dif_pos h]
theorem Ci(h:tx=[]\/b<bH tx s):spT b tx s=0:=by rw[spT,dif_pos h]
theorem xU(h1:tx≠[])(h2:bH tx s<=b):goT b tx s=((goT (b-bH tx s) (onward tx s).1 (onward tx s).2.1).1,(goT (b-bH tx s) (onward tx s).1 (onward tx s).2.1).2.1,fZ (o8 tx s) (goT (b-bH tx s) (onward tx s).1 (onward tx s).2.1).2.2):=by
 rw[goT,dif_neg (fun z=>z.elim h1 `A)]
theorem Cj(h1:tx≠[])(h2:bH tx s<=b):spT b tx s=bH tx s+spT (b-bH tx s) (onward tx s).1 (onward tx s).2.1:=by
 rw[spT,dif_neg (fun z=>z.elim h1 `A)]
end
theorem xO{P:Nat->`C->`C->Prop}(h0:∀b tx s,(tx=[]\/b<bH tx s)->P b tx s)(h1:∀b tx s,tx≠[]->bH tx s<=b->P (b-bH tx s) (onward tx s).1 (onward tx s).2.1->P b tx s):∀b tx s,P b tx s:=by
 intro b
 induction b using Nat.strongRecOn with
 |ind b ih=>
  intro tx s
  by_cases h:tx=[]\/b<bH tx s
  ·exact h0 b tx s h
  ·have hc:=zA tx s
   have h2:bH tx s<=b:=by
    have:¬b<bH tx s:=fun z=>h (.inr z)
    lia
   exact h1 b tx s (fun z=>h (.inl z)) h2 (ih _ `A _ _)
theorem Xu:∀b tx s,(goT b tx s).2.2.length=15:=by
 refine xO (fun b tx s h=>?_) (fun b tx s h1 h2 ih=>?_)
 ·rw[xR h];rfl
 ·rw[xU h1 h2];exact Yw (Xz _ _) ih
theorem acq:vg gU=0:=`B
theorem acr{ns ms:`E}(h1:ns.length=15)(h2:ms.length=15):vg (fZ ns ms)=vg ns+vg ms:=by
 unfold fZ
 match ns,h1,ms,h2 with
 |[a0,a1,a2,a3,a4,a5,a6,a7,a8,a9,a10,a11,a12,a13,a14],_,[c0,c1,c2,c3,c4,c5,c6,c7,c8,c9,c10,c11,c12,c13,c14],_=>
  simp only[vg,List.zipWith_cons_cons,List.zipWith_nil_left,List.take_succ_cons,List.take_zero,List.map_cons,List.map_nil,List.sum_cons,List.sum_nil,List.getD_cons_succ,List.getD_cons_zero,Int.natCast_add]
  lia
theorem aiu:∀b tx s,vg (goT b tx s).2.2=(spT b tx s:Nat):=by
 refine xO (fun b tx s h=>?_) (fun b tx s h1 h2 ih=>?_)
 ·rw[xR h,Ci h];exact acq
 ·rw[xU h1 h2,Cj h1 h2]
  show vg (fZ _ _)=_
  rw[acr (Xz _ _) (Xu _ _ _),aiy,ih]
  lia
theorem abp:∀b tx s,spT b tx s<=b:=by
 refine xO (fun b tx s h=>?_) (fun b tx s h1 h2 ih=>?_)
 ·rw[Ci h];lia
 ·rw[Cj h1 h2];lia
inductive Sane:Nat->`C->`C->Prop
 |mk{b:Nat}{tx s:`C}(h1:BX tx)(h2:B 390 8000000 (.node s))(h3:tx≠[]->bH tx s<=b->Sane (b-bH tx s) (onward tx s).1 (onward tx s).2.1):Sane b tx s
theorem Sane.bx{b:Nat}{tx s:`C}(h:Sane b tx s):BX tx:=by cases h;assumption
theorem Sane.bs{b:Nat}{tx s:`C}(h:Sane b tx s):B 390 8000000 (.node s):=by cases h;assumption
theorem Sane.next{b:Nat}{tx s:`C}(h:Sane b tx s)(h1:tx≠[])(h2:bH tx s<=b):Sane (b-bH tx s) (onward tx s).1 (onward tx s).2.1:=by
 cases h with
 |mk _ _ h3=>exact h3 h1 h2
theorem Sane.last:∀b tx s,Sane b tx s->BX (goT b tx s).1/\B 390 8000000 (.node (goT b tx s).2.1):=by
 refine xO (fun b tx s h g=>?_) (fun b tx s h1 h2 ih g=>?_)
 ·rw[xR h];exact⟨g.bx,g.bs⟩
 ·rw[xU h1 h2];exact ih (g.next h1 h2)
theorem mL{s:`C}{i:Nat}(h:i<s.length):(ats s i).deep+1<=T.bK s:=T.oV (aeQ h)
theorem rJ(s:`C)(k:Nat):T.bK (s.drop k)<=T.bK s:=by
 have e:=congrArg T.bK (List.take_append_drop k s)
 rw[T.o_]at e
 lia
theorem xY(t:T):t.deep=T.bK t.kids:=by cases t;rw[T.aY];rfl
theorem vR(t:T):(aK t).deep<=t.deep:=by
 unfold aK
 rw[T.aY,xY t]
 exact rJ _ _
theorem Py(t:T):(ats t.kids 0).deep<=t.deep:=by
 rw[xY t]
 cases t.kids with
 |nil=>show T.deep (.node [])<=_;rw[T.aY,T.fC];lia
 |cons u us=>show u.deep<=_;rw[T.aW];lia
theorem WD(s:`C)(n:Nat):T.bK (pad s n)<=max (T.bK s) 1:=by
 unfold pad
 rw[T.o_]
 have:∀m:Nat,T.bK (List.replicate m leaf)<=1:=fun m=>by
  induction m with
  |zero=>show T.bK []<=1;rw[T.fC];lia
  |succ m ih=>rw[List.replicate_succ,T.aW];show max (T.deep (.node [])+1) _<=1;rw[T.aY,T.fC];lia
 have:=this (n-s.length)
 lia
theorem ac9{k:Nat}{l:T}{s:`C}(h:looks k<=s.length):T.bK (rP k l s)<=max (T.bK s+1) (l.deep+1):=by
 by_cases h0:k=0
 ·subst h0;show T.bK (l::s)<=_;rw[T.aW];lia
 by_cases h1:k=1
 ·subst h1;show T.bK (s.drop 1)<=_;have:=rJ s 1;lia
 by_cases h2:k=2
 ·subst h2
  have h:1<=s.length:=h
  have:=mL (s:=s) (i:=0) `A
  show T.bK (ats s 0::s)<=_;rw[T.aW];lia
 by_cases h3:k=3
 ·subst h3
  have h:2<=s.length:=h
  have:=mL (s:=s) (i:=0) `A
  have:=mL (s:=s) (i:=1) `A
  have:=rJ s 2
  show T.bK (ats s 1::ats s 0::s.drop 2)<=_;rw[T.aW,T.aW];lia
 by_cases h4:k=4
 ·subst h4
  have h:2<=s.length:=h
  have:=mL (s:=s) (i:=0) `A
  have:=mL (s:=s) (i:=1) `A
  have:=rJ s 2
  have:=xY (ats s 1)
  show T.bK (.node (ats s 0::(ats s 1).kids)::s.drop 2)<=_;rw[T.aW,T.aY,T.aW];lia
 by_cases h5:k=5
 ·subst h5
  have h:1<=s.length:=h
  have:=mL (s:=s) (i:=0) `A
  have:=rJ s 1
  have:=Py (ats s 0)
  have:=vR (ats s 0)
  show T.bK (ats (ats s 0).kids 0::aK (ats s 0)::s.drop 1)<=_;rw[T.aW,T.aW];lia
 by_cases h6:k=6
 ·subst h6
  have h:3<=s.length:=h
  have:=mL (s:=s) (i:=0) `A
  have:=mL (s:=s) (i:=1) `A
  have:=mL (s:=s) (i:=2) `A
  have:=rJ s 3
  show T.bK (ats s 2::ats s 0::ats s 1::s.drop 3)<=_;rw[T.aW,T.aW,T.aW];lia
 ·rw[BR `A];lia
structure Be(n:Nat)(tx s:`C):Prop where
 each:∀t∈tx,B 12 22000 t
 len:tx.length<=10+n
 sd:T.bK s<=14+n
 sp:T.aG s<=3000+n*22010
theorem Be.akS{n:Nat}{tx s:`C}(h:Be n tx s)(hn:n<=340):BX tx:=⟨by have:=h.len;lia,fun t ht=>(h.each t ht).le `A `A⟩
theorem Be.akT{n:Nat}{tx s:`C}(h:Be n tx s)(hn:n<=340):B 390 8000000 (.node s):=⟨by rw[T.aY];have:=h.sd;lia,by rw[T.aM];have:=h.sp;lia⟩
theorem Be.step{n:Nat}{tx s:`C}(h:Be n tx s):Be (n+bH tx s) (onward tx s).1 (onward tx s).2.1:=by
 have hc:=zA tx s
 have hmul:(n+bH tx s)*22010=n*22010+bH tx s*22010:=Nat.add_mul _ _ _
 have hsp:=h.sp
 have hsd:=h.sd
 have hl:=h.len
 have hd1:∀t∈tx.drop 1,B 12 22000 t:=fun t ht=>h.each t (List.mem_of_mem_drop ht)
 have hdl:(tx.drop 1).length<=tx.length-1:=by rw[List.length_drop];lia
 have hp1:=Ou s 1
 have hq1:=WD s 1
 have hst:stepT tx s=(onward tx s).2.2:=rfl
 rcases aej (tx:=tx) (s:=s)with⟨_,e⟩|⟨w,ws,hk,hr⟩
 ·rw[e]
  exact⟨hd1,by show(tx.drop 1).length<=_;lia,by show T.bK s<=_;lia,by show T.aG s<=_;lia⟩
 have hm:=aiI hk
 have h0:=h.each _ hm
 have htl:1<=tx.length:=List.length_pos_iff.mpr (List.ne_nil_of_mem hm)
 have hw:B 12 22000 w:=xq (dH h0) (by rw[hk];exact List.mem_cons_self)
 have hws:B 12 22000 `K:=by have:=jA 1 (dH h0);rw[hk]at this;exact this
 rcases hr with e|e|e|⟨k,g,e⟩
 ·rw[e]
  refine⟨fun t ht=>?_,by show(tx.drop 1).length+1+1<=_;lia,by show T.bK (pad s 1)<=_;lia,by show T.aG (pad s 1)<=_;lia⟩
  rcases List.mem_cons.mp ht with rfl|ht
  ·exact iU (jA 1 (dH hw)) 0
  rcases List.mem_cons.mp ht with rfl|ht
  ·exact hws
  ·exact hd1 t ht
 ·rw[e]
  refine⟨fun t ht=>?_,by show(tx.drop 1).length+1+1<=_;lia,by show T.bK (pad s 1)<=_;lia,by show T.aG (pad s 1)<=_;lia⟩
  rcases List.mem_cons.mp ht with rfl|ht
  ·exact jA 2 (dH hw)
  rcases List.mem_cons.mp ht with rfl|ht
  ·exact hws
  ·exact hd1 t ht
 ·rw[e]
  refine⟨fun t ht=>?_,by show tx.length+1<=_;lia,by show T.bK (pad s 1)<=_;lia,by show T.aG (pad s 1)<=_;lia⟩
  rcases List.mem_cons.mp ht with rfl|ht
  ·exact lR hw
  ·exact h.each t ht
 ·have hlk:=Xl k
  have hpk:=Ou s (looks k)
  have hqk:=WD s (looks k)
  have hwp:=abg (k:=k) (l:=aK w) (s:=pad s (looks k)) (Jz _ _)
  have hwd:=ac9 (k:=k) (l:=aK w) (s:=pad s (looks k)) (Jz _ _)
  have hlw:=Ph w
  have hld:=vR w
  have hw1:=hw.1
  have hw2:=hw.2
  have hck:k=2->bH tx s=(ats s 0).parts:=fun z=>by
   unfold bH
   rw[hst,e]
   exact if_pos z
  rw[ahW]at hwp
  rw[e]
  refine⟨fun t ht=>?_,by show(tx.drop 1).length+1<=_;lia,by show T.bK (rP k (aK w) (pad s (looks k)))<=_;lia,?_⟩
  ·rcases List.mem_cons.mp ht with rfl|ht
   ·exact hws
   ·exact hd1 t ht
  ·show T.aG (rP k (aK w) (pad s (looks k)))<=_
   by_cases k0:k=0
   ·rw[if_pos k0]at hwp
    lia
   rw[if_neg k0]at hwp
   by_cases k2:k=2
   ·rw[if_pos k2]at hwp
    have:=hck k2
    lia
   ·rw[if_neg k2]at hwp
    lia
theorem Be.sane:∀b tx s,∀n,Be n tx s->n+b<=340->Sane b tx s:=by
 refine xO (fun b tx s h n g hn=>?_) (fun b tx s h1 h2 ih n g hn=>?_)
 ·refine .mk (g.akS `A) (g.akT `A) fun z1 z2=>?_
  rcases h with h|h
  ·exact absurd h z1
  ·lia
 ·exact .mk (g.akS `A) (g.akT `A) fun _ _=>ih (n+bH tx s) g.step `A
theorem Be.last:∀b tx s,∀n,Be n tx s->Be (n+spT b tx s) (goT b tx s).1 (goT b tx s).2.1:=by
 refine xO (fun b tx s h n g=>?_) (fun b tx s h1 h2 ih n g=>?_)
 ·rw[xR h,Ci h];exact g
 ·rw[xU h1 h2,Cj h1 h2,<-Nat.add_assoc]
  exact ih (n+bH tx s) g.step
def Od:Str:=PySem.Str.ofString "told"
def ajC:Str:=PySem.Str.ofString "out"
def iz(b:Nat)(tx s:`C):Str:=if(goT b tx s).1=[]then Od else ajC
def lB(b:Nat)(tx s:`C):T:=if(goT b tx s).1=[]then ats (goT b tx s).2.1 0 else leaf
def abF(tx s:`C):T:=.node [.node tx,.node s]
def aaq(K:W.Frag):Sp:=fun vs H Q _=>∃x t y u,vs=[x,y]/\TR K H t x/\TR K H u y/\∀z H',`L->TR K H' (abF [t] [u]) z->Q z H'
def abr(K:W.Frag):Sp:=fun vs H Q _=>∃(x y:V)(t u:T)(b:Nat),vs=[x,y,.int (b:Int)]/\TR K H t x/\TR K H u y/\Sane b [t] [u]/\
 ∀p v H',`L->SqT K H' p [.str (iz b [t] [u]),v,nv (spT b [t] [u])]->TR K H' (lB b [t] [u]) v->Q (.ref p) H'
section
variable(p:`C)(d x:T)(Y:`C)
end
end Sw
namespace PySem
open Builtin Builtin.Str
section
variable{prog:Program}{w:World}{A:Around}{E:`T}{s:Shared}{x:Str}{t:Tok}{Q:`T}
theorem abo{y:Str}{u:Tok}(hy:(y.length==0)=false)
  (q:∀(l:List (Str×Tok))(k:Nat),l.map (·.1)=Txt.split x y->Q (.ref s.heap.objs.size) {s with toks:=k,heap:=s.heap.push {cls:=.type "list",data:=.seq (strValues l).toArray}})
  (z1:x.length<=sizeLine)(z2:(partsBetween x (occurrences x y 0 x.length (x.length+1)) y.length).length<=sizeLine):wpAny `a A (call (.builtin "str.split") [.str x t,.str y u]) Q E s:=by
 cases c1:(decide (x.length<y.length)||decide (Builtin.Str.strKind x<Builtin.Str.strKind y))
 ·cases c2:(occurrences x y 0 x.length (x.length+1)).isEmpty
  ·refine call_meets F.slot_str_split (typeIs_str _ _ _) F.entry_str_split (F.args_str_split_2 _ _) (meets_str_split_sep x y t u c1 hy c2 z1 z2) ?_
   show wants Q E _ {s with toks:=_,heap:=s.heap.push {cls:=.type "list",data:=.seq (strsFrom s.toks (partsBetween x (occurrences x y 0 x.length (x.length+1)) y.length)).toArray}};rw[strsFrom_eq]
   exact q (numbered s.toks _) _ ((numbered_texts _ _).trans ((if_neg (ne_true_of_eq_false c1)).trans (if_neg (ne_true_of_eq_false c2))).symm)
  ·exact call_meets F.slot_str_split (typeIs_str _ _ _) F.entry_str_split (F.args_str_split_2 _ _) (meets_str_split_not_found x y t u c1 hy c2) (q [(x,t)] s.toks ((if_neg (ne_true_of_eq_false c1)).trans (if_pos c2)).symm)
 ·exact call_meets F.slot_str_split (typeIs_str _ _ _) F.entry_str_split (F.args_str_split_2 _ _) (meets_str_split_cannot_occur x y t u c1) (q [(x,t)] s.toks (if_pos c1).symm)
end
end PySem
namespace Sw
open PySem PySem.Spec PyProof.Rows L2
def aV(sep:`E):`I->`E
 |[]=>[]
 |[l]=>l
 |l::r=>l++sep++aV sep r
theorem qg(sep l:`E){r:`I}(h:r≠[]):aV sep (l::r)=l++sep++aV sep r:=by
 cases r with
 |nil=>exact absurd rfl h
 |cons _ _=>rfl
theorem V4(sep:`E):∀ls:`I,PySem.Str.join (tx sep) (ls.map tx)=tx (aV sep ls)
 |[]=>rfl
 |[l]=>rfl
 |l::m::r=>by
  have ih:=V4 sep (m::r)
  show tx l++tx sep++PySem.Str.join (tx sep) ((m::r).map tx)=_
  rw[ih,cO,cO]
  rfl
theorem ae_ (sep:`E) (ls:`I):Txt.join (tx sep) (ls.map tx)=tx (aV sep ls):=by
 have key:∀ (ls:`I) (acc:`E),(ls.map tx).foldl (fun acc p=>acc++(tx sep).cps++p.cps) acc.toArray=(aV sep (acc::ls)).toArray:=by
  intro ls
  induction ls with
  | nil=>intro acc; rfl
  | cons l ls ih =>
   intro acc
   rw [List.map_cons,List.foldl_cons]
   have e:acc.toArray++(tx sep).cps++(tx l).cps=(acc++sep++l).toArray:=by simp [tx]
   rw [e,ih]
   cases ls with
   | nil=>rfl
   | cons m r =>
    show (acc++sep++l++sep++aV sep (m::r)).toArray=(acc++sep++(l++sep++aV sep (m::r))).toArray
    simp only [List.append_assoc]
 show Str.mk _=_
 cases ls with
 | nil=>rfl
 | cons l ls =>
  have:=key ls l
  show Str.mk (((l::ls).map tx).drop 1 |>.foldl (fun acc p=>acc++(tx sep).cps++p.cps) (((l::ls).map tx).headD Str.empty).cps)=tx (aV sep (l::ls))
  rw [List.map_cons,List.drop_one,List.tail_cons,List.headD_cons]
  exact congrArg Str.mk this
theorem Ur(sep:`E):∀ls:`I,(aV sep ls).length<=ls.flatten.length+ls.length*sep.length
 |[]=>by simp[aV]
 |[l]=>by simp[aV]
 |l::m::r=>by
  have ih:=Ur sep (m::r)
  show(l++sep++aV sep (m::r)).length<=_
  rw[List.length_append,List.length_append,List.flatten_cons,List.length_append,List.length_cons (a:=l),Nat.add_mul]
  lia
section
variable{X:Cx}
theorem agE(hc:X.calm=true):CallR X (.builtin "any") (fun xs H Q=>∃(p:Addr)(bs:List Bool),xs=[.ref p]/\SqL X.K H p (bs.map V.bl)/\Q (.bl (bs.any id)) H):=by
 intro pins s σ H xs us Q I r h
 obtain⟨p,bs,rfl,hq,q⟩:=h
 obtain⟨u,rfl,rx⟩:=vals1 r
 cases rx
 obtain⟨its,r',pl,hz⟩:=I.list hq
 have hit:=Yp r'
 subst hit
 have hl:=pl.isList
 have hlt:p<s.heap.objs.size:=by obtain⟨_,e,_⟩:=hl;exact Heap.lt_size e
 refine call_any_walk (wpAny_pyIter_list hl ?_)
 refine⟨_,_,_,_,_,_,fun i=>bs.getD i false,rfl,Walks.list (A:=X.A.in1) (I.ok.hd hc) _ p (Nat.ne_of_lt hlt) (bs.map Value.bool).toArray,⟨⟨_,Heap.get?_push_size _ rfl,rfl,rfl⟩,hl.push _⟩,?_,fun h' tk hk=>?_⟩
 ·intro i v s Q E hv hQ
  rw[List.getElem?_toArray,List.getElem?_map]at hv
  cases hh:bs[i]? with
  |none=>rw[hh]at hv;cases hv
  |some b=>
   rw[hh]at hv
   cases hv
   have hQ':Q (bs.getD i false) s:=hQ
   rw[List.getD_eq_getElem?_getD,hh]at hQ'
   exact wpAny_truthy_bool hQ'
 ·have es:(List.range (bs.map Value.bool).toArray.size).any (fun i=>bs.getD i false)=bs.any id:=by
   rw[List.size_toArray,List.length_map,Bool.eq_iff_iff,List.any_eq_true,List.any_eq_true]
   refine⟨fun⟨i,hi,e⟩=>?_,fun⟨b,hb,e⟩=>?_⟩
   ·have hi':=List.mem_range.mp hi
    rw[List.getD_eq_getElem?_getD,List.getElem?_eq_getElem hi',Option.getD_some]at e
    exact⟨_,List.getElem_mem hi',e⟩
   ·obtain⟨i,hi,e'⟩:=List.getElem_of_mem hb
    refine⟨i,List.mem_range.mpr hi,?_⟩
    rw[List.getD_eq_getElem?_getD,List.getElem?_eq_getElem hi,Option.getD_some,e']
    exact e
  rw[es]
  exact⟨.bl (bs.any id),H,I.kept (old_kept hk),rfl,q⟩
def ajk(K:W.Frag):V->`F->Hp->VK->Prop:=fun x vs H Q=>∃(l:Addr)(sep:`E)(ls:`I),x=.str (tx sep)/\vs=[.ref l]/\SqL K H l (ls.map fun c=>V.str (tx c))/\ls.flatten.length+ls.length*sep.length<=16777216/\Q (.str (tx (aV sep ls))) H
theorem agb:MtM X "str.join" (ajk X.K):=by
 intro pins s σ H x vs v us Q I rx rv h
 obtain⟨l,sep,ls,rfl,rfl,hq,hz,q⟩:=h
 obtain⟨t,rfl⟩:=rx
 obtain⟨u,rfl,ru⟩:=rv.one
 cases ru
 obtain⟨its,r,pl,_⟩:=I.list hq
 have hs:StrsAre its (ls.map tx):=DG (by rw[List.map_map];exact r)
 refine join_list (ys:=ls.map tx) pl.isList (by simpa using hs) ?_ fun t' k=>?_
 ·rw[Qw,bR,List.length_map]
  exact hz
 ·rw[show Txt.join (tx sep) (ls.map tx)=tx (aV sep ls)from ae_ sep ls]
  exact⟨.str (tx (aV sep ls)),H,I.tok _,⟨_,rfl⟩,q⟩
def aji:V->`F->Hp->VK->Prop:=fun x vs H Q=>∃(l:`E)(c:Nat),x=.str (tx l)/\vs=[.str (tx [c])]/\l.length<=8000000/\
 ∀D ls,H D=none->aV [c] ls=l->ls≠[]->(∀p∈ls,c∉p)->Q (.ref D) (upd H D (.lst (ls.map fun p=>V.str (tx p))))
theorem als(z:Str):z=tx z.cps.toList:=rfl
theorem aae:∀ss:List Str,∃ls:`I,ss=ls.map tx
 |[]=>⟨[],rfl⟩
 |z::ss=>by
  obtain⟨ls,e⟩:=aae ss
  exact⟨z.cps.toList::ls,by rw[List.map_cons,<-e,<-als]⟩
theorem T4:∀{l:List (Str×Tok)}{ls:`I},l.map (·.1)=ls.map tx->Vals (ls.map fun p=>V.str (tx p)) (strValues l)
 |[],ls,h=>by
  cases ls with
  |nil=>exact .nil
  |cons _ _=>cases h
 |(z,t)::l,ls,h=>by
  cases ls with
  |nil=>cases h
  |cons p ls=>
   have h':=List.cons.inj h
   have e:z=tx p:=h'.1
   subst e
   exact .cons ⟨t,rfl⟩ (T4 h'.2)
theorem aga:MtM X "str.split" aji:=by
 intro pins s σ H x vs v us Q I rx rv h
 obtain⟨l,c,rfl,rfl,hl,q⟩:=h
 obtain⟨t,rfl⟩:=rx
 obtain⟨u,rfl,ru⟩:=rv.one
 obtain⟨t',rfl⟩:=ru
 have z2:(Builtin.Str.partsBetween (tx l) (Builtin.Str.occurrences (tx l) (tx [c]) 0 (tx l).length ((tx l).length+1)) (tx [c]).length).length<=sizeLine:=by
  rw[PyProof.Rows.len_partsBetween]
  have:=StrLaws.occ_length_le (tx l) (tx [c]) 0 (tx l).length ((tx l).length+1)
  rw[bR]at this|-
  exact Nat.le_trans (Nat.succ_le_succ this) (Nat.le_trans (Nat.add_le_add_right hl 2) `B)
 refine abo rfl (fun ll k e=>?_) (by rw[bR];exact Nat.le_trans hl `B) z2
 obtain⟨ls,els⟩:=aae (ll.map (·.1))
 have e2:Txt.split (tx l) (tx [c])=ls.map tx:=by rw[<-e,els]
 have hj:aV [c] ls=l:=by
  have:=StrLaws.join_split (tx l) (tx [c])
  rw[e2,V4]at this
  exact GR.mp this
 have hf:∀p∈ls,c∉p:=fun p hp=>by
  have:=StrLaws.split_free (tx l) c (tx p) (by
   show tx p∈Txt.split (tx l) (tx [c])
   rw[e2]
   exact List.mem_map.mpr ⟨p,hp,rfl⟩)
  simpa[tx]using this
 have hne:ls≠[]:=fun z=>by
  have:=PyProof.Rows.split_pos (tx l) (tx [c])
  rw[e2,z]at this
  simp at this
 have hln:ls.length<=sizeLine:=by
  have:=PyProof.Rows.split_le (tx l) (tx [c])
  rw[e2,List.length_map,bR]at this
  exact Nat.le_trans this (Nat.le_trans (Nat.add_le_add_right hl 2) `B)
 have hn:H s.heap.objs.size=none:=I.hok.fresh `P
 have I2:=I.lnew (ys:=ls.map fun p=>V.str (tx p)) (its:=strValues ll) (t':=k) (T4 els) (by rw[List.length_map];exact hln)
 exact⟨.ref s.heap.objs.size,_,I2,rfl,q _ ls hn hj hne hf⟩
def ahB:V->`F->Hp->VK->Prop:=fun x vs H Q=>∃(l:`E)(c:Nat),x=.str (tx l)/\vs=[.str (tx [c])]/\Q (.bl (l.head? ==some c)) H
theorem adB(l:`E)(c:Nat):Txt.startswith (tx l) (tx [c])=(l.head? ==some c):=by
 unfold Txt.startswith Builtin.Str.subAt
 cases l with
 |nil=>rfl
 |cons a r=>
  show(decide (0+1<=(a::r).length)&&((a::r).toArray.extract 0 (0+1)== #[c]))=(some a==some c)
  have e:(a::r).toArray.extract 0 (0+1)=#[a]:=`H
  rw[e,decide_eq_true `H,Bool.true_and]
  simp
theorem Ui:MtM X "str.startswith" ahB:=by
 intro pins s σ H x vs v us Q I rx rv h
 obtain⟨l,c,rfl,rfl,q⟩:=h
 obtain⟨t,rfl⟩:=rx
 obtain⟨u,rfl,ru⟩:=rv.one
 obtain⟨t',rfl⟩:=ru
 refine SC.startswith ?_
 rw[adB]
 exact⟨.bl _,H,I,rfl,q⟩
end
open SeqAt in
theorem YX(l:Addr)(items:Array Value)(n:Nat)(dd:Option Addr)(sl:`g)(x:Value)(e:Value->Bool)(j:Nat)(hj:j<items.size)(hit:e items[j]=true)(hno:∀m(hm:m<items.size),m<j->e items[m]=false):
  Meets (Builtin.«tuple.index» ⟨[.ref l,x],[]⟩) (fun A R u=>u.heap.get? l=some {cls:=`b,dict:=dd,data:=.seq items n,slots:=sl}/\(∀y,y∈items->EqAt A.in1 u y x (e y))/\R (.ok (.ret (.int j u.toks))) {u with toks:=u.toks+1}):=
 .of_wp fun prog w A R u h=>by
  obtain⟨hp,g,d,tk,os⟩:=u;obtain⟨hl,he,h⟩:=h
  unfold Builtin.«tuple.index»
  simp only[Std.Legacy.Range.forIn_eq_forIn_range']
  wp_walk using wpAny_loadPart' hl,wpAny_forIn_list _ (fun rest b s'=>b.1=none/\s'=⟨hp,g,d,tk,os⟩/\∃i,i<=j/\rest=(List.range' 0 items.size).drop i) _
  case turn=>
   rintro i rest b s'⟨hb,rfl,m,hm,hr⟩
   have hlt:m<items.size:=by
    have:=congrArg List.length hr
    simp at this
    lia
   have hr2:(List.range' 0 items.size).drop m=m::(List.range' 0 items.size).drop (m+1):=by
    rw[List.drop_eq_getElem_cons (by simpa using hlt)]
    simp
   rw[hr2]at hr
   obtain⟨rfl,rfl⟩:=List.cons.inj hr
   have e1:items[i]?=some items[i]:=Array.getElem?_eq_getElem hlt
   rw[e1]
   refine wpAny_bind (he _ (Array.getElem_mem hlt) prog w _ _ ?_)
   by_cases hmj:i=j
   ·subst hmj
    rw[hit]
    wp_walk
    exact⟨_,rfl,h⟩
   ·rw[hno i hlt `A]
    wp_walk
    exact⟨rfl,rfl,i+1,`A,rfl⟩
  case fin=>
   rintro⟨b1,b2⟩s'⟨hb,rfl,m,hm,hr⟩
   have:=congrArg List.length hr
   simp at this
   lia
  case h=>
   refine⟨rfl,rfl,0,`R,?_⟩
   simp
def nmC(k:Nat):`E:=([[108,97,121],[100,114,111,112],[116,119,105,110],[115,119,97,112],[102,114,111,110,116],[112,97,114,116],[116,117,114,110],[102,111,114,107],[119,104,105,108,101]]:`I).getD k []
def sG:`F:=(List.range 9).map fun k=>V.str (tx (nmC k))
theorem Mr:[V.str (Str.ofString "lay"),.str (Str.ofString "drop"),.str (Str.ofString "twin"),.str (Str.ofString "swap"),.str (Str.ofString "front"),.str (Str.ofString "part"),.str (Str.ofString "turn"),.str (Str.ofString "fork"),.str (Str.ofString "while")]=sG:=by
 rw[show Str.ofString "lay"=tx [108,97,121]by decide+kernel,show Str.ofString "drop"=tx [100,114,111,112]by decide+kernel,show Str.ofString "twin"=tx [116,119,105,110]by decide+kernel,
  show Str.ofString "swap"=tx [115,119,97,112]by decide+kernel,show Str.ofString "front"=tx [102,114,111,110,116]by decide+kernel,show Str.ofString "part"=tx [112,97,114,116]by decide+kernel,
  show Str.ofString "turn"=tx [116,117,114,110]by decide+kernel,show Str.ofString "fork"=tx [102,111,114,107]by decide+kernel,show Str.ofString "while"=tx [119,104,105,108,101]by decide+kernel]
 rfl
theorem uy{k:Nat}(h:k<9):atI sG (k:Int)=some (.str (tx (nmC k))):=atI_nat (by unfold sG;rw[List.getElem?_map,List.getElem?_range h];rfl)
theorem Jr:Str.ofString "["=tx [91]:=`D
theorem Vf:Str.ofString "]"=tx [93]:=`D
theorem adg:Str.ofString "|"=tx [124]:=`D
theorem B_:Str.ofString "!"=tx [33]:=`D
theorem BZ:Str.ofString "'"=tx [39]:=`D
theorem K1:Str.ofString " "=tx [32]:=`D
def uJ(w:T):Bool:=T.beq w leaf||(ats w.kids 0).kids.any fun t=>!T.beq t leaf
def d8(w:T):Bool:=if uJ w=true then true else if aA w=0\/aA w=8 then false else if aA w=7 then T.beq (aK w) leaf else(decide (aA w=9)|| !T.beq (aK w) leaf)
theorem LR{w:T}(h:d8 w=false):aA w<=8:=by
 have h9:aA w<=9:=by unfold aA;split<;>lia
 rcases Nat.lt_or_ge (aA w) 9 with z|z
 ·lia
 ·have e:aA w=9:=`A
  unfold d8 at h
  rw[e]at h
  split at h
  ·cases h
  ·rw[if_neg `A,if_neg `A]at h
   simp at h
mutual
inductive Wr:T->`I->Prop
 |odd{w:T}(h:d8 w=true):Wr w [33::w.wr]
 |lay{w:T}(h:d8 w=false)(hs:aA w=0):Wr w [39::(aK w).wr]
 |plain{w:T}(h:d8 w=false)(h1:1<=aA w)(h6:aA w<=6):Wr w [nmC (aA w)]
 |fork{w:T}{ps qs:`I}(h:d8 w=false)(hs:aA w=7)(hy:Ts (ats (aK w).kids 0).kids ps)(hn:Ts (aK (aK w)).kids qs):Wr w ([nmC 7,[91]]++ps++[[124]]++qs++[[93]])
 |loop{w:T}{ps:`I}(h:d8 w=false)(hs:aA w=8)(hb:Ts (aK w).kids ps):Wr w ([nmC 8,[91]]++ps++[[93]])
inductive Ts:`C->`I->Prop
 |nil:Ts [] []
 |cons{w:T}{ws:`C}{ps qs:`I}(h:Wr w ps)(g:Ts ws qs):Ts (w::ws) (ps++qs)
end
abbrev Itm:=T⊕`E
inductive rB:List Itm->`I->Prop
 |nil:rB [] []
 |txt{l:`E}{r:List Itm}{ps:`I}(h:rB r ps):rB (.inr l::r) (l::ps)
 |word{w:T}{r:List Itm}{ps qs:`I}(h:Wr w ps)(g:rB r qs):rB (.inl w::r) (ps++qs)
theorem rB.append{a b:List Itm}{ps qs:`I}(h:rB a ps)(g:rB b qs):rB (a++b) (ps++qs):=by
 induction h with
 |nil=>exact g
 |txt _ ih=>exact .txt ih
 |word h _ ih=>rw[List.append_assoc];exact .word h ih
theorem Cz:∀{ws:`C}{ps:`I},Ts ws ps->rB (ws.map .inl) ps
 |[],_,h=>by cases h;exact .nil
 |w::ws,_,h=>by cases h with|cons h g=>exact .word h (Cz g)
theorem oO(l:`E):rB [.inr l] [l]:=.txt .nil
def cF(w:T):List Itm:=
 if d8 w=true then[.inr (33::w.wr)]else if aA w=0 then[.inr (39::(aK w).wr)]
 else if aA w=7 then[.inr (nmC 7),.inr [91]]++(ats (aK w).kids 0).kids.map .inl++[.inr [124]]++(aK (aK w)).kids.map .inl++[.inr [93]]
 else if aA w=8 then[.inr (nmC 8),.inr [91]]++(aK w).kids.map .inl++[.inr [93]]else[.inr (nmC (aA w))]
theorem abG{w:T}{ps:`I}(h:Wr w ps):rB (cF w) ps:=by
 cases h with
 |odd h=>unfold cF;rw[if_pos h];exact oO _
 |lay h hs=>unfold cF;rw[if_neg (by rw[h];decide),if_pos hs];exact oO _
 |plain h h1 h6=>unfold cF;rw[if_neg (by rw[h];decide),if_neg `A,if_neg `A,if_neg `A];exact oO _
 |fork h hs hy hn=>
  unfold cF
  rw[if_neg (by rw[h];decide),if_neg `A,if_pos hs]
  exact((((rB.txt (oO _)).append (Cz hy)).append (oO _)).append (Cz hn)).append (oO _)
 |loop h hs hb=>
  unfold cF
  rw[if_neg (by rw[h];decide),if_neg `A,if_neg `A,if_pos hs]
  exact((rB.txt (oO _)).append (Cz hb)).append (oO _)
def wtI:Itm->Nat
 | .inl t=>5*t.parts
 | .inr _=>1
def wtL(l:List Itm):Nat:=(l.map wtI).sum
theorem yq(a:Itm)(l:List Itm):wtL (a::l)=wtI a+wtL l:=rfl
theorem jP(a b:List Itm):wtL (a++b)=wtL a+wtL b:=by unfold wtL;rw[List.map_append,List.sum_append]
theorem vq:∀ws:`C,wtL (ws.map .inl)=5*T.aG ws
 |[]=>rfl
 |w::ws=>by rw[List.map_cons,yq,vq ws,T.aD];show 5*_+_=_;lia
theorem Jp:∀l:List Itm,l.length<=wtL l
 |[]=>`P
 |a::l=>by
  rw[yq,List.length_cons]
  have:=Jp l
  have h1:1<=wtI a:=by
   cases a with
   |inl t=>show 1<=5*t.parts;have:=T.cZ t;lia
   |inr _=>exact`P
  lia
theorem uF(w:T):T.aG (aK w).kids+1<=w.parts:=by
 cases w with
 |node ts=>
  cases ts with
  |nil=>rw[T.aM];show T.aG []+1<=_;rw[T.aZ];lia
  |cons f r=>rw[T.aM,T.aD];show T.aG r+1<=_;lia
theorem Vo(l:T):T.aG (ats l.kids 0).kids+T.aG (aK l).kids<=T.aG l.kids:=by
 cases l with
 |node ts=>
  cases ts with
  |nil=>show T.aG []+T.aG []<=T.aG [];rw[T.aZ];lia
  |cons f r=>
   show T.aG f.kids+T.aG r<=T.aG (f::r)
   rw[T.aD]
   have:=T.cU f
   lia
theorem afd(w:T):wtL (cF w)<5*w.parts:=by
 have h0:=T.cZ w
 have h1:=uF w
 have h2:=Vo (aK w)
 have one:∀l:`E,wtL [.inr l]=1:=fun _=>rfl
 unfold cF
 split
 ·rw[one];lia
 split
 ·rw[one];lia
 split
 ·rw[jP,jP,jP,jP,vq,vq,one,one]
  have:wtL [(.inr (nmC 7):Itm),.inr [91]]=2:=rfl
  lia
 split
 ·rw[jP,jP,vq,one]
  have:wtL [(.inr (nmC 8):Itm),.inr [91]]=2:=rfl
  lia
 ·rw[one];lia
def szP(ps:`I):Nat:=ps.flatten.length+ps.length
theorem lZ(a b:`I):szP (a++b)=szP a+szP b:=by unfold szP;rw[List.flatten_append,List.length_append,List.length_append];lia
theorem xu(l:`E):szP [l]=l.length+1:=by unfold szP;simp
theorem aen(k:Nat):(nmC k).length<=5:=by
 rcases Nat.lt_or_ge k 9 with h|h
 ·have:∀k,k<9->(nmC k).length<=5:=`B
  exact this k h
 ·unfold nmC
  rw[List.getD_eq_getElem?_getD,List.getElem?_eq_none (by show 9<=k;exact h)]
  exact`R
mutual
theorem alo:∀{w:T}{ps:`I},Wr w ps->szP ps<=12*w.parts
 |w,_,.odd h=>by rw[xu,List.length_cons,T.iK];have:=T.cZ w;lia
 |w,_,.lay h hs=>by rw[xu,List.length_cons,T.iK];have:=uF w;have:=T.cU (aK w);lia
 |w,_,.plain h h1 h6=>by rw[xu];have:=aen (aA w);have:=T.cZ w;lia
 |w,_,.fork (ps:=ps) (qs:=qs) h hs hy hn=>by
  have a1:=Dz hy
  have a2:=Dz hn
  have h1:=uF w
  have h2:=Vo (aK w)
  rw[lZ,lZ,lZ,lZ,xu,xu]
  have:szP [nmC 7,[91]]=7:=rfl
  simp only[List.length_singleton]
  lia
 |w,_,.loop (ps:=ps) h hs hb=>by
  have a1:=Dz hb
  have h1:=uF w
  rw[lZ,lZ,xu]
  have:szP [nmC 8,[91]]=8:=rfl
  simp only[List.length_singleton]
  lia
theorem Dz:∀{ws:`C}{ps:`I},Ts ws ps->szP ps<=12*T.aG ws
 |_,_,.nil=>`R
 |_,_,.cons h g=>by
  have a1:=alo h
  have a2:=Dz g
  rw[lZ,T.aD]
  lia
end
def IR(K:W.Frag)(H:Hp):Itm->V->Prop
 | .inl t,x=>TR K H t x
 | .inr l,x=>x=.str (tx l)
theorem IR.mono{K:W.Frag}{H H':Hp}(S:Kt H H'):∀{o:Itm}{x:V},IR K H o x->IR K H' o x
 | .inl _,_,h=>TR.mono S h
 | .inr _,_,h=>h
theorem MP{K:W.Frag}{H:Hp}:∀{ts:`C}{xs:`F},TRs K H ts xs->aP (IR K H) (ts.map .inl) xs
 |[],xs,h=>by rw[bJ]at h;rw[h];exact .nil
 |t::ts,xs,h=>by
  obtain⟨x,r,rfl,h1,h2⟩:=b_.mp h
  exact .cons h1 (MP h2)
def IT(K:W.Frag)(H:Hp)(its:List Itm)(v:V):Prop:=∃a xs,v=`G/\SqT K H a xs/\aP (IR K H) its xs
theorem IT.mono{K:W.Frag}{H H':Hp}{its:List Itm}{v:V}(S:Kt H H')(h:IT K H its v):IT K H' its v:=by
 obtain⟨a,xs,rfl,h1,h2⟩:=h
 exact⟨a,xs,rfl,eU S h1,h2.imp fun _ _=>IR.mono S⟩
theorem TR.it{K:W.Frag}{H:Hp}{ts:`C}{x:V}(h:TR K H (.node ts) x):IT K H (ts.map .inl) x:=by
 obtain⟨a,xs,rfl,ha,ra⟩:=bZ.mp h
 exact⟨a,xs,rfl,ha,MP ra⟩
theorem itN{K:W.Frag}{H:Hp}{p:Addr}{xs:`F}{its:List Itm}(hp:H p=none)(h:aP (IR K H) its xs):Same H (upd H p (.tup xs))/\IT K (upd H p (.tup xs)) its (.ref p):=
 ⟨same_new hp _,_,_,rfl,SqT.of upd_same,h.imp fun _ _=>IR.mono (.new hp)⟩
theorem JG{K:W.Frag}{H:Hp}{Q:VK}{is js:List Itm}{x y:V}(hx:IT K H is x)(hy:IT K H js y)(hz:is.length+js.length<=sizeLine)(q:∀z H',`L->IT K H' (is++js) z->Q z H'):Wi K x y H Q:=by
 obtain⟨a,xs,rfl,ha,ra⟩:=hx
 obtain⟨b,ys,rfl,hb,rb⟩:=hy
 exact⟨a,b,xs,ys,rfl,rfl,ha,hb,by rw[ra.length,rb.length];exact hz,fun p H' S h=>q _ _ S ⟨p,_,rfl,h,(ra.append rb).imp fun _ _=>IR.mono (.of S)⟩⟩
theorem ail{K:W.Frag}{H:Hp}{a:Addr}{ts:`C}{xs:`F}{σ:Sg}{js:`E}{te:TE}{Q:VK}(f:T->V)(ha:SqT K H a xs)(hts:TRs K H ts xs)(hz:xs.length<=sizeLine)
  (hte:∀t x H'(R:VK),t∈ts->`L->TR K H' t x->(∀H3,Same H' H3->R (f t) H3)->te (some x::frv σ js) H' R)
  (q:∀D H',`L->H' D=some (.lst (ts.map f))->Q (.ref D) H'):Gd (Itt K a) js te σ Q H:=by
 refine aaM (K:=K) (a:=a) (xs:=xs) (fun D i ys H'=>H D=none/\`L/\H' D=some (.lst ys)/\ys.length=i/\ys=(ts.take i).map f) hz (fun D hD=>?_) (fun D i ys H' j=>⟨j.2.2.1,j.2.2.2.1,eU (.of j.2.1) ha⟩) (fun D i x ys H' R hx j hR=>?_) (fun D ys H' j=>?_)
 ·exact⟨hD,same_new hD _,upd_same,rfl,rfl⟩
 ·obtain⟨hD,S,h1,hl,e⟩:=j
  obtain⟨t,et,ht⟩:=hts.get hx
  refine hte t x H' R (List.mem_of_getElem? et) S (ht.mono (.of S)) fun H3 S3=>?_
  refine hR _ H3 (S3 _ _ h1) ⟨hD,bQ (S.trans S3) hD,upd_same,by rw[List.length_append,hl];rfl,?_⟩
  rw[List.take_add_one,et,List.map_append,e]
  rfl
 ·obtain⟨hD,S,h1,hl,e⟩:=j
  refine q D H' S ?_
  rw[h1,e,List.take_of_length_le (by rw[hts.length];exact`P)]
def aaj(K:W.Frag):Sp:=fun vs H Q _=>∃x t,vs=[x]/\TR K H t x/\t.parts<=100000/\∀H',`L->Q (.str (tx t.wr)) H'
def abt(K:W.Frag):Sp:=fun vs H Q _=>∃x w,vs=[x]/\TR K H w x/\B 400 100000 w/\∀H',`L->Q (.bl (d8 w)) H'
def T6(K:W.Frag):Sp:=fun vs H Q _=>∃x w,vs=[x]/\TR K H w x/\B 400 100000 w/\∀y H',`L->IT K H' (cF w) y->Q y H'
def aai(K:W.Frag):Sp:=fun vs H Q _=>∃x ts ps,vs=[x]/\TR K H (.node ts) x/\Ts ts ps/\B 400 80000 (.node ts)/\∀H',`L->Q (.str (tx (aV [32] ps))) H'
theorem akQ:bootBuiltins "any"=some (.builtin "any"):=`D
theorem afQ{X:Cx}{K:W.Frag}{A:Around}{n:Nat}(hK:X.K=K)(hA:X.A=A)(hu:A.units+n+1<cLine):OpR X (compareOp .NotEq) (ag0 K n):=by subst hK;subst hA;exact aaF hu
section
variable{P:Program}{w:World}{K:W.Frag}{mg:`U}{base:Heap}{N:List Str}{qual:Str}{scope:Scope}{f:Addr}{cd:Value}{A:Around}{outer:List Env}{s₀:Shared}{H₀:Hp}{E:XK}
theorem zW:Passes (CXE P w) `f E:=by
 intro pins σ H s e s' I h
 obtain⟨a,C,H',B,rfl,hE,F⟩:=h
 generalize hX:`f=X at I F|-
 have eS:X.stack=X.env::outer:=by rw[<-hX];rfl
 have eF:X.env.frame=some X.env.locals:=by rw[<-hX];rfl
 have e0:X.s₀=s₀:=by rw[<-hX];rfl
 have eH:X.H₀=H₀:=by rw[<-hX];rfl
 have eO:X.outer=outer:=by rw[<-hX];rfl
 have eX:X.ex=[]:=by rw[<-hX];rfl
 have exe:X.xe=fun e s'=>wpAny (model P w) X.A (leaving X.env e) (fun _ s''=>CXE P w outer H₀ s₀ E e s'') (fun e' s''=>CXE P w outer H₀ s₀ E e' s'') s':=by rw[<-hX];rfl
 rw[exe]
 have zZ:∀b o,s₀.heap.get? b=some o->b∉frs outer->b∉frs X.stack:=fun b o e1 hb z=>by
  rcases List.mem_cons.mp (I.stkSub b z)with e2|e2
  ·have:=Nat.lt_of_lt_of_le (Heap.lt_size (e0▸e1)) I.ok.above
   rw[e2]at this
   exact absurd this (Nat.lt_irrefl _)
  ·exact hb (by rw[<-eO];exact e2)
 have nex:∀b:Addr,b∉X.ex:=fun b z=>by rw[eX]at z;simp at z
 have ub:Un (frs outer) X.ex H₀ H s₀.heap s.heap:=by
  have:=I.base
  rw[e0,eH]at this
  unfold Cx.fs at this
  rw[eO]at this
  exact this
 obtain⟨t,fl⟩:=F.fl
 have fl':Heap.FlyingW B (X.env::outer) a (.ref C) t s'.heap:=eS▸fl
 refine wpAny_leaves_onW (L:=X.env.locals) (by rw[I.ok.frames,eS]) eF fl' fun h'' F1 up=>?_
 refine⟨a,C,H',B,rfl,hE,⟨F.os.trans (I.os.trans (by rw[e0])),F.bare,⟨t,F1⟩,fun b o e1 n hb=>?_,fun b o e1 hb=>?_,fun b o e1 n=>?_,fun b o e1 hb=>?_,fun b xs z=>F.tups b xs (ub.tups b xs z),fun b o u z=>F.frzs b o u (ub.frzs b o u z),fun b ps z=>?_,F.hok,F.new,?_⟩⟩
 ·exact F.keep b o (ub.keep b o e1 n hb (nex b)) (ub.free b o e1 n (nex b)) (zZ b o e1 hb)
 ·have hb':b∈X.fs:=by unfold Cx.fs;rw[eO];exact hb
  have n:H₀ b=none:=by rw[<-eH];exact I.ok.frf b hb'
  obtain⟨s1,q1⟩:=ub.slot b o e1 n hb (nex b)
  obtain⟨_,o2,q2,nf⟩:=I.ok.funs.mem hb'
  rw[e0,e1]at q2
  cases q2
  obtain⟨s2,q3⟩:=F.slot b _ q1 (by rw[eS];unfold frs;exact List.mem_filterMap.mpr (by obtain⟨ev,h1,h2⟩:=List.mem_filterMap.mp (show b∈outer.filterMap _ from hb);exact⟨ev,List.mem_cons_of_mem _ h1,h2⟩))
  obtain⟨s3,q4⟩:=up b _ q3 nf
  exact⟨s3,q4⟩
 ·obtain⟨o',q1⟩:=ub.there b o e1 (nex b)
  exact F.free b o' q1 (ub.free b o e1 n (nex b))
 ·obtain⟨o',q1⟩:=ub.there b o e1 (nex b)
  exact F.there b o' q1 (zZ b o e1 hb)
 ·obtain⟨m1,z1⟩:=ub.tbls b ps z
  obtain⟨m2,z2⟩:=F.tbls b _ z1
  exact⟨m1++m2,by rw[z2];first|rw[List.append_assoc]|rw[Array.append_assoc]|simp⟩
 ·cases e1:s₀.heap.get? a with
  |none=>rfl
  |some o=>
   obtain⟨o',q1⟩:=ub.there a o e1 (nex a)
   rw[F.fresh]at q1;cases q1
end
section
variable{M:Model}{A:Around}{E:`T}{s:Shared}{base:Heap}{env:Env}{outer l:List Env}{L e:Addr}{cls a0 c fl:Value}{Q:Unit->Shared->Prop}
def TrC(h base:Heap)(e:Addr)(cls a0 c fl:Value):Prop:=
 ∃oe vs T oT ts,h.get? e=some oe/\oe.cls=cls/\vs[0]?=some a0/\oe.data=.fields vs/\vs[1]?=some (.ref T)/\base.get? T=none/\T≠e/\h.get? T=some oT/\oT.data=.fields ts/\ts[3]?=some fl/\vs[2]?=some c
theorem TrC.at{h:Heap}(x:TrC h base e cls a0 c fl):h.TracedAtW base e cls a0 fl:=by
 obtain⟨oe,vs,T,oT,ts,h1,h2,h3,h4,h5,h6,h7,h8,h9,h10,_⟩:=x
 exact⟨oe,vs,T,oT,ts,h1,⟨h2,h3⟩,h4,h5,h6,h7,h8,h9,h10⟩
theorem aeD{oe:Obj}{vs:Array Value}{head:Value}{hn:Bool}(hfr:A.frames=some (env::outer))(hl:s.heap.FunFrames base (env::outer))(hf:env.frame=some L)
  (he:s.heap.get? e=some oe)(hkb:base.StaysIn s.heap)(hen:base.get? e=none)(hd:oe.data=.fields vs)(hsz:1<vs.size)(h0:vs[0]?=some a0)(h2:vs[2]?=some c)
  (h:∀h',base.StaysIn h'->h'.FunFrames base (env::outer)->TrC h' base e oe.cls a0 c (rawInt L)->s.heap.UpToSlots h'->Q () {s with heap:=h'}):
  wpAny M A ((frameOf env)>>=fun a=>(entryPlaceOf L hn)>>=fun pl=>(EntryCells.newEntry head a .none (rawInt L) .none pl)>>=fun b=>setField (.ref e) 1 b) Q E s:=by
 have ne:e∉(env::outer).filterMap (·.frame):=fun hm=>by
  obtain⟨_,o,ho,nf⟩:=hl.mem hm
  rw[he]at ho
  cases ho
  exact nf vs hd
 refine wpAny_bind (wpAny_frameOf_fun hfr hl hf fun k hk=>wpAny_bind (wpAny_entryPlaceOf fun pl hp=>?_))
 unfold EntryCells.newEntry newFields
 refine wpAny_bind (wpAny_newObj_type ?_ (hp.sizeOk5 _ _ _ _ _))
 generalize hts:([head,.ref L,.none,rawInt L,.none]++(if pl.isEmpty then List.replicate 6 Value.none else pl)).toArray=ts
 have t3:ts[3]?=some (rawInt L):=by rw[<-hts];simp
 have he1:k.get? e=some oe:=(hk.2.1 e ne).trans he
 have kb:base.StaysIn k:=fun b o z=>(hk.2.1 b fun hm=>by rw[(hl.mem hm).1]at z;cases z).trans (hkb b o z)
 generalize htb:({cls:=.type "traceback",dict:=none,data:=.fields ts}:Obj)=tb
 have dtb:tb.data=.fields ts:=by rw[<-htb]
 have ftb:tb.isFreed=false:=Obj.isFreed_of_fields dtb
 have he2:=Heap.get?_push_of_some (h:=k) tb he1
 have nT:k.objs.size≠e:=Nat.ne_of_gt (Heap.lt_size he1)
 have hT:=Heap.get?_push_size k ftb
 refine wpAny_setField he2 hd hsz ?_
 have d3:=Obj.data_mapFields hd (·.setIfInBounds 1 (Value.ref k.objs.size))
 have he3:=Heap.get?_update_self (Obj.mapFields (·.setIfInBounds 1 (Value.ref k.objs.size))) he2 (Obj.isFreed_of_fields d3)
 have hT3:=(Heap.get?_update_other (k.push tb) (Obj.mapFields (·.setIfInBounds 1 (Value.ref k.objs.size))) (Ne.symm nT)).trans hT
 have keep:∀b o,b≠e->k.get? b=some o->((k.push tb).update e (Obj.mapFields (·.setIfInBounds 1 (Value.ref k.objs.size)))).get? b=some o:=fun b o nb z=>by
  rw[Heap.get?_update_other _ _ (Ne.symm nb)]
  exact Heap.get?_push_of_some _ z
 generalize(k.push tb).update e (Obj.mapFields (·.setIfInBounds 1 (Value.ref k.objs.size)))=h' at he3 hT3 keep|-
 have nr:∀b o,s.heap.get? b=some o->(∀vs,o.data≠.fields vs)->b≠e:=fun b o z nf q=>by
  rw[q,he]at z
  cases z
  exact nf vs hd
 refine h h' (fun b o z=>keep b o (fun q=>by rw[q,hen]at z;cases z) (kb b o z)) (hl.of_keeps fun b o z nf=>?_) ?_ fun b o z nf=>?_
 ·obtain⟨sl,q⟩:=hk.2.2 b o z
  exact⟨_,keep b _ (nr b o z nf) q,rfl⟩
 ·exact⟨_,_,k.objs.size,tb,ts,he3,Obj.cls_mapFields _ _,by rw[Array.getElem?_setIfInBounds_ne `B];exact h0,d3,by simp[hsz],kb.fresh,nT,hT3,dtb,t3,by rw[Array.getElem?_setIfInBounds_ne `B];exact h2⟩
 ·obtain⟨sl,q⟩:=hk.2.2 b o z
  exact⟨sl,keep b _ (nr b o z nf) q⟩
theorem CV{fr:Option Addr}(hkb:base.StaysIn s.heap)(hl:s.heap.FunFrames base l)(ht:TrC s.heap base e cls a0 c fl)
  (h:∀h',base.StaysIn h'->h'.FunFrames base l->TrC h' base e cls a0 c (fr.elim .none fun f=>rawInt f)->s.heap.UpToSlots h'->Q () {s with heap:=h'}):wpAny M A (setFlight (.ref e) fr) Q E s:=by
 obtain⟨oe,vs,T,oT,ts,h1,h2,h3,h4,h5,h6,h7,h8,h9,h10,h11⟩:=ht
 have z3:3<ts.size:=(Array.getElem?_eq_some_iff.mp h10).1
 unfold setFlight
 refine wpAny_bind (wpAny_field h1 h4 h5 ?_)
 rw[if_pos `H]
 refine wpAny_setField h8 h9 z3 ?_
 have d:=Obj.data_mapFields h9 (·.setIfInBounds 3 (fr.elim Value.none fun f=>rawInt f))
 have hT:=Heap.get?_update_self (Obj.mapFields (·.setIfInBounds 3 (fr.elim Value.none fun f=>rawInt f))) h8 (Obj.isFreed_of_fields d)
 have other:∀b,b≠T->(s.heap.update T (Obj.mapFields (·.setIfInBounds 3 (fr.elim Value.none fun f=>rawInt f)))).get? b=s.heap.get? b:=fun b nb=>Heap.get?_update_other _ _ (Ne.symm nb)
 generalize s.heap.update T (Obj.mapFields (·.setIfInBounds 3 (fr.elim Value.none fun f=>rawInt f)))=h' at hT other|-
 have nr:∀b o,s.heap.get? b=some o->(∀vs,o.data≠.fields vs)->b≠T:=fun b o z nf q=>by
  rw[q,h8]at z
  cases z
  exact nf ts h9
 refine h h' (fun b o z=>(other b fun q=>by rw[q,h6]at z;cases z).trans (hkb b o z)) (hl.of_keeps fun b o z nf=>⟨o,(other b (nr b o z nf)).trans z,rfl⟩) ?_ fun b o z nf=>⟨o.slots,(other b (nr b o z nf)).trans z⟩
 exact⟨oe,vs,T,_,_,(other e (Ne.symm h7)).trans h1,h2,h3,h4,h5,h6,h7,hT,d,by simp[z3],h11⟩
theorem aeB{oe:Obj}{vs:Array Value}(hfr:A.frames=some (env::outer))(hl:s.heap.FunFrames base (env::outer))(hf:env.frame=some L)
  (he:s.heap.get? e=some oe)(hkb:base.StaysIn s.heap)(hen:base.get? e=none)(hd:oe.data=.fields vs)(h1:vs[1]?=some .none)(h0:vs[0]?=some a0)(h2:vs[2]?=some c)
  (h:∀h',base.StaysIn h'->h'.FunFrames base (env::outer)->TrC h' base e oe.cls a0 c (rawInt L)->s.heap.UpToSlots h'->Q () {s with heap:=h'}):wpAny M A (noteFrame (.ref e) env) Q E s:=by
 unfold noteFrame
 simp only[hf]
 refine wpAny_bind (wpAny_field he hd h1 ?_)
 rw[if_neg `B]
 exact aeD hfr hl hf he hkb hen hd (Array.getElem?_eq_some_iff.mp h1).1 h0 h2 h
theorem ajW(hfr:A.frames=some (env::outer))(hl:s.heap.FunFrames base (env::outer))(hf:env.frame=some L)(ht:TrC s.heap base e cls a0 c .none)(hkb:base.StaysIn s.heap)(hen:base.get? e=none)
  (h:∀h',base.StaysIn h'->h'.FunFrames base (env::outer)->TrC h' base e cls a0 c (rawInt L)->s.heap.UpToSlots h'->Q () {s with heap:=h'}):wpAny M A (noteFrame (.ref e) env) Q E s:=by
 obtain⟨oe,vs,T,oT,ts,h1,h2,h3,h4,h5,h6,h7,h8,h9,h10,h11⟩:=ht
 subst h2
 have z3:3<ts.size:=(Array.getElem?_eq_some_iff.mp h10).1
 unfold noteFrame
 simp only[hf]
 refine wpAny_bind (wpAny_field h1 h4 h5 ?_)
 rw[if_pos `H]
 refine wpAny_bind (wpAny_field h8 h9 h10 ?_)
 rw[if_neg (by simp[rawInt])]
 refine wpAny_bind (wpAny_setField h8 h9 z3 ?_)
 have other:∀b,b≠T->(s.heap.update T (Obj.mapFields (·.setIfInBounds 3 Value.none))).get? b=s.heap.get? b:=fun b nb=>Heap.get?_update_other _ _ (Ne.symm nb)
 have nr:∀b o,s.heap.get? b=some o->(∀vs,o.data≠.fields vs)->b≠T:=fun b o z nf q=>by
  rw[q,h8]at z
  cases z
  exact nf ts h9
 generalize s.heap.update T (Obj.mapFields (·.setIfInBounds 3 Value.none))=k at other|-
 refine aeD (s:={s with heap:=k}) hfr (hl.of_keeps fun b o z nf=>⟨o,(other b (nr b o z nf)).trans z,rfl⟩) hf ((other e (Ne.symm h7)).trans h1) (fun b o z=>(other b fun q=>by rw[q,h6]at z;cases z).trans (hkb b o z)) hen h4 (Array.getElem?_eq_some_iff.mp h5).1 h3 h11 fun h' k1 k2 k3 k4=>h h' k1 k2 k3 fun b o z nf=>k4 b o ((other b (nr b o z nf)).trans z) nf
end
theorem ZC:entryFor table "proto.unchain"=some Builtin.«proto.unchain»:=entryFor_of_tree (by kernel_rfl)
section
variable{P:Program}{w:World}{A:Around}{E:`T}{s:Shared}{a e:Addr}
theorem ae7{o:Obj}{vs:Array Value}{Q:`T}(ho:s.heap.get? a=some o)(hd:o.data=.fields vs)(h2:vs[2]?=some .none)(h:Q .none s):
  wpAny (model P w) A (runValue (.builtin "proto.unchain" ⟨[.ref e,`G,`G,.bool false],[]⟩)) Q E s:=by
 refine wpAny_runValue (codeAny_of_tree ?_)
 have hden:(model P w).den (.builtin "proto.unchain" ⟨[.ref e,`G,`G,.bool false],[]⟩)=Builtin.«proto.unchain» ⟨[.ref e,`G,`G,.bool false],[]⟩:=by
  show(match entryFor table "proto.unchain"with|some b=>b ⟨[.ref e,`G,`G,.bool false],[]⟩|none=>unsupported ((withoutEnding? "proto.unchain" "#data").getD "proto.unchain"))=_
  rw[ZC]
 rw[hden]
 unfold Builtin.«proto.unchain»
 refine wpAny_bind (wpAny_field ho hd h2 ?_)
 rw[if_pos (by rfl)]
 exact wpAny_pure h
theorem adW{α:Type}{o oe:Obj}{vs ve:Array Value}{Q:α->Shared->Prop}(hh:A.handled=some `G)(ne:a≠e)(ho:s.heap.get? a=some o)(hd:o.data=.fields vs)(h2:vs[2]?=some .none)(he:s.heap.get? e=some oe)(hde:oe.data=.fields ve)(hs:2<ve.size)
  (h:E (.ref e) {s with heap:=s.heap.update e (Obj.mapFields (·.setIfInBounds 2 `G))}):wpAny (model P w) A (raiseNew (.ref e):Sem α) Q E s:=by
 unfold raiseNew
 refine wpAny_bind (wpAny_handled ?_)
 rw[hh]
 dsimp only
 rw[if_pos (by simpa using ne)]
 refine wpAny_bind (wpAny_holding (ae7 ho hd h2 ?_))
 refine wpAny_bind (wpAny_setField (a:=e) (i:=2) (x:=`G) he hde hs (wpAny_throw h))
end
theorem ac8{X:Cx}{pins:`Q}{σ:Sg}{H:Hp}{s:Shared}{x:Str}{C a:Addr}{B newId initId:String}{bmB:`M}{np cpos cp pos:Pos}{kk:Nat}{o:Obj}{vs:Array Value}{Q:Flow->Shared->Prop}{E:`T}
  (I:`J)(FB:ExcBaseFacts B newId initId bmB)(q:W.excIn X.K C bmB newId=true)(hk:W.keepIn X.K (.ref C)=true)(hg:Gl X x)(hm:X.mg x=some (.ref C))(hh:X.A.handled=some `G)
  (ho:s.heap.get? a=some o)(hdo:o.data=.fields vs)(h2:vs[2]?=some .none)
  (h:∀h' e t,(∀b o,s.heap.get? b=some o->h'.get? b=some o)->s.heap.get? e=none->h'.get? e=some {cls:=.ref C,data:=.fields #[.ref t,.none,`G,.none,.bool true,.none]}->E (.ref e) {s with heap:=h'})
  (hd:`k:=by decide):
  wpAny `X X.A (exec (.Raise (some (.Call (.Name x np) [] [] cpos)) (some (.Constant .none kk cp)) pos) X.env) Q E s:=by
 rw[arm_exec_Raise]
 refine wpAny_bind (wpAny_standAt ?_)
 show wpAny _ _ (raiseStmt X.env (some (do let v<-eval (.Call (.Name x np) [] [] cpos) X.env;standAt pos;pure v)) (some (do let v<-eval (.Constant .none kk cp) X.env;standAt pos;pure v))) _ _ s
 unfold raiseStmt
 refine wpAny_bind (wpAny_bind (wpAny_Call_Name_kw (ld_glob I hg hm ?_ hd)))
 refine W.callWith_K0 I.kIn hk ?_
 obtain⟨tl,Nn,nm,qq,bs,hdc,sn,sb,ab,cl,dd,k0,k1,k2,k3,k5,mN,hC,hN,hni,T⟩:=M9 I.kIn q
 obtain⟨hp,g,d,tk,os⟩:=s
 refine wpAny_call_exc_subT FB T hC hN hni fun h' e hx=>?_
 refine wpAny_bind (wpAny_standAt (wpAny_pure ?_))
 obtain⟨t,he,htn,ht⟩:=hx.there
 have hC':=hx.keeps _ _ hC
 have hcB:(Value.ref C::tl).contains (.type "BaseException")=true:=by rw[List.contains_cons,T.hasType FB.hasBase,Bool.or_true]
 have ho':=hx.keeps _ _ ho
 have ne:a≠e:=fun z=>by rw[z,hx.new]at ho;cases ho
 repeat(first|with_reducible refine wpAny_loadPart_at he ?_|with_reducible refine wpAny_loadPart_at hC' ?_|(with_reducible refine wpAny_isSubtype_exc hC' ?_;rw[hcB])|wp_step)
 have neC:C≠e:=fun z=>by have:=hx.new;rw[<-z]at this;rw[this]at hC;cases hC
 have d3:=Obj.data_mapFields (o:={cls:=.ref C,data:=.fields #[.ref t,.none,.none,.none,.bool false,.none]}) rfl (·.setIfInBounds 3 Value.none)
 have e3:=Heap.get?_update_self (Obj.mapFields (·.setIfInBounds 3 Value.none)) he (Obj.isFreed_of_fields d3)
 have d4:=Obj.data_mapFields d3 (·.setIfInBounds 4 (Value.bool true))
 have e4:=Heap.get?_update_self (Obj.mapFields (·.setIfInBounds 4 (Value.bool true))) e3 (Obj.isFreed_of_fields d4)
 have oth:∀b,b≠e->((h'.update e (Obj.mapFields (·.setIfInBounds 3 Value.none))).update e (Obj.mapFields (·.setIfInBounds 4 (Value.bool true)))).get? b=h'.get? b:=fun b nb=>by
  rw[Heap.get?_update_other _ _ (Ne.symm nb),Heap.get?_update_other _ _ (Ne.symm nb)]
 have hC4:=(oth C neC).trans hC'
 have ho4:=(oth a ne).trans ho'
 have keep:∀b o,hp.get? b=some o->((h'.update e (Obj.mapFields (·.setIfInBounds 3 Value.none))).update e (Obj.mapFields (·.setIfInBounds 4 (Value.bool true)))).get? b=some o:=fun b o z=>(oth b fun y=>by rw[y,hx.new]at z;cases z).trans (hx.keeps b o z)
 generalize(h'.update e (Obj.mapFields (·.setIfInBounds 3 Value.none))).update e (Obj.mapFields (·.setIfInBounds 4 (Value.bool true)))=h4 at e4 hC4 ho4 keep|-
 have e5:h4.get? e=some {cls:=.ref C,data:=.fields #[.ref t,.none,.none,.none,.bool true,.none]}:=e4
 repeat(first|with_reducible refine wpAny_loadPart_at e5 ?_|with_reducible refine wpAny_loadPart_at hC4 ?_|wp_step)
 have d6:=Obj.data_mapFields (o:={cls:=.ref C,data:=.fields #[.ref t,.none,.none,.none,.bool true,.none]}) rfl (·.setIfInBounds 2 (Value.ref a))
 have e6:=Heap.get?_update_self (Obj.mapFields (·.setIfInBounds 2 (Value.ref a))) e5 (Obj.isFreed_of_fields d6)
 exact adW hh ne ho4 hdo h2 e5 rfl (by show 2<6;decide) (h _ e t (fun b o z=>(Heap.get?_update_other _ _ (fun y=>by rw[<-y,hx.new]at z;cases z)).trans (keep b o z)) hx.new e6)
def CXC(P:Program)(w:World):CXT:=fun outer H s E e s'=>∃(a C:Addr)(H':Hp)(B:Heap),e=`G/\E (.ref C) none H'/\Fly P w outer H s H' B a C s'/\∃t,B.StaysIn s'.heap/\B.get? a=none/\s'.heap.FunFrames B outer/\TrC s'.heap B a (.ref C) t .none .none
section
variable{P:Program}{w:World}{K:W.Frag}{mg:`U}{base:Heap}{N:List Str}{qual:Str}{scope:Scope}{f:Addr}{cd:Value}{A:Around}{outer:List Env}{s₀:Shared}{H₀:Hp}{E:XK}{CX:CXT}
theorem aeA{pins:`Q}{σ:Sg}{H:Hp}{s:Shared}{h':Heap}{e C:Addr}{t:Value}(I:Inv (cxOf CX P w K mg base N qual scope f cd A outer s₀ H₀ E) pins σ H s)(hn:s.heap.get? e=none)
  (F1:Heap.FlyingW (W.hideAll s.heap (frs (cxOf CX P w K mg base N qual scope f cd A outer s₀ H₀ E).stack)) outer e (.ref C) t h')(F4:s.heap.UpToSlots h'):
  Fly P w outer H₀ s₀ H (W.hideAll s.heap (frs (cxOf CX P w K mg base N qual scope f cd A outer s₀ H₀ E).stack)) e C {s with heap:=h'}:=by
 generalize hX:cxOf CX P w K mg base N qual scope f cd A outer s₀ H₀ E=X at I F1|-
 have e0:X.s₀=s₀:=by rw[<-hX];rfl
 have eH:X.H₀=H₀:=by rw[<-hX];rfl
 have eO:X.outer=outer:=by rw[<-hX];rfl
 have eX:X.ex=[]:=by rw[<-hX];rfl
 have eP:X.prog=P:=by rw[<-hX];rfl
 have eW:X.w=w:=by rw[<-hX];rfl
 have zZ:∀b o,s₀.heap.get? b=some o->b∉frs outer->b∉frs X.stack:=fun b o e1 hb z=>by
  rcases List.mem_cons.mp (I.stkSub b z)with e2|e2
  ·have:=Nat.lt_of_lt_of_le (Heap.lt_size (e0▸e1)) I.ok.above
   rw[e2]at this
   exact absurd this (Nat.lt_irrefl _)
  ·exact hb (by rw[<-eO];exact e2)
 have nex:∀b:Addr,b∉X.ex:=fun b z=>by rw[eX]at z;simp at z
 have ub:Un (frs outer) X.ex H₀ H s₀.heap s.heap:=by
  have:=I.base
  rw[e0,eH]at this
  unfold Cx.fs at this
  rw[eO]at this
  exact this
 have tf:∀b u,H b=some u->b∉frs X.stack:=fun b u e1 z=>by
  rw[I.stkFree b z]at e1;cases e1
 refine⟨I.os.trans (by rw[e0]),I.bare,⟨_,F1⟩,fun b o e1 n hb=>?_,fun b o e1 hb=>?_,fun b o e1 n=>ub.free b o e1 n (nex b),fun b o e1 hb=>?_,ub.tups,ub.frzs,ub.tbls,fun b u e1=>?_,?_,?_⟩
 ·exact W.hideAll_get _ (ub.keep b o e1 n hb (nex b)) (zZ b o e1 hb)
 ·have hb':b∈X.fs:=by unfold Cx.fs;rw[eO];exact hb
  have n:H₀ b=none:=by rw[<-eH];exact I.ok.frf b hb'
  obtain⟨s1,q1⟩:=ub.slot b o e1 n hb (nex b)
  obtain⟨_,o2,q2,nf⟩:=I.ok.funs.mem hb'
  rw[e0,e1]at q2
  cases q2
  obtain⟨s2,q4⟩:=F4 b _ q1 nf
  exact⟨s2,q4⟩
 ·obtain⟨o',q1⟩:=ub.there b o e1 (nex b)
  exact⟨o',W.hideAll_get _ q1 (zZ b o e1 hb)⟩
 ·have q:=I.hok b u e1
  rw[eP,eW]at q
  refine q.stay (fun c v hc q1=>W.hideAll_get _ q1 ?_) (fun _ z=>z) fun _ _ z=>z
  rcases hc with z|z
  ·rw[z];exact tf b u e1
  ·exact tf c _ z
 ·cases e1:H e with
  |none=>rfl
  |some u=>
   obtain⟨ob,q1⟩:=Kr (I.hok e u e1)
   rw[hn]at q1;cases q1
 ·cases e1:s₀.heap.get? e with
  |none=>rfl
  |some o=>
   obtain⟨o',q1⟩:=ub.there e o e1 (nex e)
   rw[hn]at q1;cases q1
theorem ab8{pins:`Q}{σ:Sg}{H:Hp}{s:Shared}{h':Heap}{e C:Addr}(I:Inv (cxOf (CXC P w) P w K mg base N qual scope f cd A outer s₀ H₀ E) pins σ H s)
  (hx:Heap.MadeExcOf s.heap h' e (.ref C) [])(hE:E (.ref C) none H):(cxOf (CXC P w) P w K mg base N qual scope f cd A outer s₀ H₀ E).xe (.ref e) {s with heap:=h'}:=by
 have mk:=fun h'' t F1 F4=>aeA (h':=h'') (e:=e) (C:=C) (t:=t) I hx.new F1 F4
 generalize hX:cxOf (CXC P w) P w K mg base N qual scope f cd A outer s₀ H₀ E=X at I mk|-
 have eS:X.stack=X.env::outer:=by rw[<-hX];rfl
 have eF:X.env.frame=some X.env.locals:=by rw[<-hX];rfl
 have exe:X.xe=fun e s'=>wpAny (model P w) X.A (leaving X.env e) (fun _ s''=>CXC P w outer H₀ s₀ E e s'') (fun e' s''=>CXC P w outer H₀ s₀ E e' s'') s':=by rw[<-hX];rfl
 rw[exe]
 obtain⟨t,he,htn,ht⟩:=hx.there
 have ff:s.heap.FunFrames (W.hideAll s.heap (frs X.stack)) (X.env::outer):=by
  rw[<-eS]
  exact W.funFrames_hide I.stack fun ev hev a ha=>List.mem_filterMap.mpr ⟨ev,hev,ha⟩
 have st:(W.hideAll s.heap (frs X.stack)).StaysIn h':=fun b o z=>hx.keeps b o (W.of_hideAll _ z)
 have nb:(W.hideAll s.heap (frs X.stack)).get? e=none:=by
  cases q:(W.hideAll s.heap (frs X.stack)).get? e with
  |none=>rfl
  |some o=>have:=W.of_hideAll _ q;rw[hx.new]at this;cases this
 unfold leaving
 refine wpAny_bind (aeB (a0:=.ref t) (c:=.none) (by rw[I.ok.frames,eS]) (ff.of_keeps fun b o z _=>⟨o,hx.keeps b o z,rfl⟩) eF he st nb rfl rfl rfl rfl fun h1 st1 ff1 tr1 up1=>?_)
 refine CV (fr:=none) st1 ff1 tr1 fun h2 st2 ff2 tr2 up2=>?_
 exact⟨e,C,H,_,rfl,hE,mk h2 (.ref t) ⟨st2,nb,ff2.2.2,tr2.at⟩ (((Heap.UpToSlots.of_keeps hx.keeps).trans up1).trans up2),_,st2,nb,ff2.2.2,tr2⟩
theorem Hr{x:Str}{C:Addr}{B newId initId:String}{bmB:`M}{np cpos pos:Pos}(FB:ExcBaseFacts B newId initId bmB)(q:W.excIn K C bmB newId=true)
  (hg:Gl (cxOf (CXC P w) P w K mg base N qual scope f cd A outer s₀ H₀ E) x)(hm:mg x=some (.ref C))(hd:`k:=by decide):
  PS (cxOf (CXC P w) P w K mg base N qual scope f cd A outer s₀ H₀ E) (.Raise (some (.Call (.Name x np) [] [] cpos)) none pos) (Vu C E):=by
 intro pins s σ H D I h
 obtain⟨tl,Nn,nm,qq,bs,hdc,sn,sb,ab,cl,dd,k0,k1,k2,k3,k5,mN,hC,hN,hni,T⟩:=M9 I.kIn q
 refine wpAny_Raise_call_subT (C:=C) (N:=Nn) (nm:=nm) (q:=qq) (bs:=bs) (bm:=tl) (sn:=sn) (hdct:=hdc) (sub:=sb) (col:=cl) (ab:=ab) (dd:=dd) (k5:=k5) (k3:=k3) (k2:=k2) (k1:=k1) (k0:=k0) FB (mN:=mN) (T.hasType FB.hasBase) (I.ok.hd rfl) rfl hni (ld_glob I hg hm ⟨rfl,?_⟩ hd)
 exact evalArgs_empty ⟨rfl,`R,hC,hN,T,fun h' e hx=>ab8 I hx h⟩
end
theorem okC{P:Program}{w:World}{K:W.Frag}{mg:`U}{base:Heap}{x qual:Str}{st:Stmt}{f:Addr}{fd:FuncData}{N ps:List Str}{k:Nat}{sp:Sp}(F:Fun K x qual st f fd)(S:FnScope N ps (defScope st))(len:∀vs H Q E,sp vs H Q E->vs.length=ps.length)
  (hb:∀(cdv:Value)(A:Around)(outer:List Env)(s:Shared)(H:Hp)(vs:`F)(Q:VK)(E:XK),Room k (A.deeper (envOfC qual (defScope st) s.heap.objs.size f cdv))->sp vs H Q E->
   ∃t,PSs (cxOf (CXC P w) P w K mg base N qual (defScope st) f cdv A outer s H E) (defBody st) t/\t {nx:=fun _ H'=>Q .non H',rt:=Q} (start N vs) H):FnOk P w K mg base (CXC P w) (k+1) f fd ps sp:=by
 obtain⟨oc,od,kV,doc,pm,an,cdv,ct,osl,e,lk,hcd⟩:=F.ex
 subst e
 exact fn_of lk hcd S len fun A outer s H vs Q E hr hsp=>hb cdv A outer s H vs Q E hr hsp
section
variable{P:Program}{w:World}{K:W.Frag}{mg:`U}{base:Heap}{N:List Str}{qual:Str}{scope:Scope}{f:Addr}{cd:Value}{A:Around}{outer:List Env}{s₀:Shared}{H₀:Hp}{E:XK}
def ac1(K:W.Frag)(D0 C2:Addr)(E:XK):XK:=fun cls _ H2=>∃C,cls=.ref C/\W.subIn K (.ref C) (.ref D0)=some true/\∀a,H2 a=none->E (.ref C2) none (upd H2 a (XO a C))
theorem abD{xB x2:Str}{D0 C2:Addr}{B newId initId:String}{bmB:`M}{body:List Stmt}{ts:TS}{np np2 cpos cp rpos hp Ws:Pos}{kk:Nat}
  (hb:∀EE,Passes (CXC P w) ((`f).wish EE) (ac1 K D0 C2 E)->QSs ((`f).wish EE) body ts)
  (hgB:Gl `f xB)(hmB:mg xB=some (.ref D0))(h1:W.typeIn K (.ref D0)=some (.type "type"))(h2:W.subIn K (.ref D0) (.type "BaseException")=some true)(hD:∃cd,W.clsIn K D0=some cd)
  (FB:ExcBaseFacts B newId initId bmB)(q:W.excIn K C2 bmB newId=true)(hk:W.keepIn K (.ref C2)=true)(hg:Gl `f x2)(hm:mg x2=some (.ref C2))
  (hdB:(xB==("__debug__":Str))=false:=by decide)(hd2:(x2==("__debug__":Str))=false:=by decide):
  PS `f (.Try body [.ExceptHandler (some (.Name xB np)) none [.Raise (some (.Call (.Name x2 np2) [] [] cpos)) (some (.Constant .none kk cp)) rpos] hp] [] [] Ws) ts:=by
 have mk:=fun(pins:List (Addr×Obj))(σ:Sg)(H:Hp)(s:Shared)(h':Heap)(e C:Addr)(t:Value)I hn F1 F4=>aeA (CX:=CXE P w) (P:=P) (w:=w) (K:=K) (mg:=mg) (base:=base) (N:=N) (qual:=qual) (scope:=scope) (f:=f) (cd:=cd) (A:=A) (outer:=outer) (s₀:=s₀) (H₀:=H₀) (E:=E) (pins:=pins) (σ:=σ) (H:=H) (s:=s) (h':=h') (e:=e) (C:=C) (t:=t) I hn F1 F4
 have exe:(`f).xe=fun e s'=>wpAny (model P w) (`f).A (leaving (`f).env e) (fun _ s''=>CXE P w outer H₀ s₀ E e s'') (fun e' s''=>CXE P w outer H₀ s₀ E e' s'') s':=rfl
 have eS:(`f).stack=(`f).env::outer:=rfl
 have eF:(`f).env.frame=some (`f).env.locals:=rfl
 have eP:(`f).prog=P:=rfl
 have eW:(`f).w=w:=rfl
 have eK:(`f).K=K:=rfl
 have eM:(`f).mg=mg:=rfl
 generalize `f=X at*
 subst eP eW eK eM
 intro pins s σ H D I h
 refine wpAny_Try_except ?_
 generalize hEE:(fun(e:Value)(s₁:Shared)=>wpAny `X X.A (noteFrame e X.env) (fun _ s₂=>wpAny `X X.A (setFlight e none) (fun _ s₃=>wpAny `X X.A (handleBy e X.env [.ExceptHandler (some (.Name xB np)) none [.Raise (some (.Call (.Name x2 np2) [] [] cpos)) (some (.Constant .none kk cp)) rpos] hp]) (SP X pins D) X.xe s₃) X.xe s₂) X.xe s₁)=EE
 have pass:Passes (CXC X.prog X.w) (X.wish EE) (ac1 X.K D0 C2 E):=by
  intro aq7 σ1 H1 s1 ev s' I1 hq
  have I1:=I1.unwish
  obtain⟨a,C,H2,B1,rfl,⟨C',eC,hsub,hE⟩,Fl,t0,st,nb,ff,tr⟩:=hq
  cases eC
  show EE `G s'
  rw[<-hEE]
  have ff:s'.heap.FunFrames B1 (X.env::outer):=eS▸ff
  refine ajW (by rw[I.ok.frames,eS]) ff eF tr st nb fun h4 st4 ff4 tr4 up4=>?_
  refine CV (fr:=none) st4 ff4 tr4 fun h5 st5 ff5 tr5 up5=>?_
  have fl5:Heap.FlyingW B1 X.stack a (.ref C) t0 h5:=⟨st5,nb,eS▸ff5,tr5.at⟩
  have I5:=Fl.inv I1 fl5 (up4.trans up5)
  obtain⟨oe,q1,q2⟩:=fl5.there
  refine wpAny_handleBy_cons (codeAny_handlers_test (ld_glob (X:=hX X a) (Pq I5 a) hgB hmB ?_ hdB)) (by intro z;cases z)
  refine Uu I5.kIn q1 q2 h1 h2 hsub hD (codeAny_handlers_suite ?_)
  refine CV (fr:=none) st5 ff5 tr5 fun h6 st6 ff6 tr6 up6=>?_
  have fl6:Heap.FlyingW B1 X.stack a (.ref C) t0 h6:=⟨st6,nb,eS▸ff6,tr6.at⟩
  have I6:=Fl.inv I1 fl6 (up4.trans (up5.trans up6))
  obtain⟨oa,va,T,oT,tsT,g1,g2,g3,g4,g5,g6,g7,g8,g9,g10,g11⟩:=tr6
  refine wpAny_execs_cons (ac8 (X:=hX X a) (Pq I6 a) FB q hk hg hm rfl g1 g4 g11 (fun h7 e t keep new he=>?_) hd2)
  have new:h6.get? e=none:=new
  have ffs:h6.FunFrames (W.hideAll h6 (frs X.stack)) (X.env::outer):=by
   rw[<-eS]
   exact W.funFrames_hide I6.stack fun ev hev a ha=>List.mem_filterMap.mpr ⟨ev,hev,ha⟩
  have nb7:(W.hideAll h6 (frs X.stack)).get? e=none:=by
   cases z:(W.hideAll h6 (frs X.stack)).get? e with
   |none=>rfl
   |some o=>have:=W.of_hideAll _ z;rw[new]at this;cases this
  refine aeB (base:=W.hideAll h6 (frs X.stack)) (a0:=.ref t) (c:=`G) (by show X.A.frames=_;rw[I.ok.frames,eS]) (ffs.of_keeps fun b o z _=>⟨o,keep b o z,rfl⟩) eF he (fun b o z=>keep b o (W.of_hideAll _ z)) nb7 rfl rfl rfl rfl fun h8 st8 ff8 tr8 up8=>?_
  obtain⟨ob,vb,Tb,oTb,tb,k1,k2,k3,k4,k5,k6,k7,k8,k9,k10,k11⟩:=id tr8
  refine wpAny_bind (wpAny_field k1 k4 k5 ?_)
  rw[if_neg `H]
  refine CV (fr:=X.env.frame) st8 ff8 tr8 fun h9 st9 ff9 tr9 up9=>?_
  rw[eF]at tr9
  rw[exe]
  unfold leaving
  refine wpAny_bind (wpAny_noteFrame_againW eF tr9.at ?_)
  refine CV (fr:=none) st9 ff9 tr9 fun h10 amd apv al_ al3=>?_
  have fm:=mk _ _ _ {s' with heap:=h6} h10 e C2 (.ref t) I6 new ⟨amd,nb7,apv.2.2,al_.at⟩ ((((Heap.UpToSlots.of_keeps keep).trans up8).trans up9).trans al3)
  exact⟨e,C2,_,_,rfl,hE a Fl.new,fm⟩
 refine thn ((hb EE pass).run pins s σ H D (I.wish EE) h) fun f s1 hsp=>?_
 cases f with
 |next=>
  obtain⟨σ',H',I',q⟩:=hsp
  exact wpAny_execs_nil ⟨σ',H',I'.unwish,q⟩
 |brk=>
  obtain⟨σ',H',I',q⟩:=hsp
  exact⟨σ',H',I'.unwish,q⟩
 |cont=>
  obtain⟨σ',H',I',q⟩:=hsp
  exact⟨σ',H',I'.unwish,q⟩
 |ret u=>
  obtain⟨v,σ',H',I',q⟩:=hsp
  exact⟨v,σ',H',I'.unwish,q⟩
end
section
variable{X:Cx}{o e value:Expr}{f:Str}{pos pos':Pos}{ta tv:TE}
theorem bh(he:QE X e ta)(hb:attributeBase e f X.env (eval e X.env)=eval e X.env):QE X (.Attribute e f pos) (tFld X.K ta f):=⟨pe_fld he.run hb⟩
theorem cM(ha:QE X o ta)(hv:QE X value tv)(hs:swapsWith value (some (.Attribute o f pos')) pos.line X.env=pure false):QS X (.Assign [.Attribute o f pos'] value pos) (sFld X.K ta tv f):=⟨ps_fld ha.run hv.run hs⟩
end
section
variable{X:Cx}{CX:CXT}{k:Nat}{f C:Addr}{fd:FuncData}{ps:List Str}{sp:Sp}{dvs:`F}{ds:`M}{E:XK}{m x:Str}{p apos pos:Pos}{o e:Expr}{es:List Expr}{ta:TE}{t:TA}
theorem uw{pl:Sem Bool}(he:QE X o ta)(c:Cls X.K C)(hm:Meth X.K C m f)(F:FnOk X.prog X.w X.K X.mg X.base CX k f fd ps sp)(hr:Room k X.A)(hb:Binds X.K fd ps ds)(hd:Vals dvs ds)(hx:Passes CX X E)(ha:QA X (e::es) t)
  (hst:`n:=by rfl)(hpl:(backTo pos (starEach es X.env)).any (·.1)=false:=by rfl)
  (ht:eval (.Call (.Attribute o m apos) (e::es) [] pos) X.env=(do
   let ov<-eval o X.env
   standAt apos.atName
   let(f,first)<-holding [ov] (getMethod ov m pl)
   callWith pos f first (backTo pos (starEach (e::es) X.env)) (backToKw pos (keywordEach [] X.env))):=by rfl):QE X (.Call (.Attribute o m apos) (e::es) [] pos) (tMeth C m sp dvs E ta t):=⟨pe_meth (pl:=pl) he.run c hm F hr hb hd hx ha.run hst hpl ht⟩
theorem gM{pl:Sem Bool}(he:QE X o ta)(c:Cls X.K C)(hm:Meth X.K C m f)(F:FnOk X.prog X.w X.K X.mg X.base CX k f fd ps sp)(hr:Room k X.A)(hb:Binds X.K fd ps ds)(hd:Vals dvs ds)(hx:Passes CX X E)
  (ht:eval (.Call (.Attribute o m apos) [] [] pos) X.env=(do
   let ov<-eval o X.env
   standAt apos.atName
   let(f,first)<-holding [ov] (getMethod ov m pl)
   callWith pos f first (backTo pos (starEach [] X.env)) (backToKw pos (keywordEach [] X.env))):=by rfl):QE X (.Call (.Attribute o m apos) [] [] pos) (tMeth C m sp dvs E ta tNil):=⟨afL (pl:=pl) he.run c hm F hr hb hd hx ht⟩
theorem afy(M:Mk X.K C f)(F:FnOk X.prog X.w X.K X.mg X.base CX k f fd ps sp)(hr:Room (k+1) X.A)(hg:Gl X x)(hm:X.mg x=some (.ref C))(hb:Binds X.K fd ps ds)(hd:Vals dvs ds)(hx:Passes CX X E)
  (hdb:`k:=by decide):QE X (.Call (.Name x p) [] [] pos) (tMake C sp dvs E tNil):=⟨pe_make0 M F hr hg hm hb hd hx hdb⟩
end
theorem Oo(f:Str)(u v:V):∀fs:`c,putF f v (putF f u fs)=putF f v fs
 |[]=>by
  show putF f v [(f,u)]=[(f,v)]
  unfold putF
  rw[if_pos rfl]
 |(g,x)::r=>by
  rw[putF]
  by_cases h:g=f
  ·rw[if_pos h,putF,if_pos h,putF,if_pos h]
  ·rw[if_neg h,putF,if_neg h,Oo f u v r,putF,if_neg h]
theorem ux(f:Str)(v:V):∀fs:`c,(putF f v fs).length<=fs.length+1
 |[]=>`P
 |(g,x)::r=>by
  rw[putF]
  split
  ·show r.length+1<=r.length+1+1;lia
  ·have:=ux f v r
   show(putF f v r).length+1<=r.length+1+1
   lia
def fl(R P:Addr)(nm:`E):`c:=putF "named" (.str (tx nm)) (putF "places" (.ref P) (putF "rows" (.ref R) []))
section
variable{R P:Addr}{nm:`E}
theorem CZ:(fl R P nm).lookup ("rows":Str)=some (.ref R):=by unfold fl;rw[lookup_putF,if_neg `D,lookup_putF,if_neg `D,lookup_putF,if_pos rfl]
theorem lX:(fl R P nm).lookup ("places":Str)=some (.ref P):=by unfold fl;rw[lookup_putF,if_neg `D,lookup_putF,if_pos rfl]
theorem E_:(fl R P nm).lookup ("named":Str)=some (.str (tx nm)):=by unfold fl;rw[lookup_putF,if_pos rfl]
theorem JN{m:Str}(h1:¬m="named")(h2:¬m="places")(h3:¬m="rows"):(fl R P nm).lookup m=none:=by unfold fl;rw[lookup_putF,if_neg h1,lookup_putF,if_neg h2,lookup_putF,if_neg h3];rfl
theorem Xx(nm':`E):putF "named" (.str (tx nm')) (fl R P nm)=fl R P nm':=by unfold fl;rw[Oo]
theorem Xy:(fl R P nm).length<1000:=by
 unfold fl
 have h1:=ux "named" (.str (tx nm)) (putF "places" (.ref P) (putF "rows" (.ref R) []))
 have h2:=ux "places" (.ref P) (putF "rows" (.ref R) [])
 have h3:=ux "rows" (.ref R) []
 have:([]:`c).length=0:=rfl
 lia
end
def plV(pl:`I):`F:=pl.reverse.map fun c=>V.str (tx c)
structure RdX(K:W.Frag)(C:Addr)(H₀ H:Hp)(o dx R P:Addr)(ys:`F)(st:List `C)(pl:`I)(nm:`E):Prop where
 ob:H o=some (.ins C dx (fl R P nm))
 on:H₀ o=none
 pn:H₀ P=none
 rows:qN K H₀ H R st ys
 at_:H P=some (.lst (plV pl))
 np:(.ref P:V)∉(.ref R:V)::ys
def nZ(K:W.Frag)(C:Addr)(H₀ H:Hp)(o:Addr)(st:List `C)(pl:`I)(nm:`E):Prop:=∃dx R P ys,RdX K C H₀ H o dx R P ys st pl nm
section
variable{K:W.Frag}{C:Addr}{H₀ H:Hp}{o dx R P:Addr}{ys:`F}{st:List `C}{pl:`I}{nm:`E}
theorem Ud{H':Hp}{p:Addr}(h:qN K H₀ H p st ys)(S:`L):qN K H₀ H' p st ys:=
 ⟨h.new,h.same.trans S,S _ _ h.at_,h.rows.imp fun _ _⟨a,xs,e,h1,h2,h3⟩=>⟨a,xs,e,h1,S _ _ h2,h3.mono (.of S)⟩,h.nd⟩
theorem Hl{p q:Addr}{x:HO}(h:qN K H₀ H p st ys)(k:Kt H (upd H q x))(h0:H₀ q=none)(hn:(.ref q:V)∉(.ref p:V)::ys):qN K H₀ (upd H q x) p st ys:=
 ⟨h.new,bQ h.same h0,by rw[upd_ne (fun z=>hn (by rw[z];exact List.mem_cons_self))];exact h.at_,kJ k h.rows fun z=>hn (List.mem_cons_of_mem _ z),h.nd⟩
theorem ahv(h:qN K H₀ H R st ys){q:Addr}(hq:(.ref q:V)∈(.ref R:V)::ys):∃zs,H q=some (.lst zs):=by
 rcases List.mem_cons.mp hq with z|z
 ·cases z;exact⟨_,h.at_⟩
 ·obtain⟨i,hi⟩:=List.mem_iff_getElem?.mp z
  obtain⟨ts,_,a,xs,e,_,h2,_⟩:=h.rows.get hi
  cases e
  exact⟨_,h2⟩
theorem RdX.grow{H':Hp}(h:RdX K C H₀ H o dx R P ys st pl nm)(S:`L):RdX K C H₀ H' o dx R P ys st pl nm:=⟨S _ _ h.ob,h.on,h.pn,Ud h.rows S,S _ _ h.at_,h.np⟩
theorem nZ.grow{H':Hp}(h:nZ K C H₀ H o st pl nm)(S:`L):nZ K C H₀ H' o st pl nm:=by obtain⟨dx,R,P,ys,h⟩:=h;exact⟨dx,R,P,ys,h.grow S⟩
theorem nZ.same(h:nZ K C H₀ H o st pl nm):Same H₀ H:=by obtain⟨dx,R,P,ys,h⟩:=h;exact h.rows.same
theorem Kt.ins{C' dx':Addr}{fs:`c}{x:HO}(h:H o=some (.ins C' dx' fs)):Kt H (upd H o x):=
 ⟨fun b xs e=>by rw[upd_ne (fun z=>by rw[z,h]at e;cases e)];exact e,fun b _ _ e=>by rw[upd_ne (fun z=>by rw[z,h]at e;cases e)];exact e⟩
theorem RdX.name(h:RdX K C H₀ H o dx R P ys st pl nm)(nm':`E):RdX K C H₀ (upd H o (.ins C dx (fl R P nm'))) o dx R P ys st pl nm':=by
 have hn:(.ref o:V)∉(.ref R:V)::ys:=fun z=>by
  obtain⟨zs,e⟩:=ahv h.rows z
  rw[h.ob]at e
  cases e
 have hP:P≠o:=fun z=>by have:=h.at_;rw[z,h.ob]at this;cases this
 exact⟨upd_same,h.on,h.pn,Hl h.rows (Kt.ins h.ob) h.on hn,by rw[upd_ne hP];exact h.at_,h.np⟩
theorem RdX.oP(h:RdX K C H₀ H o dx R P ys st pl nm):o≠P:=fun z=>by have:=h.at_;rw[<-z,h.ob]at this;cases this
theorem RdX.oR(h:RdX K C H₀ H o dx R P ys st pl nm):o≠R:=fun z=>by have:=h.rows.at_;rw[<-z,h.ob]at this;cases this
theorem RdX.PR(h:RdX K C H₀ H o dx R P ys st pl nm):P≠R:=fun z=>h.np (by rw[z];exact List.mem_cons_self)
theorem RdX.place(h:RdX K C H₀ H o dx R P ys st pl nm){pl':`I}{zs:`F}(e:zs=plV pl'):RdX K C H₀ (upd H P (.lst zs)) o dx R P ys st pl' nm:=by
 subst e
 exact⟨by rw[upd_ne h.oP];exact h.ob,h.on,h.pn,Hl h.rows (Kt.lst h.at_) h.pn h.np,upd_same,h.np⟩
theorem RdX.enter(h:RdX K C H₀ H o dx R P ys st pl nm){q:Addr}(hq:H q=none):RdX K C H₀ (upd (upd H q (.lst [])) R (.lst (ys++[.ref q]))) o dx R P (ys++[.ref q]) ([]::st) pl nm:=by
 have nPq:P≠q:=ne_of_none h.at_ hq
 refine⟨?_,h.on,h.pn,Hj h.rows hq,?_,fun z=>?_⟩
 ·rw[upd_ne h.oR,upd_ne (ne_of_none h.ob hq)];exact h.ob
 ·rw[upd_ne h.PR,upd_ne nPq];exact h.at_
 ·rcases List.mem_cons.mp z with z|z
  ·exact h.PR (V.ref.inj z)
  ·rcases List.mem_append.mp z with z|z
   ·exact h.np (List.mem_cons_of_mem _ z)
   ·exact nPq (V.ref.inj (List.mem_singleton.mp z))
theorem RdX.add{r:`C}{rs:List `C}{t:T}{x:V}(h:RdX K C H₀ H o dx R P ys (r::rs) pl nm)(ht:TR K H t x):
  ∃(ys0:`F)(a:Addr)(xs:`F),ys=ys0++[`G]/\H a=some (.lst xs)/\xs.length=r.length/\RdX K C H₀ (upd H a (.lst (xs++[x]))) o dx R P ys ((r++[t])::rs) pl nm:=by
 have hr:=h.rows.rows
 rw[List.reverse_cons]at hr
 obtain⟨ys0,y,rfl,h1,a,xs,rfl,ha0,ha,hta⟩:=aP.snoc hr
 have nd:=h.rows.nd
 have ndp:=(List.nodup_cons.mp nd).1
 have ndy:=(List.nodup_cons.mp nd).2
 have na:(`G:V)∉ys0:=fun z=>(List.nodup_append.mp ndy).2.2 _ z _ `H rfl
 have nRa:R≠a:=fun z=>ndp (by rw[z];simp)
 have nPa:P≠a:=fun z=>h.np (by rw[z];simp)
 have noa:o≠a:=fun z=>by rw[<-z,h.ob]at ha;cases ha
 have k:=Kt.lst (o:=.lst (xs++[x])) ha
 refine⟨ys0,a,xs,rfl,ha,hta.length,by rw[upd_ne noa];exact h.ob,h.on,h.pn,⟨h.rows.new,bQ h.rows.same ha0,by rw[upd_ne nRa];exact h.rows.at_,?_,nd⟩,by rw[upd_ne nPa];exact h.at_,h.np⟩
 rw[List.reverse_cons]
 exact aP.append (kJ k h1 na) (aP.one ⟨a,_,rfl,ha0,upd_same,TRs.append (hta.mono k) (kh (ht.mono k))⟩)
theorem RdX.shut{r:`C}{rs:List `C}(h:RdX K C H₀ H o dx R P ys (r::rs) pl nm):
  ∃(ys0:`F)(a:Addr)(xs:`F),ys=ys0++[`G]/\R≠a/\H a=some (.lst xs)/\TRs K H r xs/\RdX K C H₀ (upd H R (.lst ys0)) o dx R P ys0 rs pl nm:=by
 have hr:=h.rows.rows
 rw[List.reverse_cons]at hr
 obtain⟨ys0,y,rfl,h1,a,xs,rfl,ha0,ha,hta⟩:=aP.snoc hr
 have nd:=h.rows.nd
 have ndp:=(List.nodup_cons.mp nd).1
 have ndy:=(List.nodup_cons.mp nd).2
 have nRa:R≠a:=fun z=>ndp (by rw[z];simp)
 have k:=Kt.lst (o:=.lst ys0) h.rows.at_
 refine⟨ys0,a,xs,rfl,nRa,ha,hta,by rw[upd_ne h.oR];exact h.ob,h.on,h.pn,⟨h.rows.new,bQ h.rows.same h.rows.new,upd_same,kJ k h1 fun z=>ndp (by simp[z]),List.nodup_cons.mpr ⟨fun z=>ndp (by simp[z]),(List.nodup_append.mp ndy).1⟩⟩,by rw[upd_ne h.PR];exact h.at_,fun z=>h.np ?_⟩
 rcases List.mem_cons.mp z with z|z
 ·rw[z];exact List.mem_cons_self
 ·exact List.mem_cons_of_mem _ (List.mem_append_left _ z)
end
def jB:`E:=[116,101,120,116]
def cR:`E:=[121,101,115]
def noC:`E:=[110,111]
def dN:`E:=[98,111,100,121]
theorem ahh:Str.ofString "text"=tx jB:=`D
theorem adf:Str.ofString "yes"=tx cR:=`D
theorem abh:Str.ofString "no"=tx noC:=`D
theorem Js:Str.ofString "body"=tx dN:=`D
def wU(y n:`C):T:=.node (cQ 7::.node y::n)
def wO(r:`C):T:=.node (cQ 8::r)
inductive One:T->`E->Prop
 |odd{w:T}(h:d8 w=true):One w (33::w.wr)
 |lay{w:T}(h:d8 w=false)(hs:aA w=0):One w (39::(aK w).wr)
 |plain{w:T}(h:d8 w=false)(h1:1<=aA w)(h6:aA w<=6):One w (nmC (aA w))
structure Rst where
 st:List `C
 pl:`I
 nm:`E
inductive Stp:Rst->`E->Rst->Prop
 |zY{st:List `C}{pl:`I}:Stp ⟨st,pl,nmC 7⟩ [91] ⟨[]::st,cR::pl,[]⟩
 |zX{st:List `C}{pl:`I}:Stp ⟨st,pl,nmC 8⟩ [91] ⟨[]::st,dN::pl,[]⟩
 |name{st:List `C}{pl:`I}{k:Nat}(h:k=7\/k=8):Stp ⟨st,pl,[]⟩ (nmC k) ⟨st,pl,nmC k⟩
 |bar{st:List `C}{pl:`I}:Stp ⟨st,cR::pl,[]⟩ [124] ⟨[]::st,noC::cR::pl,[]⟩
 |DP{r s:`C}{st:List `C}{pl:`I}:Stp ⟨r::s::st,dN::pl,[]⟩ [93] ⟨(s++[wO r])::st,pl,[]⟩
 |DQ{n y s:`C}{st:List `C}{pl:`I}:Stp ⟨n::y::s::st,noC::cR::pl,[]⟩ [93] ⟨(s++[wU y n])::st,pl,[]⟩
 |word{w:T}{p:`E}{s:`C}{st:List `C}{pl:`I}(h:One w p):Stp ⟨s::st,pl,[]⟩ p ⟨(s++[w])::st,pl,[]⟩
inductive pI:Rst->`I->Rst->Prop
 |nil{a:Rst}:pI a [] a
 |cons{a b c:Rst}{p:`E}{ps:`I}(h:Stp a p b)(g:pI b ps c):pI a (p::ps) c
theorem pI.append{a b c:Rst}{ps qs:`I}(h:pI a ps b)(g:pI b qs c):pI a (ps++qs) c:=by
 induction h with
 |nil=>exact g
 |cons h _ ih=>exact .cons h (ih g)
theorem pI.one{a b:Rst}{p:`E}(h:Stp a p b):pI a [p] b:=.cons h .nil
theorem Um:∀{ts:`C},(ts.any fun t=>!T.beq t leaf)=false->ts=List.replicate ts.length (.node [])
 |[],_=>rfl
 |t::ts,h=>by
  rw[List.any_cons,Bool.or_eq_false_iff]at h
  have e:t=leaf:=(T.beq_iff _ _).mp (by have:=h.1;revert this;cases T.beq t leaf<;>simp)
  rw[List.length_cons,List.replicate_succ,e]
  exact congrArg (leaf::·) (Um h.2)
theorem Ef{w:T}(h:d8 w=false):∃r,w=.node (cQ (aA w)::r):=by
 have h8:=LR h
 have hh:uJ w=false:=by
  unfold d8 at h
  split at h
  ·cases h
  ·rename_i z;exact Bool.eq_false_iff.mpr z
 unfold uJ at hh
 rw[Bool.or_eq_false_iff]at hh
 cases w with
 |node ts=>
  cases ts with
  |nil=>exact absurd (show T.beq (.node []) leaf=true from T.Fy _) (by rw[hh.1];decide)
  |cons f r=>
   cases f with
   |node us=>
    have e:=Um (ts:=us) hh.2
    have es:aA (.node (.node us::r))=min 9 us.length:=rfl
    rw[es]at h8
    refine⟨r,?_⟩
    rw[es,show min 9 us.length=us.length by lia]
    show T.node (.node us::r)=T.node (.node (List.replicate us.length (.node []))::r)
    rw[<-e]
theorem JH{w:T}(h:d8 w=false)(hs:aA w=8):w=wO (aK w).kids:=by
 obtain⟨r,e⟩:=Ef h
 rw[hs]at e
 rw[e]
 rfl
theorem JM{w:T}(h:d8 w=false)(hs:aA w=7):w=wU (ats (aK w).kids 0).kids (aK (aK w)).kids:=by
 obtain⟨r,e⟩:=Ef h
 rw[hs]at e
 cases r with
 |nil=>
  have hl:aK w=leaf:=by rw[e];rfl
  unfold d8 at h
  rw[hs,hl]at h
  split at h
  ·cases h
  ·rw[if_neg `A,if_pos rfl]at h
   exact absurd (show T.beq leaf leaf=true from T.Fy _) (by rw[h];decide)
 |cons y n=>
  rw[e]
  cases y
  rfl
mutual
theorem ahd:∀{w:T}{ps:`I},Wr w ps->∀(s:`C)(st:List `C)(pl:`I),pI ⟨s::st,pl,[]⟩ ps ⟨(s++[w])::st,pl,[]⟩
 |w,_,.odd h=>fun s st pl=>.one (.word (.odd h))
 |w,_,.lay h hs=>fun s st pl=>.one (.word (.lay h hs))
 |w,_,.plain h h1 h6=>fun s st pl=>.one (.word (.plain h h1 h6))
 |w,_,.fork h hs hy hn=>fun s st pl=>by
  have a1:=Ca hy [] (s::st) (cR::pl)
  have a2:=Ca hn [] ((ats (aK w).kids 0).kids::s::st) (noC::cR::pl)
  have e:=JM h hs
  rw[List.nil_append]at a1 a2
  have a0:pI ⟨s::st,pl,[]⟩ [nmC 7,[91]] ⟨[]::s::st,cR::pl,[]⟩:=.cons (.name (.inl rfl)) (.one .zY)
  have a3:=((((a0.append a1).append (.one .bar)).append a2).append (.one (.DQ)))
  rw[<-e]at a3
  exact a3
 |w,_,.loop h hs hb=>fun s st pl=>by
  have a1:=Ca hb [] (s::st) (dN::pl)
  have e:=JH h hs
  rw[List.nil_append]at a1
  have a0:pI ⟨s::st,pl,[]⟩ [nmC 8,[91]] ⟨[]::s::st,dN::pl,[]⟩:=.cons (.name (.inr rfl)) (.one .zX)
  have a3:=(a0.append a1).append (.one (.DP))
  rw[<-e]at a3
  exact a3
theorem Ca:∀{ws:`C}{ps:`I},Ts ws ps->∀(s:`C)(st:List `C)(pl:`I),pI ⟨s::st,pl,[]⟩ ps ⟨(s++ws)::st,pl,[]⟩
 |_,_,.nil=>fun s st pl=>by rw[List.append_nil];exact .nil
 |_,_,.cons (w:=w) (ws:=ws) h g=>fun s st pl=>by
  have a1:=ahd h s st pl
  have a2:=Ca g (s++[w]) st pl
  rw[List.append_assoc]at a2
  exact a1.append a2
end
theorem T_{α:Type}(xs:List α)(x:α):(xs++[x])[(xs++[x]).length-1]?=some x:=`H
theorem Ua{α:Type}(xs:List α)(x:α):(xs++[x]).dropLast=xs:=`H
theorem mF(c:`E)(pl:`I):plV (c::pl)=plV pl++[.str (tx c)]:=by unfold plV;rw[List.reverse_cons,List.map_append];rfl
theorem ahO(pl:`I):(plV pl).length=pl.length:=by unfold plV;rw[List.length_map,List.length_reverse]
def spInit(K:W.Frag)(C:Addr):Sp:=fun vs H Q _=>∃(o dx:Addr)(H₀:Hp),vs=[.ref o]/\Same H₀ H/\H₀ o=none/\H o=some (.ins C dx [])/\∀H',Kt H H'->nZ K C H₀ H' o [[]] [jB] []->Q .non H'
def aao(K:W.Frag)(C:Addr):Sp:=fun vs H Q _=>∃(o:Addr)(c:`E)(H₀:Hp)(st:List `C)(pl:`I)(nm:`E),vs=[.ref o,.str (tx c)]/\nZ K C H₀ H o st pl nm/\st.length<=100000/\pl.length<=100000/\
 ∀H',Kt H H'->nZ K C H₀ H' o ([]::st) (c::pl) nm->Q .non H'
def aam(K:W.Frag)(C:Addr):Sp:=fun vs H Q _=>∃(o:Addr)(c:`E)(H₀:Hp)(r:`C)(st:List `C)(pl:`I)(nm:`E),vs=[.ref o]/\nZ K C H₀ H o (r::st) (c::pl) nm/\
 ∀y H',Kt H H'->nZ K C H₀ H' o st pl nm->TR K H' (.node r) y->Q y H'
def adO(K:W.Frag)(C:Addr):Sp:=fun vs H Q _=>∃(o:Addr)(x:V)(t:T)(H₀:Hp)(r:`C)(st:List `C)(pl:`I)(nm:`E),vs=[.ref o,x]/\TR K H t x/\nZ K C H₀ H o (r::st) pl nm/\r.length<=100000/\
 ∀H',Kt H H'->nZ K C H₀ H' o ((r++[t])::st) pl nm->Q .non H'
theorem Ux(xs ys:`C):T.bK (xs++ys)=max (T.bK xs) (T.bK ys):=by
 induction xs with
 |nil=>rw[List.nil_append,T.fC];lia
 |cons x xs ih=>rw[List.cons_append,T.aW,T.aW,ih];lia
theorem Ql{a b:Nat}{xs ys:`C}(h:B a b (.node (xs++ys))):B a b (.node xs):=by
 obtain⟨h1,h2⟩:=h
 rw[T.aY,Ux]at h1
 rw[T.aM,T.bM]at h2
 exact⟨by rw[T.aY];lia,by rw[T.aM];lia⟩
theorem aa8{a b:Nat}{xs ys:`C}(h:B a b (.node (xs++ys))):B a b (.node ys):=by
 obtain⟨h1,h2⟩:=h
 rw[T.aY,Ux]at h1
 rw[T.aM,T.bM]at h2
 exact⟨by rw[T.aY];lia,by rw[T.aM];lia⟩
structure Sz(a:Rst):Prop where
 st:a.st.length<=100000
 pl:a.pl.length<=100000
 each:∀r∈a.st,B 400 100000 (.node r)
inductive SB:Rst->`I->Rst->Prop
 |nil{a:Rst}:SB a [] a
 |cons{a b c:Rst}{p:`E}{ps:`I}(z:Sz a)(z':Sz b)(h:Stp a p b)(g:SB b ps c):SB a (p::ps) c
theorem SB.append{a b c:Rst}{ps qs:`I}(h:SB a ps b)(g:SB b qs c):SB a (ps++qs) c:=by
 induction h with
 |nil=>exact g
 |cons z z' h _ ih=>exact .cons z z' h (ih g)
theorem SB.one{a b:Rst}{p:`E}(z:Sz a)(z':Sz b)(h:Stp a p b):SB a [p] b:=.cons z z' h .nil
def AllB(st:List `C):Prop:=∀r∈st,B 400 100000 (.node r)
theorem AllB.cons{r:`C}{st:List `C}(h:B 400 100000 (.node r))(g:AllB st):AllB (r::st):=fun x hx=>by
 rcases List.mem_cons.mp hx with rfl|hx
 ·exact h
 ·exact g x hx
theorem acy:B 400 100000 (.node []):=xg.le `A `A
theorem WQ{w:T}{p:`E}(h:One w p)(s:`C)(st:List `C)(pl:`I)(hb:B 400 100000 (.node (s++[w])))(ha:AllB st)(h1:st.length<=50000)(h2:pl.length<=50000):SB ⟨s::st,pl,[]⟩ [p] ⟨(s++[w])::st,pl,[]⟩:=
 .one ⟨by show st.length+1<=_;lia,by show pl.length<=_;lia,AllB.cons (Ql hb) ha⟩ ⟨by show st.length+1<=_;lia,by show pl.length<=_;lia,AllB.cons hb ha⟩ (.word h)
mutual
theorem alp:∀{w:T}{ps:`I},Wr w ps->∀(s:`C)(st:List `C)(pl:`I),B 400 100000 (.node (s++[w]))->AllB st->st.length+3*w.deep<=50000->pl.length+3*w.deep<=50000->SB ⟨s::st,pl,[]⟩ ps ⟨(s++[w])::st,pl,[]⟩
 |w,_,.odd h=>fun s st pl hb ha h1 h2=>WQ (.odd h) s st pl hb ha `A `A
 |w,_,.lay h hs=>fun s st pl hb ha h1 h2=>WQ (.lay h hs) s st pl hb ha `A `A
 |w,_,.plain h g1 g6=>fun s st pl hb ha h1 h2=>WQ (.plain h g1 g6) s st pl hb ha `A `A
 |w,_,.fork (ps:=ps) (qs:=qs) h hs hy hn=>fun s st pl hb ha h1 h2=>by
  have e:=JM h hs
  have hw:B 400 100000 w:=xq (aa8 hb) (List.mem_singleton.mpr rfl)
  have hl:=dH (lR hw)
  have hbn:=dH (lR (lR hw))
  have hd:w.deep=T.bK w.kids:=xY w
  generalize hyy:(ats (aK w).kids 0).kids=y at e hy
  generalize hnn:(aK (aK w)).kids=n at e hn hbn
  have hk:w.kids=cQ 7::.node y::n:=by rw[e];rfl
  have dy:T.bK y+1<=w.deep:=by
   rw[hd,hk,T.aW,T.aW,T.aY y]
   lia
  have dn:T.bK n<=w.deep:=by
   rw[hd,hk,T.aW,T.aW]
   lia
  have hby:B 400 100000 (.node y):=by
   have:=dH hw
   rw[hk]at this
   exact xq this (List.mem_cons_of_mem _ List.mem_cons_self)
  have hbs:=Ql hb
  have a1:=Ob hy [] (s::st) (cR::pl) hby (ha.cons hbs) (by show st.length+1+_<=_;lia) (by show pl.length+1+_<=_;lia)
  have a2:=Ob hn [] (y::s::st) (noC::cR::pl) hbn ((ha.cons hbs).cons hby) (by show st.length+1+1+_<=_;lia) (by show pl.length+1+1+_<=_;lia)
  rw[List.nil_append]at a1 a2
  have z0:Sz ⟨s::st,pl,[]⟩:=⟨by show st.length+1<=_;lia,by show pl.length<=_;lia,ha.cons hbs⟩
  have z1:Sz ⟨s::st,pl,nmC 7⟩:=⟨z0.st,z0.pl,z0.each⟩
  have z2:Sz ⟨[]::s::st,cR::pl,[]⟩:=⟨by show st.length+1+1<=_;lia,by show pl.length+1<=_;lia,(ha.cons hbs).cons acy⟩
  have z3:Sz ⟨y::s::st,cR::pl,[]⟩:=⟨by show st.length+1+1<=_;lia,by show pl.length+1<=_;lia,(ha.cons hbs).cons hby⟩
  have z4:Sz ⟨[]::y::s::st,noC::cR::pl,[]⟩:=⟨by show st.length+1+1+1<=_;lia,by show pl.length+1+1<=_;lia,((ha.cons hbs).cons hby).cons acy⟩
  have z5:Sz ⟨n::y::s::st,noC::cR::pl,[]⟩:=⟨by show st.length+1+1+1<=_;lia,by show pl.length+1+1<=_;lia,((ha.cons hbs).cons hby).cons hbn⟩
  have z6:Sz ⟨(s++[w])::st,pl,[]⟩:=⟨by show st.length+1<=_;lia,by show pl.length<=_;lia,ha.cons hb⟩
  have a0:SB ⟨s::st,pl,[]⟩ [nmC 7,[91]] ⟨[]::s::st,cR::pl,[]⟩:=.cons z0 z1 (.name (.inl rfl)) (.one z1 z2 .zY)
  have hsF:Stp ⟨n::y::s::st,noC::cR::pl,[]⟩ [93] ⟨(s++[w])::st,pl,[]⟩:=by rw[e];exact .DQ
  exact(((a0.append a1).append (.one z3 z4 .bar)).append a2).append (.one z5 z6 hsF)
 |w,_,.loop (ps:=ps) h hs hbd=>fun s st pl hb ha h1 h2=>by
  have e:=JH h hs
  have hw:B 400 100000 w:=xq (aa8 hb) (List.mem_singleton.mpr rfl)
  have hl:=dH (lR hw)
  have hd:w.deep=T.bK w.kids:=xY w
  generalize hnn:(aK w).kids=n at e hbd hl
  have hk:w.kids=cQ 8::n:=by rw[e];rfl
  have dn:T.bK n<=w.deep:=by
   rw[hd,hk,T.aW]
   lia
  have hbs:=Ql hb
  have a1:=Ob hbd [] (s::st) (dN::pl) hl (ha.cons hbs) (by show st.length+1+_<=_;lia) (by show pl.length+1+_<=_;lia)
  rw[List.nil_append]at a1
  have z0:Sz ⟨s::st,pl,[]⟩:=⟨by show st.length+1<=_;lia,by show pl.length<=_;lia,ha.cons hbs⟩
  have z1:Sz ⟨s::st,pl,nmC 8⟩:=⟨z0.st,z0.pl,z0.each⟩
  have z2:Sz ⟨[]::s::st,dN::pl,[]⟩:=⟨by show st.length+1+1<=_;lia,by show pl.length+1<=_;lia,(ha.cons hbs).cons acy⟩
  have z3:Sz ⟨n::s::st,dN::pl,[]⟩:=⟨by show st.length+1+1<=_;lia,by show pl.length+1<=_;lia,(ha.cons hbs).cons hl⟩
  have z6:Sz ⟨(s++[w])::st,pl,[]⟩:=⟨by show st.length+1<=_;lia,by show pl.length<=_;lia,ha.cons hb⟩
  have a0:SB ⟨s::st,pl,[]⟩ [nmC 8,[91]] ⟨[]::s::st,dN::pl,[]⟩:=.cons z0 z1 (.name (.inr rfl)) (.one z1 z2 .zX)
  have hsF:Stp ⟨n::s::st,dN::pl,[]⟩ [93] ⟨(s++[w])::st,pl,[]⟩:=by rw[e];exact .DP
  exact(a0.append a1).append (.one z3 z6 hsF)
theorem Ob:∀{ws:`C}{ps:`I},Ts ws ps->∀(s:`C)(st:List `C)(pl:`I),B 400 100000 (.node (s++ws))->AllB st->st.length+3*T.bK ws<=50003->pl.length+3*T.bK ws<=50003->SB ⟨s::st,pl,[]⟩ ps ⟨(s++ws)::st,pl,[]⟩
 |_,_,.nil=>fun s st pl _ _ _ _=>by rw[List.append_nil];exact .nil
 |_,_,.cons (w:=w) (ws:=ws) h g=>fun s st pl hb ha h1 h2=>by
  rw[T.aW]at h1 h2
  have hb':B 400 100000 (.node ((s++[w])++ws)):=by rw[List.append_assoc];exact hb
  have a1:=alp h s st pl (Ql hb') ha `A `A
  have a2:=Ob g (s++[w]) st pl hb' ha `A `A
  rw[List.append_assoc]at a2
  exact a1.append a2
end
theorem gC{c:Bool}{P Q:Prop}(h:c=false)(q:Q):if c=true then P else Q:=by subst h;exact iteF q
theorem j4{c:Bool}{P Q:Prop}(h:c=true)(q:P):if c=true then P else Q:=by subst h;exact iteT q
theorem gO(a b:`E){z:Str}(hz:z=tx b):decide (V.str (tx a)=V.str z)=decide (a=b):=by
 subst hz
 by_cases h:a=b
 ·subst h;rw[decide_eq_true rfl,decide_eq_true rfl]
 ·rw[decide_eq_false h,decide_eq_false (fun z=>h (GR.mp (V.str.inj z)))]
theorem PX(a b:`E):(tx a==tx b)=decide (a=b):=by
 by_cases h:a=b
 ·subst h;rw[decide_eq_true rfl];exact beq_self_eq_true _
 ·rw[decide_eq_false h];exact beq_eq_false_iff_ne.mpr (fun z=>h (GR.mp z))
theorem ajY(p b c:`E):inV (.str (tx p)) [.str (tx b),.str (tx c)]=(decide (b=p)||decide (c=p)):=by
 unfold inV
 rw[List.any_cons,List.any_cons,List.any_nil,Bool.or_false]
 show((tx b==tx p)||(tx c==tx p))=_
 rw[PX,PX]
theorem ajE{w:T}{p:`E}(h:One w p):p≠[91]/\p≠nmC 7/\p≠nmC 8/\p≠[124]/\p≠[93]:=by
 cases h with
 |odd h=>refine⟨?_,?_,?_,?_,?_⟩<;>intro z<;>exact absurd (congrArg List.head? z) (by show¬some 33=some _;decide)
 |lay h hs=>refine⟨?_,?_,?_,?_,?_⟩<;>intro z<;>exact absurd (congrArg List.head? z) (by show¬some 39=some _;decide)
 |plain h h1 h6=>
  have:∀k,1<=k->k<=6->nmC k≠[91]/\nmC k≠nmC 7/\nmC k≠nmC 8/\nmC k≠[124]/\nmC k≠[93]:=by
   intro k a b
   have:k=1\/k=2\/k=3\/k=4\/k=5\/k=6:=`A
   rcases this with rfl|rfl|rfl|rfl|rfl|rfl<;>decide
  exact this _ h1 h6
section
variable{K:W.Frag}{C:Addr}{H₀ H:Hp}{o dx R P l:Addr}{ys:`F}{st:List `C}{pl:`I}{nm:`E}
theorem RdX.base(h:RdX K C H₀ H o dx R P ys st pl nm)(hl:H l=none)(z:HO):RdX K C (upd H₀ l z) (upd H l z) o dx R P ys st pl nm:=by
 have g:=h.grow (same_new hl z)
 have nn:∀{q:Addr}{w:HO},H q=some w->H₀ q=none->upd H₀ l z q=none:=fun e e0=>by rw[upd_ne (ne_of_none e hl)];exact e0
 refine⟨g.ob,nn h.ob h.on,nn h.at_ h.pn,⟨nn h.rows.at_ h.rows.new,fun b w e=>?_,g.rows.at_,?_,g.rows.nd⟩,g.at_,g.np⟩
 ·by_cases hb:b=l
  ·subst hb
   rw[upd_same]at e|-
   exact e
  ·rw[upd_ne hb]at e|-
   exact h.rows.same b w e
 ·exact h.rows.rows.imp fun _ _⟨a,xs,e,h1,h2,h3⟩=>⟨a,xs,e,nn h2 h1,(same_new hl z) _ _ h2,h3.mono (.new hl)⟩
end
theorem rH(c:Nat)(l:`E):aV [c] [l]=l:=rfl
theorem Uh{c:Nat}:∀{a b x y:`E},c∉a->c∉b->a++c::x=b++c::y->a=b/\x=y
 |[],[],_,_,_,_,e=>⟨rfl,(List.cons.inj e).2⟩
 |[],d::b,_,_,_,hb,e=>absurd (List.cons.inj e).1 (fun z=>hb (by rw[z];exact List.mem_cons_self))
 |d::a,[],_,_,ha,_,e=>absurd (List.cons.inj e).1.symm (fun z=>ha (by rw[z];exact List.mem_cons_self))
 |d::a,f::b,x,y,ha,hb,e=>by
  obtain⟨e1,e2⟩:=List.cons.inj e
  obtain⟨e3,e4⟩:=Uh (fun z=>ha (List.mem_cons_of_mem _ z)) (fun z=>hb (List.mem_cons_of_mem _ z)) e2
  exact⟨by rw[e1,e3],e4⟩
theorem Uq{c:Nat}:∀{as bs:`I},as≠[]->bs≠[]->(∀p∈as,c∉p)->(∀p∈bs,c∉p)->aV [c] as=aV [c] bs->as=bs
 |[],_,h,_,_,_,_=>absurd rfl h
 |_::_,[],_,h,_,_,_=>absurd rfl h
 |[a],[b],_,_,_,_,e=>by rw[rH,rH]at e;rw[e]
 |[a],b::b'::bs,_,_,ha,_,e=>by
  rw[rH,qg _ _ `H]at e
  exact absurd (show c∈a by rw[e];simp) (ha a List.mem_cons_self)
 |a::a'::as,[b],_,_,_,hb,e=>by
  rw[rH,qg _ _ `H]at e
  exact absurd (show c∈b by rw[<-e];simp) (hb b List.mem_cons_self)
 |a::a'::as,b::b'::bs,_,_,ha,hb,e=>by
  rw[qg [c] a (show a'::as≠[]by simp),qg [c] b (show b'::bs≠[]by simp),List.append_assoc,List.append_assoc]at e
  obtain⟨e1,e2⟩:=Uh (ha a List.mem_cons_self) (hb b List.mem_cons_self) e
  rw[e1,Uq `H `H (fun p hp=>ha p (List.mem_cons_of_mem _ hp)) (fun p hp=>hb p (List.mem_cons_of_mem _ hp)) e2]
theorem join_nil{c:Nat}:∀{as:`I},(∀p∈as,p≠[])->aV [c] as=[]->as=[]
 |[],_,_=>rfl
 |[a],h,e=>absurd e (h a List.mem_cons_self)
 |a::b::as,_,e=>by
  rw[qg _ _ `H]at e
  simp at e
mutual
theorem abf:∀t:T,32∉t.wr
 | .node ts=>fun z=>by
  rcases List.mem_cons.mp (show 32∈40::(T.wrL ts++[41])from z)with z|z
  ·cases z
  ·rcases List.mem_append.mp z with z|z
   ·exact ac7 ts z
   ·cases List.mem_singleton.mp z
theorem ac7:∀ts:`C,32∉T.wrL ts
 |[]=>by show 32∉[];simp
 |t::ts=>fun z=>by
  rcases List.mem_append.mp (show 32∈T.wr t++T.wrL ts from z)with z|z
  ·exact abf t z
  ·exact ac7 ts z
end
def okP(p:`E):Prop:=p≠[]/\32∉p
theorem abP{k:Nat}(h:k<=8):okP (nmC k):=by
 have:k=0\/k=1\/k=2\/k=3\/k=4\/k=5\/k=6\/k=7\/k=8:=`A
 rcases this with rfl|rfl|rfl|rfl|rfl|rfl|rfl|rfl|rfl<;>exact⟨`B,`B⟩
theorem ql{ps qs:`I}(h:∀p∈ps,okP p)(g:∀p∈qs,okP p):∀p∈ps++qs,okP p:=fun p hp=>by
 rcases List.mem_append.mp hp with z|z
 ·exact h p z
 ·exact g p z
theorem nH{l:`E}(h:okP l):∀p∈[l],okP p:=fun p hp=>by rw[List.mem_singleton.mp hp];exact h
mutual
theorem alr:∀{w:T}{ps:`I},Wr w ps->∀p∈ps,okP p
 |w,_,.odd h=>nH ⟨`H,fun z=>by
   rcases List.mem_cons.mp z with z|z
   ·cases z
   ·exact abf _ z⟩
 |w,_,.lay h hs=>nH ⟨`H,fun z=>by
   rcases List.mem_cons.mp z with z|z
   ·cases z
   ·exact abf _ z⟩
 |w,_,.plain h h1 h6=>nH (abP `A)
 |w,_,.fork h hs hy hn=>ql (ql (ql (ql (ql (nH (abP `A)) (nH (l:=[91]) ⟨`B,`B⟩)) (Jt hy)) (nH ⟨`B,`B⟩)) (Jt hn)) (nH ⟨`B,`B⟩)
 |w,_,.loop h hs hb=>ql (ql (ql (nH (abP `A)) (nH (l:=[91]) ⟨`B,`B⟩)) (Jt hb)) (nH ⟨`B,`B⟩)
theorem Jt:∀{ws:`C}{ps:`I},Ts ws ps->∀p∈ps,okP p
 |_,_,.nil=>fun _ h=>by simp at h
 |_,_,.cons h g=>ql (alr h) (Jt g)
end
section
variable{X:Cx}
def ajl(K:W.Frag):V->`F->Hp->VK->Prop:=fun x vs H Q=>∃(a:Addr)(cs:`I)(p:`E)(j:Nat),x=`G/\vs=[.str (tx p)]/\SqT K H a (cs.map fun c=>V.str (tx c))/\cs[j]?=some p/\(∀m,m<j->cs[m]?≠some p)/\Q (.int (j:Nat)) H
theorem agc:MtM X "tuple.index" (ajl X.K):=by
 intro pins s σ H x vs v us Q I rx rv h
 obtain⟨a,cs,p,j,rfl,rfl,hq,hj,hn,q⟩:=h
 cases rx
 obtain⟨u,rfl,ru⟩:=rv.one
 obtain⟨its,r,ht,hz⟩:=I.tuple hq
 obtain⟨⟨cls,dd,data,sl⟩,ho,hc,n,hd⟩:=id ht
 simp only at hc hd
 subst hc hd
 have flat:∀l:`I,(l.map fun c=>V.str (tx c)).all wV=true:=fun l=>by
  rw[List.all_eq_true]
  intro y hy
  obtain⟨c,_,rfl⟩:=List.mem_map.mp hy
  rfl
 have hlen:=r.length
 rw[List.length_map]at hlen
 have hjl:j<cs.length:=(List.getElem?_eq_some_iff.mp hj).1
 have at_:∀m(hm:m<its.toArray.size),eqU (.str (tx p)) its.toArray[m]=decide (cs[m]?=some p):=fun m hm=>by
  have hm':m<cs.length:=by rw[List.size_toArray]at hm;lia
  obtain⟨u',e1,ru'⟩:=r.get (i:=m) (x:=.str (tx cs[m])) (by rw[List.getElem?_map,List.getElem?_eq_getElem hm'];rfl)
  have e2:its.toArray[m]=u':=by
   have:=List.getElem?_eq_some_iff.mp e1
   simpa using this.2
  rw[e2,XC ru' rfl,List.getElem?_eq_getElem hm']
  show(tx cs[m]==tx p)=_
  rw[PX]
  by_cases z:cs[m]=p
  ·rw[decide_eq_true z,decide_eq_true (congrArg some z)]
  ·rw[decide_eq_false z,decide_eq_false (fun y=>z (Option.some.inj y))]
 have hjs:j<its.toArray.size:=by rw[List.size_toArray];lia
 refine call_meets F.slot_tuple_index ⟨_,ho,rfl⟩ F.entry_tuple_index (F.args_tuple_index_2 _ _)
  (YX a its.toArray n dd sl u (eqU (.str (tx p))) j hjs (by rw[at_ j hjs,hj];exact decide_eq_true rfl) (fun m hm hlt=>by rw[at_ m hm];exact decide_eq_false (hn m hlt))) ⟨ho,fun y hy=>?_,?_⟩
 ·exact En ru rfl r (flat cs) y (by simpa using hy)
 ·exact⟨.int (j:Nat),H,I.tok _,⟨_,rfl⟩,q⟩
end
def V6:`F:=[1,2,3,4,5,6].map fun k=>V.str (tx (nmC k))
theorem alY:mJ sG (some 1) (some 7)=V6:=by
 unfold mJ
 rw[show(some (1:Int))=some ((1:Nat):Int)from rfl,show(some (7:Int))=some ((7:Nat):Int)from rfl,HT.uh,HT.uh]
 rfl
theorem aj0(p:`E):inV (.str (tx p)) V6=[1,2,3,4,5,6].any fun k=>decide (nmC k=p):=by
 unfold inV V6
 rw[List.any_map]
 refine congrArg (fun f=>List.any [1,2,3,4,5,6] f) (funext fun k=>?_)
 show(tx (nmC k)==tx p)=_
 rw[PX]
theorem ai_{c:Nat}{l:`E}(h:c<97):([1,2,3,4,5,6].any fun j=>decide (nmC j=c::l))=false:=by
 rw[List.any_eq_false]
 intro k hk
 rw[decide_eq_true_eq]
 intro z
 have e:=congrArg List.head? z
 have e:(nmC k).head?=some c:=e
 simp only[List.mem_cons,List.not_mem_nil,or_false]at hk
 rcases hk with rfl|rfl|rfl|rfl|rfl|rfl<;>(have:=Option.some.inj e;lia)
theorem aeo:sG=((List.range 9).map nmC).map fun c=>V.str (tx c):=by unfold sG;rw[List.map_map];rfl
theorem af9{k:Nat}(h:k<=8):((List.range 9).map nmC)[k]?=some (nmC k)/\∀m,m<k->((List.range 9).map nmC)[m]?≠some (nmC k):=by
 have:k=0\/k=1\/k=2\/k=3\/k=4\/k=5\/k=6\/k=7\/k=8:=`A
 rcases this with rfl|rfl|rfl|rfl|rfl|rfl|rfl|rfl|rfl<;>exact⟨rfl,`B⟩
theorem lay_of{w:T}(h:d8 w=false)(hs:aA w=0):w=gB 0 (aK w).kids:=by
 obtain⟨r,e⟩:=Ef h
 rw[hs]at e
 rw[e]
 rfl
theorem afF{w:T}(h:d8 w=false)(h1:1<=aA w)(h6:aA w<=6):w=gB (aA w) []:=by
 obtain⟨r,e⟩:=Ef h
 have hl:aK w=leaf:=by
  unfold d8 at h
  split at h
  ·cases h
  ·rw[if_neg `A,if_neg `A,Bool.or_eq_false_iff]at h
   refine(T.beq_iff _ _).mp ?_
   have:=h.2
   revert this
   cases T.beq (aK w) leaf<;>simp
 have er:r=[]:=by
  have:aK w=.node r:=by rw[e];rfl
  rw[this]at hl
  exact T.node.inj hl
 rw[er]at e
 exact e
theorem Yd(c:Nat)(l:`E):pB (c::l) (some 1) none=l:=by
 unfold pB
 rw[show(some (1:Int))=some ((1:Nat):Int)from rfl,HT.uh]
 show((c::l).drop (min 1 (l.length+1))).take (HT.sIx (c::l).length (c::l).length none-_)=l
 have e1:min 1 (l.length+1)=1:=`A
 rw[e1]
 show l.take (l.length+1-min 1 (l.length+1))=l
 exact List.take_of_length_le `A
section
variable(K:W.Frag)(H:Hp)
end
end Sw
namespace Sw
def nP(c:`E):`I->Nat
 |[]=>0
 |p::ps=>(if p=c then 1 else 0)+nP c ps
theorem vN(c:`E):∀a b:`I,nP c (a++b)=nP c a+nP c b
 |[],b=>by rw[List.nil_append,nP];lia
 |p::a,b=>by rw[List.cons_append,nP,nP,vN c a b];lia
def isN(c p:`E):Nat:=if p=c then 1 else 0
theorem agd:nmC 7≠nmC 8/\nmC 7≠[91]/\nmC 7≠[124]/\nmC 7≠[93]/\nmC 8≠[91]/\nmC 8≠[124]/\nmC 8≠[93]/\([91]:`E)≠[124]/\([91]:`E)≠[93]/\([124]:`E)≠[93]/\nmC 7≠[]/\nmC 8≠[]/\cR≠noC/\cR≠dN/\cR≠jB/\noC≠dN/\noC≠jB/\dN≠jB:=`B
def fQ(l:`E):Option T:=match T.rd [[]] l with
 |some [[t]]=>some t
 |_=>none
theorem Vq{l:`E}{t:T}(h:T.rd [[]] l=some [[t]]):fQ l=some t:=by unfold fQ;rw[h]
theorem t_{l:`E}{t:T}(h:fQ l=some t):T.rd [[]] l=some [[t]]:=by
 unfold fQ at h
 split at h
 ·rename_i u e
  rw[e,Option.some.inj h]
 ·cases h
theorem tZ(t:T):fQ t.wr=some t:=Vq (T.afs t)
def fU(p:`E):Nat:=if p=nmC 1 then 1 else if p=nmC 2 then 2 else if p=nmC 3 then 3 else if p=nmC 4 then 4 else if p=nmC 5 then 5 else if p=nmC 6 then 6 else 0
theorem QK(p:`E):fU p<=6:=by unfold fU;repeat' split<;>try decide
theorem QJ{k:Nat}(h1:1<=k)(h6:k<=6):fU (nmC k)=k:=by
 have:k=1\/k=2\/k=3\/k=4\/k=5\/k=6:=`A
 rcases this with rfl|rfl|rfl|rfl|rfl|rfl<;>decide
theorem QH{p:`E}(h:fU p≠0):p=nmC (fU p):=by
 unfold fU at h|-
 by_cases h1:p=nmC 1
 ·rw[if_pos h1];exact h1
 by_cases h2:p=nmC 2
 ·rw[if_neg h1,if_pos h2];exact h2
 by_cases h3:p=nmC 3
 ·rw[if_neg h1,if_neg h2,if_pos h3];exact h3
 by_cases h4:p=nmC 4
 ·rw[if_neg h1,if_neg h2,if_neg h3,if_pos h4];exact h4
 by_cases h5:p=nmC 5
 ·rw[if_neg h1,if_neg h2,if_neg h3,if_neg h4,if_pos h5];exact h5
 by_cases h6:p=nmC 6
 ·rw[if_neg h1,if_neg h2,if_neg h3,if_neg h4,if_neg h5,if_pos h6];exact h6
 rw[if_neg h1,if_neg h2,if_neg h3,if_neg h4,if_neg h5,if_neg h6]at h
 exact absurd rfl h
theorem aas(p:`E):([1,2,3,4,5,6].any fun k=>decide (nmC k=p))=decide (fU p≠0):=by
 by_cases h:fU p≠0
 ·have e:=QH h
  have h6:=QK p
  rw[decide_eq_true h,List.any_eq_true]
  exact⟨fU p,by have:fU p=1\/fU p=2\/fU p=3\/fU p=4\/fU p=5\/fU p=6:=`A;rcases this with z|z|z|z|z|z<;>rw[z]<;>simp,decide_eq_true e.symm⟩
 ·rw[decide_eq_false h,List.any_eq_false]
  intro k hk z
  have e:nmC k=p:=of_decide_eq_true z
  have hk':1<=k/\k<=6:=by simp at hk;lia
  apply h
  rw[<-e,QJ hk'.1 hk'.2]
  lia
def lA(p:`E):Option T:=if fU p≠0 then some (gB (fU p) [])else if p.head?=some 39 then(fQ p.tail).map (fun t=>gB 0 t.kids)else if p.head?=some 33 then(fQ p.tail).bind (fun t=>if d8 t=true then some t else none)else none
theorem V5{c:Nat}{l:`E}(h:c<97):fU (c::l)=0:=by
 have h1:=ai_ (l:=l) h
 rw[aas]at h1
 have:=of_decide_eq_false h1
 exact Decidable.not_not.mp this
theorem GJ{l:`E}:lA (39::l)=(fQ l).map (fun t=>gB 0 t.kids):=by
 unfold lA
 rw[if_neg (by rw[V5 `B];exact fun z=>z rfl),if_pos (show(39::l).head?=some 39 from rfl)]
 rfl
theorem Du{l:`E}:lA (33::l)=(fQ l).bind (fun t=>if d8 t=true then some t else none):=by
 unfold lA
 rw[if_neg (by rw[V5 `B];exact fun z=>z rfl),if_neg (show¬(33::l).head?=some 39 by simp),if_pos (show(33::l).head?=some 33 from rfl)]
 rfl
theorem Ah{p:`E}(h:fU p≠0):lA p=some (gB (fU p) []):=by unfold lA;rw[if_pos h]
theorem Ds{p:`E}(h:fU p=0)(h1:p.head?≠some 39)(h2:p.head?≠some 33):lA p=none:=by unfold lA;rw[if_neg (fun z=>z h),if_neg h1,if_neg h2]
theorem aeg{w:T}{p:`E}(h:One w p):lA p=some w:=by
 cases h with
 |odd h=>rw[Du,tZ,Option.bind_some,if_pos h]
 |lay h hs=>
  rw[GJ,tZ,Option.map_some]
  exact congrArg some (lay_of h hs).symm
 |plain h h1 h6=>
  rw[Ah (by rw[QJ h1 h6];lia),QJ h1 h6]
  exact congrArg some (afF h h1 h6).symm
theorem agh(us:`C):d8 (gB 0 us)=false/\aA (gB 0 us)=0/\aK (gB 0 us)=.node us:=by
 refine⟨?_,rfl,rfl⟩
 unfold d8 uJ
 have:T.beq (gB 0 us) leaf=false:=by
  cases z:T.beq (gB 0 us) leaf with
  |false=>rfl
  |true=>have:=(T.beq_iff _ _).mp z;cases this
 rw[this]
 rfl
theorem ac_{w:T}{p:`E}(h:lA p=some w):One w p:=by
 by_cases h6:fU p≠0
 ·rw[Ah h6]at h
  have e:=QH h6
  have hle:=QK p
  cases h
  generalize fU p=k at*
  have hk:k=1\/k=2\/k=3\/k=4\/k=5\/k=6:=`A
  subst e
  rcases hk with rfl|rfl|rfl|rfl|rfl|rfl
  ·exact One.plain (w:=gB 1 []) `B `B `B
  ·exact One.plain (w:=gB 2 []) `B `B `B
  ·exact One.plain (w:=gB 3 []) `B `B `B
  ·exact One.plain (w:=gB 4 []) `B `B `B
  ·exact One.plain (w:=gB 5 []) `B `B `B
  ·exact One.plain (w:=gB 6 []) `B `B `B
 ·have h0:fU p=0:=Decidable.not_not.mp h6
  cases p with
  |nil=>rw[Ds h0 `B `B]at h;cases h
  |cons c l=>
   by_cases c39:c=39
   ·subst c39
    rw[GJ]at h
    cases ht:fQ l with
    |none=>rw[ht]at h;cases h
    |some t=>
     rw[ht,Option.map_some]at h
     cases h
     have e:=T.um (t_ ht)
     obtain⟨a1,a2,a3⟩:=agh t.kids
     have:=One.lay a1 a2
     rw[a3]at this
     rw[<-e]
     have ek:T.node t.kids=t:=by cases t;rfl
     rw[ek]at this
     exact this
   ·by_cases c33:c=33
    ·subst c33
     rw[Du]at h
     cases ht:fQ l with
     |none=>rw[ht]at h;cases h
     |some t=>
      rw[ht,Option.bind_some]at h
      split at h
      ·rename_i ho
       cases h
       have e:=T.um (t_ ht)
       rw[<-e]
       exact One.odd ho
      ·cases h
    ·rw[Ds h0 (by simpa using c39) (by simpa using c33)]at h
     cases h
def agL(w:Option T)(st:List `C)(pl:`I):Option Rst:=match w,st with
 |some w,s::st=>some ⟨(s++[w])::st,pl,[]⟩
 |_,_=>none
def zQ(st:List `C)(pl:`I):Option Rst:=match pl,st with
 |c::pl',r::s::st'=>if c=dN then some ⟨(s++[wO r])::st',pl',[]⟩else if c=noC then(match st' with
   |u::st''=>some ⟨(u++[wU s r])::st'',pl'.tail,[]⟩
   |[]=>none)else none
 |_,_=>none
def gA(a:Rst)(p:`E):Option Rst:=
 if p=[91]then(if a.nm=nmC 7 then some ⟨[]::a.st,cR::a.pl,[]⟩else if a.nm=nmC 8 then some ⟨[]::a.st,dN::a.pl,[]⟩else none)
 else if a.nm≠[]then none
 else if p=nmC 7\/p=nmC 8 then some ⟨a.st,a.pl,p⟩
 else if p=[124]then(if a.pl.head?=some cR then some ⟨[]::a.st,noC::a.pl,[]⟩else none)
 else if p=[93]then zQ a.st a.pl
 else agL (lA p) a.st a.pl
inductive Pl:Nat->`I->Prop
 |text:Pl 1 [jB]
 |body{n:Nat}{pl:`I}(h:Pl n pl):Pl (n+1) (dN::pl)
 |yes{n:Nat}{pl:`I}(h:Pl n pl):Pl (n+1) (cR::pl)
 |no{n:Nat}{pl:`I}(h:Pl n pl):Pl (n+2) (noC::cR::pl)
structure WF(a:Rst):Prop where
 pl:Pl a.st.length a.pl
 nm:a.nm=[]\/a.nm=nmC 7\/a.nm=nmC 8
theorem Pl.pos{n:Nat}{pl:`I}(h:Pl n pl):1<=n:=by cases h<;>lia
theorem WF.start:WF ⟨[[]],[jB],[]⟩:=⟨.text,.inl rfl⟩
theorem yw{a b:Rst}{p:`E}(h:Stp a p b):gA a p=some b:=by
 obtain⟨n1,n2,n3,n4,n5,n6,n7,n8,n9,n10,n11,n12,n13,n14,n15,n16,n17,n18⟩:=agd
 cases h with
 |zY=>unfold gA;rw[if_pos rfl,if_pos rfl]
 |zX=>unfold gA;rw[if_pos rfl,if_neg (fun z=>n1 z.symm),if_pos rfl]
 |name hk=>
  unfold gA
  rcases hk with rfl|rfl
  ·rw[if_neg n2,if_neg (fun z=>z rfl),if_pos (.inl rfl)]
  ·rw[if_neg n5,if_neg (fun z=>z rfl),if_pos (.inr rfl)]
 |bar=>
  unfold gA
  rw[if_neg (Ne.symm n8),if_neg (fun z=>z rfl),if_neg (by rintro(z|z);exact n3 z.symm;exact n6 z.symm),if_pos rfl]
  exact if_pos rfl
 |DP=>
  unfold gA
  rw[if_neg (Ne.symm n9),if_neg (fun z=>z rfl),if_neg (by rintro(z|z);exact n4 z.symm;exact n7 z.symm),if_neg (Ne.symm n10),if_pos rfl]
  unfold zQ
  dsimp only
  rw[if_pos rfl]
 |DQ=>
  unfold gA
  rw[if_neg (Ne.symm n9),if_neg (fun z=>z rfl),if_neg (by rintro(z|z);exact n4 z.symm;exact n7 z.symm),if_neg (Ne.symm n10),if_pos rfl]
  unfold zQ
  dsimp only
  rw[if_neg n16,if_pos rfl]
  rfl
 |word ho=>
  obtain⟨m1,m2,m3,m4,m5⟩:=ajE ho
  unfold gA
  rw[if_neg m1,if_neg (fun z=>z rfl),if_neg (by rintro(z|z);exact m2 z;exact m3 z),if_neg m4,if_neg m5,aeg ho]
  rfl
theorem DK{a b:Rst}{p:`E}(w:WF a)(h:gA a p=some b):Stp a p b:=by
 obtain⟨st,pl,nm⟩:=a
 obtain⟨w1,w2⟩:=w
 dsimp only at w1 w2
 unfold gA at h
 dsimp only at h
 by_cases c1:p=[91]
 ·subst c1
  rw[if_pos rfl]at h
  by_cases d1:nm=nmC 7
  ·subst d1;rw[if_pos rfl]at h;cases h;exact .zY
  ·rw[if_neg d1]at h
   by_cases d2:nm=nmC 8
   ·subst d2;rw[if_pos rfl]at h;cases h;exact .zX
   ·rw[if_neg d2]at h;cases h
 rw[if_neg c1]at h
 by_cases c2:nm≠[]
 ·rw[if_pos c2]at h;cases h
 rw[if_neg c2]at h
 have c2:nm=[]:=Decidable.not_not.mp c2
 subst c2
 by_cases c3:p=nmC 7\/p=nmC 8
 ·rw[if_pos c3]at h
  cases h
  rcases c3 with rfl|rfl
  ·exact .name (.inl rfl)
  ·exact .name (.inr rfl)
 rw[if_neg c3]at h
 by_cases c4:p=[124]
 ·subst c4
  rw[if_pos rfl]at h
  by_cases d:pl.head?=some cR
  ·rw[if_pos d]at h
   cases h
   cases pl with
   |nil=>cases d
   |cons c pl=>cases d;exact .bar
  ·rw[if_neg d]at h;cases h
 rw[if_neg c4]at h
 by_cases c5:p=[93]
 ·subst c5
  rw[if_pos rfl]at h
  unfold zQ at h
  cases pl with
  |nil=>cases h
  |cons c pl=>
   match st with
   |[]=>cases h
   |[_]=>cases h
   |r::s::st=>
    dsimp only at h
    by_cases d1:c=dN
    ·subst d1;rw[if_pos rfl]at h;cases h;exact .DP
    rw[if_neg d1]at h
    by_cases d2:c=noC
    ·subst d2
     rw[if_pos rfl]at h
     cases st with
     |nil=>cases h
     |cons u st=>
      dsimp only at h
      cases h
      have:∃pl',pl=cR::pl':=by
       generalize hn:(r::s::u::st).length=n at w1
       generalize hpl:noC::pl=q at w1
       cases w1 with
       |text=>cases hpl
       |body h=>exact absurd (List.cons.inj hpl).1 `B
       |yes h=>exact absurd (List.cons.inj hpl).1 `B
       | @no _ pl' h=>exact⟨pl',(List.cons.inj hpl).2⟩
      obtain⟨pl',rfl⟩:=this
      exact .DQ
    ·rw[if_neg d2]at h;cases h
 rw[if_neg c5]at h
 unfold agL at h
 cases hw:lA p with
 |none=>rw[hw]at h;cases h
 |some w=>
  rw[hw]at h
  cases st with
  |nil=>cases h
  |cons s st=>cases h;exact .word (ac_ hw)
theorem WF.step{a b:Rst}{p:`E}(w:WF a)(h:Stp a p b):WF b:=by
 obtain⟨w1,w2⟩:=w
 cases h with
 |zY=>exact⟨.yes w1,.inl rfl⟩
 |zX=>exact⟨.body w1,.inl rfl⟩
 |name hk=>exact⟨w1,.inr (by rcases hk with rfl|rfl;exact .inl rfl;exact .inr rfl)⟩
 | @bar st pl=>
  refine⟨?_,.inl rfl⟩
  have w1:Pl st.length (cR::pl):=w1
  show Pl (st.length+1) (noC::cR::pl)
  generalize hq:cR::pl=q at w1
  generalize hn:st.length=n at w1
  cases w1 with
  |text=>exact absurd (List.cons.inj hq).1 `B
  |body h=>exact absurd (List.cons.inj hq).1 `B
  | @yes m pl' h=>exact .no h
  |no h=>exact absurd (List.cons.inj hq).1 `B
 | @DP r s st pl=>
  refine⟨?_,.inl rfl⟩
  have w1:Pl (st.length+1+1) (dN::pl):=w1
  show Pl (st.length+1) pl
  generalize hq:dN::pl=q at w1
  generalize hn:st.length+1+1=n at w1
  cases w1 with
  |text=>exact absurd (List.cons.inj hq).1 `B
  | @body m pl' h=>rw[(List.cons.inj hq).2,show st.length+1=m by lia];exact h
  |yes h=>exact absurd (List.cons.inj hq).1 `B
  |no h=>exact absurd (List.cons.inj hq).1 `B
 | @DQ n y s st pl=>
  refine⟨?_,.inl rfl⟩
  have w1:Pl (st.length+1+1+1) (noC::cR::pl):=w1
  show Pl (st.length+1) pl
  generalize hq:noC::cR::pl=q at w1
  generalize hn:st.length+1+1+1=n at w1
  cases w1 with
  |text=>exact absurd (List.cons.inj hq).1 `B
  |body h=>exact absurd (List.cons.inj hq).1 `B
  |yes h=>exact absurd (List.cons.inj hq).1 `B
  | @no m pl' h=>rw[(List.cons.inj (List.cons.inj hq).2).2,show st.length+1=m by lia];exact h
 | @word w p s st pl ho=>exact⟨w1,.inl rfl⟩
def stF:Rst->`I->Option Rst
 |a,[]=>some a
 |a,p::ps=>(gA a p).bind fun b=>stF b ps
def apw:Option Rst->Option `C
 |some ⟨[r],_,[]⟩=>some r
 |_=>none
def lC(ps:`I):Option `C:=apw (stF ⟨[[]],[jB],[]⟩ ps)
theorem Cg:∀(ps qs:`I)(a:Rst),stF a (ps++qs)=(stF a ps).bind fun b=>stF b qs
 |[],qs,a=>rfl
 |p::ps,qs,a=>by
  rw[List.cons_append,stF,stF]
  cases gA a p with
  |none=>rfl
  |some b=>rw[Option.bind_some,Option.bind_some];exact Cg ps qs b
theorem adC{a b:Rst}{ps:`I}(h:pI a ps b):stF a ps=some b:=by
 induction h with
 |nil=>rfl
 |cons h _ ih=>rw[stF,yw h,Option.bind_some];exact ih
theorem yx:∀{ps:`I}{a b:Rst},WF a->stF a ps=some b->pI a ps b/\WF b
 |[],a,b,w,h=>by cases h;exact⟨.nil,w⟩
 |p::ps,a,b,w,h=>by
  rw[stF]at h
  cases hs:gA a p with
  |none=>rw[hs]at h;cases h
  |some c=>
   rw[hs,Option.bind_some]at h
   have h1:=DK w hs
   obtain⟨g1,g2⟩:=yx (w.step h1) h
   exact⟨.cons h1 g1,g2⟩
theorem abA{ps:`I}{r:`C}(h:lC ps=some r):pI ⟨[[]],[jB],[]⟩ ps ⟨[r],[jB],[]⟩:=by
 unfold lC at h
 cases hs:stF ⟨[[]],[jB],[]⟩ ps with
 |none=>rw[hs]at h;cases h
 |some b=>
  rw[hs]at h
  obtain⟨g1,g2⟩:=yx WF.start hs
  obtain⟨st,pl,nm⟩:=b
  cases st with
  |nil=>cases h
  |cons r' st=>
   cases st with
   |cons _ _=>cases h
   |nil=>
    cases nm with
    |cons _ _=>cases h
    |nil=>
     have h:some r'=some r:=h
     cases h
     have hp:pl=[jB]:=by
      have w1:Pl 1 pl:=g2.pl
      generalize hn:(1:Nat)=n at w1
      cases w1 with
      |text=>rfl
      |body z=>have:=z.pos;lia
      |yes z=>have:=z.pos;lia
      |no z=>lia
     rw[hp]at g1
     exact g1
theorem Wf{ws:`C}{ps:`I}(h:Ts ws ps):lC ps=some ws:=by
 unfold lC
 have:=adC (Ca h [] [] [jB])
 rw[List.nil_append]at this
 rw[this]
 rfl
def fK(f:Nat)(p:`E):Prop:=∀c l t,p=c::l->fQ l=some t->t.deep<=f
theorem fK.mono{f g:Nat}{p:`E}(h:fK f p)(hg:f<=g):fK g p:=fun c l t e ht=>Nat.le_trans (h c l t e ht) hg
theorem Pg(r:`C):(wO r).deep=max 2 (T.bK r)/\(wO r).parts=10+T.aG r:=by
 have e1:(cQ 8).deep=1:=`B
 have e2:(cQ 8).parts=9:=`B
 unfold wO
 rw[T.aY,T.aW,T.aM,T.aD,e1,e2]
 lia
theorem Px(y n:`C):(wU y n).deep=max 2 (max (T.bK y+1) (T.bK n))/\(wU y n).parts=10+T.aG y+T.aG n:=by
 have e1:(cQ 7).deep=1:=`B
 have e2:(cQ 7).parts=8:=`B
 unfold wU
 rw[T.aY,T.aW,T.aW,T.aY,T.aM,T.aD,T.aD,T.aM,e1,e2]
 lia
open PySem PySem.Spec PyProof.Rows L2
section
variable{X:Cx}{scope:Scope}{cl:List (Str×Addr)}{x:Str}{fr:List Str}{js:`E}{elt iter cnd:Expr}{px pos:Pos}{wi:TI}{te:TE}{tc:TT}
end
end Sw
namespace Sw
theorem uK{f:Nat}{p:`E}(h:fQ p.tail=none):fK f p:=fun c l t e ht=>by
 subst e
 rw[show(c::l).tail=l from rfl,ht]at h
 cases h
theorem EY{f:Nat}:fK f (nmC 7)/\fK f (nmC 8)/\fK f [91]/\fK f [124]/\fK f [93]/\fK f []:=by
 refine⟨uK `D,uK `D,uK `D,uK `D,uK `D,uK `D⟩
def nxP(r c:Nat):Nat:=if c=40 then r+1 else if c=41 then r-1 else 0
def mH:Nat->`E->Nat
 |r,[]=>r
 |r,c::l=>mH (nxP r c) l
def pkP:Nat->`E->Nat
 |r,[]=>r
 |r,c::l=>max r (pkP (nxP r c) l)
theorem af8{r s:Nat}(c:Nat)(h:r<=s):nxP r c<=nxP s c:=by unfold nxP;split<;>(try split)<;>lia
theorem aib(r s c:Nat):nxP (r+s) c<=r+nxP s c:=by unfold nxP;split<;>(try split)<;>lia
theorem Jy:∀(l:`E){r s:Nat},r<=s->pkP r l<=pkP s l
 |[],_,_,h=>h
 |c::l,r,s,h=>by have:=Jy l (af8 c h);rw[pkP,pkP];lia
theorem ad9:∀(l:`E)(r s:Nat),pkP (r+s) l<=r+pkP s l
 |[],r,s=>`P
 |c::l,r,s=>by
  have h1:=Jy l (aib r s c)
  have h2:=ad9 l r (nxP s c)
  rw[pkP,pkP]
  lia
theorem alG:∀(l:`E)(r:Nat),r<=pkP r l
 |[],r=>`P
 |c::l,r=>by rw[pkP];lia
theorem aeC:∀(l:`E)(r:Nat),mH r l<=pkP r l
 |[],r=>`P
 |c::l,r=>by have:=aeC l (nxP r c);rw[mH,pkP];lia
theorem R5:∀(a b:`E)(r:Nat),mH r (a++b)=mH (mH r a) b
 |[],b,r=>rfl
 |c::a,b,r=>by rw[List.cons_append,mH,mH,R5 a b]
theorem Cw:∀(a b:`E)(r:Nat),pkP r (a++b)=max (pkP r a) (pkP (mH r a) b)
 |[],b,r=>by have:=alG b r;rw[List.nil_append,pkP,mH];lia
 |c::a,b,r=>by rw[List.cons_append,pkP,pkP,mH,Cw a b];lia
theorem aeb(a b:`E):pkP 0 (a++b)<=pkP 0 a+pkP 0 b:=by
 have h1:=aeC a 0
 have h2:=ad9 b (mH 0 a) 0
 rw[Cw]
 rw[Nat.add_zero]at h2
 lia
theorem ahP(a b:`E):pkP 0 a<=pkP 0 (a++b):=by rw[Cw];lia
theorem afG(a b:`E):pkP 0 b<=pkP 0 (a++b):=by have:=Jy b (Nat.zero_le (mH 0 a));rw[Cw];lia
theorem aea:∀(l:`E)(r:Nat),pkP r l<=r+l.count 40
 |[],r=>by rw[pkP];lia
 |c::l,r=>by
  have h:=aea l (nxP r c)
  rw[pkP,List.count_cons]
  unfold nxP at h|-
  by_cases h1:c=40
  ·subst h1
   rw[if_pos rfl]at h|-
   rw[if_pos `B]
   lia
  ·rw[if_neg h1]at h|-
   split at h
   ·rename_i h2;rw[if_pos h2];lia
   ·rename_i h2;rw[if_neg h2];lia
theorem ad_(l:`E):pkP 0 l<=l.length:=by have:=aea l 0;have:=List.count_le_length (a:=40) (l:=l);lia
mutual
theorem N_:∀(t:T)(r:Nat),mH r t.wr=r/\pkP r t.wr=r+1+t.deep
 | .node ts,r=>by
  obtain⟨h1,h2⟩:=ac6 ts (r+1)
  have e1:nxP r 40=r+1:=rfl
  have e2:nxP (r+1) 41=r:=by unfold nxP;rw[if_neg `B,if_pos rfl];lia
  rw[T.mZ,T.aY,mH,pkP,e1,R5,Cw,h1,h2,mH,pkP,e2,mH,pkP]
  exact⟨rfl,`A⟩
theorem ac6:∀(ts:`C)(r:Nat),mH r (T.wrL ts)=r/\pkP r (T.wrL ts)=r+T.bK ts
 |[],r=>by rw[T.lE,T.fC,mH,pkP];exact⟨rfl,rfl⟩
 |t::ts,r=>by
  obtain⟨h1,h2⟩:=N_ t r
  obtain⟨h3,h4⟩:=ac6 ts r
  rw[T.jl,T.aW,R5,Cw,h1,h2,h3,h4]
  exact⟨rfl,`A⟩
end
theorem xV{f:Nat}{p:`E}(h:pkP 0 p<=f+1):fK f p:=fun c l t e ht=>by
 subst e
 have e:=T.um (t_ ht)
 have h1:=(N_ t 0).2
 rw[e]at h1
 have h2:=Jy l (Nat.zero_le (nxP 0 c))
 rw[pkP]at h
 lia
mutual
theorem Jq:∀(t:T)(c:Nat),c∈t.wr->c=40\/c=41
 | .node ts,c,h=>by
  rw[T.mZ]at h
  rcases List.mem_cons.mp h with z|z
  ·exact .inl z
  ·rcases List.mem_append.mp z with z|z
   ·exact Vn ts c z
   ·exact .inr (List.mem_singleton.mp z)
theorem Vn:∀(ts:`C)(c:Nat),c∈T.wrL ts->c=40\/c=41
 |[],c,h=>by rw[T.lE]at h;cases h
 |t::ts,c,h=>by
  rw[T.jl]at h
  rcases List.mem_append.mp h with z|z
  ·exact Jq t c z
  ·exact Vn ts c z
end
theorem ac4(t:T){c:Nat}(h1:c≠40)(h2:c≠41):t.wr.count c=0:=List.count_eq_zero.mpr fun z=>by rcases Jq t c z with e|e;exact h1 e;exact h2 e
theorem iR(p q:`E)(ps:`I):aV [32] (p::q::ps)=p++32::aV [32] (q::ps):=by rw[qg _ _ `H];simp
def YH(ps:`I):Prop:=(∀p∈ps,32∉p)/\(ps=[]\/aV [32] ps≠[])
theorem GZ{n:Nat}(h:∀w:T,w.parts<=n->∃ps,Wr w ps):∀ws:`C,T.aG ws<=n->∃ps,Ts ws ps
 |[],_=>⟨[],.nil⟩
 |w::ws,hn=>by
  rw[T.aD]at hn
  obtain⟨ps,h1⟩:=h w `A
  obtain⟨qs,h2⟩:=GZ h ws `A
  exact⟨_,.cons h1 h2⟩
theorem ac5:∀(n:Nat)(w:T),w.parts<=n->∃ps,Wr w ps
 |0,w,h=>by have:=T.cZ w;lia
 |n+1,w,h=>by
  have ih:=GZ (ac5 n)
  have h1:=uF w
  have h2:=Vo (aK w)
  cases ho:d8 w with
  |true=>exact⟨_,.odd ho⟩
  |false=>
   have h8:=LR ho
   by_cases e0:aA w=0
   ·exact⟨_,.lay ho e0⟩
   by_cases e7:aA w=7
   ·obtain⟨ps,hy⟩:=ih (ats (aK w).kids 0).kids `A
    obtain⟨qs,hq⟩:=ih (aK (aK w)).kids `A
    exact⟨_,.fork ho e7 hy hq⟩
   by_cases e8:aA w=8
   ·obtain⟨ps,hb⟩:=ih (aK w).kids `A
    exact⟨_,.loop ho e8 hb⟩
   exact⟨_,.plain ho `A `A⟩
theorem ai1(ws:`C):∃ps,Ts ws ps:=GZ (ac5 _) ws `P
theorem aiw{f k:Nat}(h1:1<=k)(h6:k<=6):fK f (nmC k):=by
 have hk:k=1\/k=2\/k=3\/k=4\/k=5\/k=6:=`A
 rcases hk with rfl|rfl|rfl|rfl|rfl|rfl<;>exact uK `D
theorem ag4{k:Nat}(h1:1<=k)(h6:k<=6):isN [93] (nmC k)=0/\(nmC k).count 93=0/\pkP 0 (nmC k)=0:=by
 have hk:k=1\/k=2\/k=3\/k=4\/k=5\/k=6:=`A
 rcases hk with rfl|rfl|rfl|rfl|rfl|rfl<;>decide
theorem Xg(p:`E):nP [93] [p]=isN [93] p:=by rw[nP,nP];rfl
mutual
theorem aiX{f:Nat}:∀{w:T}{ps:`I},Wr w ps->w.deep<=f->(∀p∈ps,fK f p)/\10*nP [93] ps<=w.parts
 |w,_,.odd h,hd=>by
  refine⟨fun p hp=>?_,by rw[Xg];exact`R⟩
  rw[List.mem_singleton.mp hp]
  exact xV (by rw[pkP];have:=(N_ w (nxP 0 33)).2;have e:nxP 0 33=0:=rfl;rw[e]at this|-;lia)
 |w,_,.lay h hs,hd=>by
  have hl:=vR w
  refine⟨fun p hp=>?_,by rw[Xg];exact`R⟩
  rw[List.mem_singleton.mp hp]
  exact xV (by rw[pkP];have:=(N_ (aK w) (nxP 0 39)).2;have e:nxP 0 39=0:=rfl;rw[e]at this|-;lia)
 |w,_,.plain h h1 h6,hd=>by
  refine⟨fun p hp=>?_,by rw[Xg,(ag4 h1 h6).1];exact`R⟩
  rw[List.mem_singleton.mp hp]
  exact aiw h1 h6
 |w,_,.fork (ps:=ps) (qs:=qs) h hs hy hn,hd=>by
  have e:=JM h hs
  have s:=Px (ats (aK w).kids 0).kids (aK (aK w)).kids
  rw[<-e]at s
  obtain⟨s1,s2⟩:=s
  obtain⟨a1,a2⟩:=Cd (f:=f) hy `A
  obtain⟨b1,b2⟩:=Cd (f:=f) hn `A
  obtain⟨f7,f8,f1,f2,f3,_⟩:=EY (f:=f)
  refine⟨fun p hp=>?_,?_⟩
  ·simp only[List.mem_append,List.mem_cons,List.not_mem_nil,or_false]at hp
   rcases hp with((((rfl|rfl)|z)|rfl)|z)|rfl
   ·exact f7
   ·exact f1
   ·exact a1 p z
   ·exact f2
   ·exact b1 p z
   ·exact f3
  ·have e1:nP [93] [nmC 7,[91]]=0:=`B
   have e2:nP [93] [[93]]=1:=`B
   have e3:nP [93] [[124]]=0:=`B
   rw[vN,vN,vN,vN]
   lia
 |w,_,.loop (ps:=ps) h hs hb,hd=>by
  have e:=JH h hs
  have s:=Pg (aK w).kids
  rw[<-e]at s
  obtain⟨s1,s2⟩:=s
  obtain⟨a1,a2⟩:=Cd (f:=f) hb `A
  obtain⟨f7,f8,f1,f2,f3,_⟩:=EY (f:=f)
  refine⟨fun p hp=>?_,?_⟩
  ·simp only[List.mem_append,List.mem_cons,List.not_mem_nil,or_false]at hp
   rcases hp with((rfl|rfl)|z)|rfl
   ·exact f8
   ·exact f1
   ·exact a1 p z
   ·exact f3
  ·have e1:nP [93] [nmC 8,[91]]=0:=`B
   have e2:nP [93] [[93]]=1:=`B
   rw[vN,vN]
   lia
theorem Cd{f:Nat}:∀{ws:`C}{ps:`I},Ts ws ps->T.bK ws<=f->(∀p∈ps,fK f p)/\10*nP [93] ps<=T.aG ws
 |_,_,.nil,_=>⟨(fun p hp=>by cases hp),by rw[nP];lia⟩
 |_,_,.cons h g,hd=>by
  rw[T.aW]at hd
  obtain⟨a1,a2⟩:=aiX (f:=f) h `A
  obtain⟨b1,b2⟩:=Cd (f:=f) g `A
  rw[vN,T.aD]
  refine⟨fun p hp=>?_,`A⟩
  rcases List.mem_append.mp hp with z|z
  ·exact a1 p z
  ·exact b1 p z
end
def PcQ(f:Nat)(p:`E):Prop:=p.count 93=isN [93] p/\pkP 0 p<=f+1
theorem Wz{f:Nat}:PcQ f (nmC 7)/\PcQ f (nmC 8)/\PcQ f [91]/\PcQ f [124]/\PcQ f [93]:=by
 have e:(nmC 7).count 93=isN [93] (nmC 7)/\(nmC 8).count 93=isN [93] (nmC 8)/\([91]:`E).count 93=isN [93] [91]/\([124]:`E).count 93=isN [93] [124]/\([93]:`E).count 93=isN [93] [93]/\pkP 0 (nmC 7)=0/\pkP 0 (nmC 8)=0/\pkP 0 [91]=0/\pkP 0 [124]=0/\pkP 0 [93]=0:=`B
 obtain⟨e1,e2,e3,e4,e5,e6,e7,e8,e9,e10⟩:=e
 exact⟨⟨e1,`A⟩,⟨e2,`A⟩,⟨e3,`A⟩,⟨e4,`A⟩,⟨e5,`A⟩⟩
theorem aaD{f c:Nat}{t:T}(h1:c≠40)(h2:c≠41)(h3:c≠93)(hd:t.deep<=f):PcQ f (c::t.wr):=by
 have e0:nxP 0 c=0:=by unfold nxP;rw[if_neg h1,if_neg h2]
 have:=(N_ t 0).2
 refine⟨?_,by rw[pkP,e0];lia⟩
 rw[List.count_cons,ac4 t `B `B,if_neg (by simpa using h3)]
 unfold isN
 rw[if_neg (fun z=>h3 (List.cons.inj z).1)]
mutual
theorem alq{f:Nat}:∀{w:T}{ps:`I},Wr w ps->(∀p∈ps,fK f p)->∀p∈ps,PcQ f p
 |w,_,.odd h,hf,p,hp=>by
  have e:=List.mem_singleton.mp hp
  have:=hf p hp 33 w.wr w e (tZ w)
  rw[e]
  exact aaD `B `B `B this
 |w,_,.lay h hs,hf,p,hp=>by
  have e:=List.mem_singleton.mp hp
  have:=hf p hp 39 (aK w).wr (aK w) e (tZ _)
  rw[e]
  exact aaD `B `B `B this
 |w,_,.plain h h1 h6,hf,p,hp=>by
  obtain⟨a1,a2,a3⟩:=ag4 h1 h6
  rw[List.mem_singleton.mp hp]
  exact⟨`A,`A⟩
 |w,_,.fork (ps:=ps) (qs:=qs) h hs hy hn,hf,p,hp=>by
  have a1:=Oc hy (fun q hq=>hf q (by simp[hq]))
  have b1:=Oc hn (fun q hq=>hf q (by simp[hq]))
  obtain⟨f7,f8,f1,f2,f3⟩:=Wz (f:=f)
  simp only[List.mem_append,List.mem_cons,List.not_mem_nil,or_false]at hp
  rcases hp with((((rfl|rfl)|z)|rfl)|z)|rfl
  ·exact f7
  ·exact f1
  ·exact a1 p z
  ·exact f2
  ·exact b1 p z
  ·exact f3
 |w,_,.loop (ps:=ps) h hs hb,hf,p,hp=>by
  have a1:=Oc hb (fun q hq=>hf q (by simp[hq]))
  obtain⟨f7,f8,f1,f2,f3⟩:=Wz (f:=f)
  simp only[List.mem_append,List.mem_cons,List.not_mem_nil,or_false]at hp
  rcases hp with((rfl|rfl)|z)|rfl
  ·exact f8
  ·exact f1
  ·exact a1 p z
  ·exact f3
theorem Oc{f:Nat}:∀{ws:`C}{ps:`I},Ts ws ps->(∀p∈ps,fK f p)->∀p∈ps,PcQ f p
 |_,_,.nil,_,p,hp=>by cases hp
 |_,_,.cons h g,hf,p,hp=>by
  rcases List.mem_append.mp hp with z|z
  ·exact alq h (fun q hq=>hf q (List.mem_append.mpr (.inl hq))) p z
  ·exact Oc g (fun q hq=>hf q (List.mem_append.mpr (.inr hq))) p z
end
def wtC(c:Nat):Nat:=if c=100\/c=105\/c=102\/c=97\/c=117\/c=91\/c=124\/c=93\/c=39\/c=33 then 1 else 0
def wtS:`E->Nat
 |[]=>0
 |c::l=>wtC c+wtS l
theorem BP:∀a b:`E,wtS (a++b)=wtS a+wtS b
 |[],b=>by rw[List.nil_append,wtS];lia
 |c::a,b=>by rw[List.cons_append,wtS,wtS,BP a b];lia
structure PcV(p:`E):Prop where
 w:wtS p=1
 b:p.count 40=p.count 41
 n1:p.count 35=0
 n2:p.count 65=0
 n3:p.count 48=0
mutual
theorem yr:∀t:T,wtS t.wr=0/\t.wr.count 40=t.wr.count 41
 | .node ts=>by
  obtain⟨h1,h2⟩:=aad ts
  have e1:wtS [41]=0:=rfl
  have e2:wtC 40=0:=rfl
  have e3:([41]:`E).count 40=0:=rfl
  have e4:([41]:`E).count 41=1:=rfl
  rw[T.mZ,wtS,BP,List.count_cons,List.count_cons,List.count_append,List.count_append,if_pos `B,if_neg `B]
  exact⟨`A,`A⟩
theorem aad:∀ts:`C,wtS (T.wrL ts)=0/\(T.wrL ts).count 40=(T.wrL ts).count 41
 |[]=>by rw[T.lE];exact⟨rfl,rfl⟩
 |t::ts=>by
  obtain⟨h1,h2⟩:=yr t
  obtain⟨h3,h4⟩:=aad ts
  rw[T.jl,BP,List.count_append,List.count_append]
  exact⟨`A,`A⟩
end
theorem K5{c:Nat}(hc:c=39\/c=33)(t:T):PcV (c::t.wr):=by
 obtain⟨h1,h2⟩:=yr t
 have e:wtC c=1:=by rcases hc with rfl|rfl<;>rfl
 have z:∀d:Nat,d≠c->d≠40->d≠41->(c::t.wr).count d=0:=fun d hd h40 h41=>by
  rw[List.count_cons,ac4 t h40 h41,if_neg (by simpa using fun y=>hd y.symm)]
 refine⟨by rw[wtS];lia,?_,z 35 `A `B `B,z 65 `A `B `B,z 48 `A `B `B⟩
 rw[List.count_cons,List.count_cons,if_neg (by simp;lia),if_neg (by simp;lia)]
 lia
theorem yR{p:`E}(h:(decide (wtS p=1)&&decide (p.count 40=p.count 41)&&decide (p.count 35=0)&&decide (p.count 65=0)&&decide (p.count 48=0))=true):PcV p:=by
 simp only[Bool.and_eq_true,decide_eq_true_eq]at h
 obtain⟨⟨⟨⟨a1,a2⟩,a3⟩,a4⟩,a5⟩:=h
 exact⟨a1,a2,a3,a4,a5⟩
theorem Xf{k:Nat}(h1:1<=k)(h8:k<=8):PcV (nmC k):=by
 have:k=1\/k=2\/k=3\/k=4\/k=5\/k=6\/k=7\/k=8:=`A
 rcases this with rfl|rfl|rfl|rfl|rfl|rfl|rfl|rfl<;>exact yR `B
theorem ahi{a b:Rst}{p:`E}(h:Stp a p b):PcV p:=by
 cases h with
 |zY=>exact yR `B
 |zX=>exact yR `B
 |name hk=>rcases hk with rfl|rfl<;>exact Xf `B `B
 |bar=>exact yR `B
 |DP=>exact yR `B
 |DQ=>exact yR `B
 |word ho=>
  cases ho with
  |odd h=>exact K5 (.inr rfl) _
  |lay h hs=>exact K5 (.inl rfl) _
  |plain h h1 h6=>exact Xf h1 `A
def Unr(p:`E):Prop:=∀a b,WF a->gA a p≠some b
theorem adb{p:`E}(h:¬PcV p):Unr p:=fun _ _ w e=>h (ahi (DK w e))
def Sg6(s:Nat):Prop:=s=35\/s=65\/s=48\/s=40\/s=41\/s=124
theorem ait{a b:`E}{s:Nat}(h:PcV (a++b))(hs:Sg6 s):Unr (a++s::b):=adb fun z=>by
 obtain⟨w1,b1,n1,n2,n3⟩:=h
 obtain⟨w2,b2,m1,m2,m3⟩:=z
 rw[BP]at w1
 rw[BP,wtS]at w2
 rw[List.count_append]at n1 n2 n3 m1 m2 m3
 rw[List.count_append,List.count_append]at b1 b2
 rw[List.count_cons]at m1 m2 m3
 rw[List.count_cons,List.count_cons]at b2
 rcases hs with rfl|rfl|rfl|rfl|rfl|rfl
 ·rw[if_pos `B]at m1;lia
 ·rw[if_pos `B]at m2;lia
 ·rw[if_pos `B]at m3;lia
 ·rw[if_pos `B,if_neg `B]at b2;lia
 ·rw[if_neg `B,if_pos `B]at b2;lia
 ·have:wtC 124=1:=rfl
  lia
theorem Rr:Unr []:=adb fun z=>by have:=z.w;cases this
mutual
theorem ac3:∀(t:T){a b:`E},a++b=t.wr->a≠[]->b≠[]->a.count 41<a.count 40
 | .node ts,a,b,e,ha,hb=>by
  cases a with
  |nil=>exact absurd rfl ha
  |cons c a=>
   rw[T.mZ,List.cons_append]at e
   obtain⟨e1,e2⟩:=List.cons.inj e
   subst e1
   rw[List.count_cons,List.count_cons,if_neg `B,if_pos `B]
   obtain⟨b',x,eb⟩:∃b' x,b=b'++[x]:=⟨b.dropLast,b.getLast hb,(List.dropLast_concat_getLast hb).symm⟩
   rw[eb,<-List.append_assoc]at e2
   have e3:=(List.append_inj' e2 rfl).1
   have:=aac ts e3
   lia
theorem aac:∀(ts:`C){a b:`E},a++b=T.wrL ts->a.count 41<=a.count 40
 |[],a,b,e=>by
  rw[T.lE]at e
  rw[(List.append_eq_nil_iff.mp e).1]
  exact`P
 |t::ts,a,b,e=>by
  rw[T.jl]at e
  rcases List.append_eq_append_iff.mp e with⟨c,e1,e2⟩|⟨c,e1,e2⟩
  ·by_cases ha:a=[]
   ·rw[ha];exact`P
   ·by_cases hc:c=[]
    ·rw[hc,List.append_nil]at e1
     have:=(yr t).2
     rw[e1]at this
     lia
    ·have:=ac3 t e1.symm ha hc
     lia
  ·have h1:=(yr t).2
   have h2:=aac ts e2.symm
   rw[e1,List.count_append,List.count_append]
   lia
end
inductive Rd:`E->Prop
 |tree{c:Nat}(h:c=39\/c=33)(t:T):Rd (c::t.wr)
 |nm{k:Nat}(h1:1<=k)(h8:k<=8):Rd (nmC k)
 |mk{c:Nat}(h:c=91\/c=124\/c=93):Rd [c]
theorem ady{a b:Rst}{p:`E}(h:Stp a p b):Rd p:=by
 cases h with
 |zY=>exact .mk (.inl rfl)
 |zX=>exact .mk (.inl rfl)
 |name hk=>rcases hk with rfl|rfl<;>exact .nm `B `B
 |bar=>exact .mk (.inr (.inl rfl))
 |DP=>exact .mk (.inr (.inr rfl))
 |DQ=>exact .mk (.inr (.inr rfl))
 |word ho=>
  cases ho with
  |odd h=>exact .tree (.inr rfl) _
  |lay h hs=>exact .tree (.inl rfl) _
  |plain h h1 h6=>exact .nm h1 `A
theorem ahy{p:`E}(h:Rd p):(∃t:T,p=39::t.wr\/p=33::t.wr)\/(p.head?≠some 39/\p.head?≠some 33):=by
 cases h with
 |tree h t=>rcases h with rfl|rfl;exact .inl ⟨t,.inl rfl⟩;exact .inl ⟨t,.inr rfl⟩
 | @nm k h1 h8=>
  have:k=1\/k=2\/k=3\/k=4\/k=5\/k=6\/k=7\/k=8:=`A
  rcases this with rfl|rfl|rfl|rfl|rfl|rfl|rfl|rfl<;>exact .inr `B
 |mk h=>rcases h with rfl|rfl|rfl<;>exact .inr `B
def ab_:`I:=[nmC 1,nmC 2,nmC 3,nmC 4,nmC 5,nmC 6,nmC 7,nmC 8,[91],[124],[93]]
theorem adU{p:`E}(h:Rd p):(∃t:T,p=39::t.wr\/p=33::t.wr)\/p∈ab_:=by
 cases h with
 |tree h t=>rcases h with rfl|rfl;exact .inl ⟨t,.inl rfl⟩;exact .inl ⟨t,.inr rfl⟩
 | @nm k h1 h8=>
  have:k=1\/k=2\/k=3\/k=4\/k=5\/k=6\/k=7\/k=8:=`A
  rcases this with rfl|rfl|rfl|rfl|rfl|rfl|rfl|rfl<;>exact .inr `B
 |mk h=>rcases h with rfl|rfl|rfl<;>exact .inr `B
theorem aix:∀p∈ab_,∀q∈ab_,∀n:Nat,n<6->p.take n=q->p.drop n≠[]->False:=`B
theorem agu:∀p∈ab_,p.head?≠some 39/\p.head?≠some 33/\p.length<=5:=`B
theorem ajg{a b:`E}(h:Rd (a++b))(ha:a≠[])(hb:b≠[]):¬Rd a:=fun g=>by
 have tr:∀(c:Nat)(t:T),a++b=c::t.wr->(c=39\/c=33)->False:=fun c t e hc=>by
  cases a with
  |nil=>exact ha rfl
  |cons d a=>
   obtain⟨e1,e2⟩:=List.cons.inj (show d::(a++b)=c::t.wr from e)
   subst e1
   rcases ahy g with⟨u,hu⟩|⟨h1,h2⟩
   ·have eu:a=u.wr:=by rcases hu with z|z<;>exact(List.cons.inj z).2
    have hne:a≠[]:=by rw[eu];cases u;rw[T.mZ];simp
    have h1:=ac3 t e2 hne hb
    have h2:=(yr u).2
    rw[<-eu]at h2
    lia
   ·rcases hc with rfl|rfl
    ·exact h1 rfl
    ·exact h2 rfl
 rcases adU h with⟨t,e|e⟩|hf
 ·exact tr 39 t e (.inl rfl)
 ·exact tr 33 t e (.inr rfl)
 ·obtain⟨f1,f2,f3⟩:=agu _ hf
  rcases adU g with⟨u,e|e⟩|hg
  ·rw[e]at f1;exact f1 rfl
  ·rw[e]at f2;exact f2 rfl
  ·have hl:a.length<6:=by rw[List.length_append]at f3;lia
   exact aix _ hf _ hg a.length hl (by rw[List.take_left'];rfl) (by rw[List.drop_left'];exact hb;rfl)
def stA:Rst:=⟨[[]],[jB],[]⟩
structure YJ(qs:`I):Prop where
 each:∀p∈qs,p.length<=90000/\fK 390 p
 len:(aV [32] qs).length<=8000000
 sz:∀i sa,stF stA (qs.take i)=some sa->Sz sa
theorem ahu{a c:Rst}{ps:`I}(h:SB a ps c):Sz a->∀i sa,stF a (ps.take i)=some sa->Sz sa:=by
 induction h with
 |nil=>intro z i sa e;rw[List.take_nil,stF]at e;cases e;exact z
 | @cons a b c p ps za zb hs g ih=>
  intro z i sa e
  cases i with
  |zero=>rw[List.take_zero,stF]at e;cases e;exact z
  |succ i=>
   rw[List.take_succ_cons,stF,yw hs,Option.bind_some]at e
   exact ih zb i sa e
mutual
theorem ahe:∀{w:T}{ps:`I},Wr w ps->∀p∈ps,p.length<=2*w.parts+6
 |w,_,.odd h,p,hp=>by rw[List.mem_singleton.mp hp,List.length_cons,T.iK];lia
 |w,_,.lay h hs,p,hp=>by
  have:=uF w
  have:=T.cU (aK w)
  rw[List.mem_singleton.mp hp,List.length_cons,T.iK];lia
 |w,_,.plain h h1 h6,p,hp=>by have:=aen (aA w);rw[List.mem_singleton.mp hp];lia
 |w,_,.fork (ps:=ps) (qs:=qs) h hs hy hn,p,hp=>by
  have e:=JM h hs
  have s:=(Px (ats (aK w).kids 0).kids (aK (aK w)).kids).2
  rw[<-e]at s
  simp only[List.mem_append,List.mem_cons,List.not_mem_nil,or_false]at hp
  rcases hp with((((rfl|rfl)|z)|rfl)|z)|rfl
  ·exact Nat.le_trans (`B:(nmC 7).length<=6) `A
  ·exact Nat.le_trans (`B:([91]:`E).length<=6) `A
  ·have:=xr hy p z;lia
  ·exact Nat.le_trans (`B:([124]:`E).length<=6) `A
  ·have:=xr hn p z;lia
  ·exact Nat.le_trans (`B:([93]:`E).length<=6) `A
 |w,_,.loop (ps:=ps) h hs hb,p,hp=>by
  have e:=JH h hs
  have s:=(Pg (aK w).kids).2
  rw[<-e]at s
  simp only[List.mem_append,List.mem_cons,List.not_mem_nil,or_false]at hp
  rcases hp with((rfl|rfl)|z)|rfl
  ·exact Nat.le_trans (`B:(nmC 8).length<=6) `A
  ·exact Nat.le_trans (`B:([91]:`E).length<=6) `A
  ·have:=xr hb p z;lia
  ·exact Nat.le_trans (`B:([93]:`E).length<=6) `A
theorem xr:∀{ws:`C}{ps:`I},Ts ws ps->∀p∈ps,p.length<=2*T.aG ws+6
 |_,_,.nil,p,hp=>by cases hp
 |_,_,.cons h g,p,hp=>by
  rw[T.aD]
  rcases List.mem_append.mp hp with z|z
  ·have:=ahe h p z;lia
  ·have:=xr g p z;lia
end
theorem join_le(ps:`I):(aV [32] ps).length<=szP ps:=by
 have:=Ur [32] ps
 unfold szP
 simp only[List.length_singleton,Nat.mul_one]at this
 exact this
theorem al7{ws:`C}{ps:`I}(h:Ts ws ps):YH ps:=by
 have ok:=Jt h
 refine⟨fun p hp=>(ok p hp).2,?_⟩
 by_cases z:ps=[]
 ·exact .inl z
 ·exact .inr fun y=>z (join_nil (fun p hp=>(ok p hp).1) y)
theorem ai7:Sz stA:=⟨`B,`B,fun r hr=>by rw[List.mem_singleton.mp hr];exact acy⟩
theorem Ut{ws:`C}{ps:`I}(h:Ts ws ps)(hb:B 100 20000 `K):YJ ps:=by
 obtain⟨h1,h2⟩:=hb
 rw[T.aY]at h1
 rw[T.aM]at h2
 have f:=(Cd (f:=100) h h1).1
 have l:=xr h
 have z:=Dz h
 have j:=join_le ps
 have sb:=Ob h [] [] [jB] (by rw[List.nil_append];exact⟨by rw[T.aY];lia,by rw[T.aM];lia⟩) (fun r hr=>by cases hr) (by show 0+_<=_;lia) (by show 1+_<=_;lia)
 exact⟨fun p hp=>⟨by have:=l p hp;lia,(f p hp).mono `B⟩,`A,ahu sb ai7⟩
structure SpR(ps qs:`I):Prop where
 ex:∃A x B,qs=A++x::B/\(∃C,ps=A++C)/\(∀sa b,stF stA A=some sa->gA sa x≠some b)
 z:∀p∈qs,32∉p
 ne:aV [32] qs≠[]
 each:∀p∈qs,p.length<=90000/\fK 390 p
 len:(aV [32] qs).length<=8000000
theorem Vs{α:Type}:∀(A C:List α)(i:Nat),i<=A.length->(A++C).take i=A.take i:=fun A C i h=>by
 rw[List.take_append,show i-A.length=0 by lia,List.take_zero,List.append_nil]
theorem SpR.row{ps qs:`I}(h:SpR ps qs)(hg:YJ ps):YH qs/\YJ qs/\lC qs=none:=by
 obtain⟨⟨A,x,B,rfl,⟨C,rfl⟩,hx⟩,h2,h3,h4,h5⟩:=h
 have st:∀(D:`I),stF stA (A++x::D)=none:=fun D=>by
  rw[Cg]
  cases hs:stF stA A with
  |none=>rfl
  |some sa=>
   rw[Option.bind_some,stF]
   cases hp:gA sa x with
   |none=>rfl
   |some b=>exact absurd hp (hx sa b hs)
 refine⟨⟨h2,.inr h3⟩,⟨h4,h5,fun i sa e=>?_⟩,?_⟩
 ·rcases Nat.lt_or_ge A.length i with z|z
  ·obtain⟨j,rfl⟩:∃j,i=A.length+(j+1):=⟨i-A.length-1,`A⟩
   rw[List.take_append,List.take_of_length_le `A,show A.length+(j+1)-A.length=j+1 by lia,List.take_succ_cons,st]at e
   cases e
  ·rw[Vs _ _ _ z]at e
   refine hg.sz i sa ?_
   rw[Vs _ _ _ z]
   exact e
 ·unfold lC
  rw[show(⟨[[]],[jB],[]⟩:Rst)=stA from rfl,st]
  rfl
theorem aew:∀{ps:`I},ps≠[]->∀(n s:Nat),n<=(aV [32] ps).length->∃A p B a b,ps=A++p::B/\p=a++b/\(aV [32] ps).take n++s::(aV [32] ps).drop n=aV [32] (A++(a++s::b)::B)
 |[],h,_,_,_=>absurd rfl h
 |[p],_,n,s,hn=>⟨[],p,[],p.take n,p.drop n,rfl,(List.take_append_drop n p).symm,rfl⟩
 |p::q::ps,_,n,s,hn=>by
  rw[iR]at hn|-
  by_cases h:n<=p.length
  ·refine⟨[],p,q::ps,p.take n,p.drop n,rfl,(List.take_append_drop n p).symm,?_⟩
   rw[List.nil_append,iR,List.take_append,List.drop_append,show n-p.length=0 by lia,List.take_zero,List.drop_zero,List.append_nil]
   simp
  ·obtain⟨m,rfl⟩:∃m,n=p.length+(m+1):=⟨n-p.length-1,`A⟩
   rw[List.length_append,List.length_cons]at hn
   obtain⟨A,r,B,a,b,e1,e2,e3⟩:=aew (ps:=q::ps) `H m s `A
   refine⟨p::A,r,B,a,b,by rw[e1];rfl,e2,?_⟩
   rw[List.take_append,List.drop_append,List.take_of_length_le `A,List.drop_of_length_le (l:=p) `A,show p.length+(m+1)-p.length=m+1 by lia,List.take_succ_cons,List.drop_succ_cons,List.nil_append]
   rw[List.append_assoc,List.cons_append,e3]
   cases hA:A++(a++s::b)::B with
   |nil=>simp at hA
   |cons x y=>rw[List.cons_append,hA,iR]
theorem join_split:∀(A:`I)(a b:`E)(B:`I),aV [32] (A++(a++32::b)::B)=aV [32] (A++a::b::B)
 |[],a,b,[]=>by rw[List.nil_append,List.nil_append,iR];rfl
 |[],a,b,c::B=>by rw[List.nil_append,List.nil_append,iR,iR,iR];simp
 |x::A,a,b,B=>by
  have ih:=join_split A a b B
  cases hA:A++(a++32::b)::B with
  |nil=>simp at hA
  |cons y z=>
   cases hC:A++a::b::B with
   |nil=>simp at hC
   |cons u v=>rw[List.cons_append,List.cons_append,hA,hC,iR,iR,<-hA,<-hC,ih]
theorem ago{s:Nat}(hs:Sg6 s):gA stA [s]=none:=by
 rcases hs with rfl|rfl|rfl|rfl|rfl|rfl<;>decide+kernel
theorem adP{s:Nat}(hs:Sg6 s):s≠32:=by rcases hs with rfl|rfl|rfl|rfl|rfl|rfl<;>decide
theorem afa{ws:`C}{ps:`I}(h:Ts ws ps)(hb:B 100 20000 `K){n s:Nat}(hn:n<=(aV [32] ps).length)(hs:Sg6 s\/s=32):
  ∃qs,aV [32] qs=(aV [32] ps).take n++s::(aV [32] ps).drop n/\YH qs/\YJ qs/\lC qs=none:=by
 have rs:=Ut h hb
 have hb2:=hb.2
 have hd:=hb.1
 rw[T.aY]at hd
 rw[T.aM]at hb2
 have ok:=Jt h
 have pl:=xr h
 have pc:=Oc h (Cd (f:=100) h hd).1
 have z:=Dz h
 have j:=join_le ps
 by_cases h0:ps=[]
 ·subst h0
  have hn0:n=0:=by have:(aV [32] ([]:`I)).length=0:=rfl;lia
  subst hn0
  have fl1:∀c:Nat,fK 390 [c]:=fun c=>xV (by have:=ad_ [c];rw[List.length_singleton]at this;lia)
  rcases hs with hs|rfl
  ·refine⟨[[s]],rfl,SpR.row (ps:=[]) ⟨⟨[],[s],[],rfl,⟨[],rfl⟩,fun sa b e g=>?_⟩,fun p hp=>?_,by simp[rH],fun p hp=>?_,by rw[rH,List.length_singleton];decide⟩ rs⟩
   ·cases e;rw[ago hs]at g;cases g
   ·rw[List.mem_singleton.mp hp];simp;exact fun y=>adP hs y.symm
   ·rw[List.mem_singleton.mp hp];exact⟨by rw[List.length_singleton];decide,fl1 s⟩
  ·refine⟨[[],[]],rfl,SpR.row (ps:=[]) ⟨⟨[],[],[[]],rfl,⟨[],rfl⟩,fun sa b e g=>?_⟩,fun p hp=>?_,`B,fun p hp=>?_,`B⟩ rs⟩
   ·cases e;exact Rr stA b WF.start g
   ·simp at hp;rw[hp];simp
   ·simp at hp;rw[hp];exact⟨`B,EY.2.2.2.2.2⟩
 ·obtain⟨A,p,B',a,b,e1,e2,e3⟩:=aew h0 n s hn
  have hmem:p∈ps:=by rw[e1];simp
  have hA:∀q∈A,q∈ps:=fun q hq=>by rw[e1];simp[hq]
  have hB:∀q∈B',q∈ps:=fun q hq=>by rw[e1];simp[hq]
  have hok:=ok p hmem
  have hpl:=pl p hmem
  have hpk:=(pc p hmem).2
  have Vl:∀q∈ps,q.length<=90000/\fK 390 q:=rs.each
  have wfA:∀sa,stF stA A=some sa->WF sa:=fun sa e=>(yx WF.start e).2
  have hjl:∀qs:`I,aV [32] qs=(aV [32] ps).take n++s::(aV [32] ps).drop n->(aV [32] qs).length<=8000000/\aV [32] qs≠[]:=fun qs e=>by
   rw[e]
   refine⟨?_,`H⟩
   rw[List.length_append,List.length_cons,List.length_take,List.length_drop]
   lia
  have ajN:32∉a:=fun y=>hok.2 (by rw[e2];simp[y])
  have ajM:32∉b:=fun y=>hok.2 (by rw[e2];simp[y])
  have hrd:Rd p:=by
   obtain⟨g1,_⟩:=yx WF.start (adC (abA (Wf h)))
   have:∀{x y:Rst}{rs:`I},pI x rs y->∀q∈rs,Rd q:=by
    intro x y rs g
    induction g with
    |nil=>intro q hq;cases hq
    |cons hh _ ih=>
     intro q hq
     rcases List.mem_cons.mp hq with z|z
     ·rw[z];exact ady hh
     ·exact ih q z
   exact this g1 p hmem
  have hpv:PcV (a++b):=by
   rw[<-e2]
   cases hrd with
   |tree hc t=>exact K5 hc t
   |nm h1 h8=>exact Xf h1 h8
   |mk hc=>rcases hc with rfl|rfl|rfl<;>exact yR `B
  have pka:=ahP a b
  have pkb:=afG a b
  rw[<-e2]at pka pkb
  have la:a.length+b.length=p.length:=by rw[e2,List.length_append]
  rcases hs with hs|rfl
  ·obtain⟨l1,l2⟩:=hjl _ e3.symm
   refine⟨_,e3.symm,SpR.row (ps:=ps) ⟨⟨A,_,B',rfl,⟨p::B',e1⟩,fun sa y e=>ait hpv hs sa y (wfA sa e)⟩,fun q hq=>?_,l2,fun q hq=>?_,l1⟩ rs⟩
   ·rcases List.mem_append.mp hq with z|z
    ·exact(ok q (hA q z)).2
    ·rcases List.mem_cons.mp z with z|z
     ·rw[z]
      intro y
      rcases List.mem_append.mp y with y|y
      ·exact ajN y
      ·rcases List.mem_cons.mp y with y|y
       ·exact adP hs y.symm
       ·exact ajM y
     ·exact(ok q (hB q z)).2
   ·rcases List.mem_append.mp hq with z|z
    ·exact Vl q (hA q z)
    ·rcases List.mem_cons.mp z with z|z
     ·rw[z]
      refine⟨by rw[List.length_append,List.length_cons];lia,xV ?_⟩
      have k1:=aeb a (s::b)
      have k2:=aeb [s] b
      have k3:=ad_ [s]
      rw[List.length_singleton]at k3
      have k2:pkP 0 (s::b)<=pkP 0 [s]+pkP 0 b:=k2
      lia
     ·exact Vl q (hB q z)
  ·rw[join_split]at e3
   obtain⟨l1,l2⟩:=hjl _ e3.symm
   have ea:a.length<=90000/\fK 390 a:=⟨`A,xV `A⟩
   have eb:b.length<=90000/\fK 390 b:=⟨`A,xV `A⟩
   refine⟨_,e3.symm,SpR.row (ps:=ps) ⟨?_,fun q hq=>?_,l2,fun q hq=>?_,l1⟩ rs⟩
   ·by_cases hb0:b=[]
    ·subst hb0
     rw[List.append_nil]at e2
     subst e2
     exact⟨A++[p],[],B',`H,⟨B',by rw[e1];simp⟩,fun sa y e=>Rr sa y (yx WF.start e).2⟩
    ·by_cases ha0:a=[]
     ·subst ha0
      exact⟨A,[],b::B',rfl,⟨p::B',e1⟩,fun sa y e=>Rr sa y (wfA sa e)⟩
     ·exact⟨A,a,b::B',rfl,⟨p::B',e1⟩,fun sa y e g=>ajg (by rw[<-e2];exact hrd) ha0 hb0 (ady (DK (wfA sa e) g))⟩
   ·rcases List.mem_append.mp hq with z|z
    ·exact(ok q (hA q z)).2
    ·rcases List.mem_cons.mp z with z|z
     ·rw[z];exact ajN
     ·rcases List.mem_cons.mp z with z|z
      ·rw[z];exact ajM
      ·exact(ok q (hB q z)).2
   ·rcases List.mem_append.mp hq with z|z
    ·exact Vl q (hA q z)
    ·rcases List.mem_cons.mp z with z|z
     ·rw[z];exact ea
     ·rcases List.mem_cons.mp z with z|z
      ·rw[z];exact eb
      ·exact Vl q (hB q z)
theorem ae8(t:T)(n:Nat){s:Nat}(hs:s=40\/s=41\/s=32\/s=120):fQ (t.wr.take n++s::t.wr.drop n)=none:=by
 cases h:fQ (t.wr.take n++s::t.wr.drop n)with
 |none=>rfl
 |some u=>
  have e:=T.um (t_ h)
  have h1:=(yr u).2
  have h2:=(yr t).2
  have c:∀c:Nat,t.wr.count c=(t.wr.take n).count c+(t.wr.drop n).count c:=fun c=>by rw[<-List.count_append,List.take_append_drop]
  rw[c,c 41]at h2
  rw[e,List.count_append,List.count_append,List.count_cons,List.count_cons]at h1
  have hm:s∈u.wr:=by rw[e];simp
  rcases hs with rfl|rfl|rfl|rfl
  ·rw[if_pos `B,if_neg `B]at h1;lia
  ·rw[if_neg `B,if_pos `B]at h1;lia
  ·rcases Jq u _ hm with z|z<;>cases z
  ·rcases Jq u _ hm with z|z<;>cases z
open PySem PySem.Spec PyProof.Rows L2
section
variable{X:Cx}
end
section
variable{X:Cx}
end
section
variable{P:Program}{w:World}{K:W.Frag}{mg:`U}{base:Heap}{N:List Str}{qual:Str}{scope:Scope}{f:Addr}{cd:Value}{A:Around}{outer:List Env}{s₀:Shared}{H₀:Hp}{E:XK}
theorem ajA:Passes (CXC P w) `f E:=by
 intro pins σ H s e s' I h
 obtain⟨a,C,H',B,rfl,hE,F,_⟩:=h
 exact zW pins σ H s _ s' I ⟨a,C,H',B,rfl,hE,F⟩
end
def TJ:=L2.St->Hp->Str->VK->Prop
def ape:TJ:=fun _ H acc Q=>acc.length<=sizeLine/\Q (.str acc) H
def jC(z:Str)(k:TJ):TJ:=fun σ H acc Q=>(acc++z).length<=sizeLine/\k σ H (acc++z) Q
def jI(te:TE)(k:TJ):TJ:=fun σ H acc Q=>te σ H fun v H1=>∃i:Int,v=.int i/\i.natAbs.log2<1920/\(acc++(toString i:Str)).length<=sizeLine/\k σ H1 (acc++(toString i:Str)) Q
def jS(te:TE)(k:TJ):TJ:=fun σ H acc Q=>te σ H fun v H1=>∃z:Str,v=.str z/\z.length<=sizeLine/\(acc++z).length<=sizeLine/\k σ H1 (acc++z) Q
section
variable{X:Cx}
structure PJ(X:Cx)(es:List Expr)(t:TJ):Prop where
 run:∀(pins:`Q)(s:Shared)(σ:L2.St)(H:Hp)(acc:Str)(Q:VK),`J->t σ H acc Q->Joins `X X.A X.xe (evalEach es X.env) acc (fun out s₁=>out.length<=sizeLine/\EP X pins σ Q (.str out s₁.toks) {s₁ with toks:=s₁.toks+1}) s
theorem aec:PJ X [] ape:=⟨fun pins s σ H acc Q I h=>⟨h.1,.str acc,H,I.tok _,⟨_,rfl⟩,h.2⟩⟩
theorem afH{z:Str}{j:Nat}{pos:Pos}{es:List Expr}{k:TJ}(h:PJ X es k):PJ X (.Constant (.str z) j pos::es) (jC z k):=⟨fun pins s σ H acc Q I g=>
 Calls.Constant_str ⟨z,_,rfl,g.1,h.run pins _ σ H _ Q (I.tok _) g.2⟩⟩
theorem ajr{e:Expr}{te:TE}{pos:Pos}{es:List Expr}{k:TJ}(he:QE X e te)(h:PJ X es k):PJ X (.FormattedValue e (-1) none pos::es) (jI te k):=⟨fun pins s σ H acc Q I g=>by
 refine wpAny_FormattedValue_plain (thn (he.run pins s σ H _ I g) fun v s1⟨y,H1,I1,r1,q1⟩=>?_)
 obtain⟨i,rfl,hi,hl,q1⟩:=q1
 obtain⟨t,rfl⟩:=r1
 exact wpAny_formatField_int hi ⟨_,_,rfl,hl,h.run pins _ σ H1 _ Q (I1.tok _) q1⟩⟩
theorem anr{e:Expr}{te:TE}{pos:Pos}{es:List Expr}{k:TJ}(he:QE X e te)(h:PJ X es k):PJ X (.FormattedValue e (-1) none pos::es) (jS te k):=⟨fun pins s σ H acc Q I g=>by
 refine wpAny_FormattedValue_plain (thn (he.run pins s σ H _ I g) fun v s1⟨y,H1,I1,r1,q1⟩=>?_)
 obtain⟨z,rfl,hz,hl,q1⟩:=q1
 obtain⟨t,rfl⟩:=r1
 exact wpAny_formatField_str ⟨_,_,rfl,hl,h.run pins _ σ H1 _ Q I1 q1⟩ ⟨_,_,rfl,hl,h.run pins _ σ H1 _ Q (I1.tok _) q1⟩ hz⟩
theorem aaA{e1 e2:Expr}{es:List Expr}{pos:Pos}{t:TJ}(h:PJ X (e1::e2::es) t):QE X (.JoinedStr (e1::e2::es) pos) (fun σ H Q=>t σ H Str.empty Q):=⟨fun pins s σ H Q I g=>wpAny_JoinedStr (h.run pins s σ H _ Q I g)⟩
end
def adt(i j:Nat)(sp:Sp)(t:TA)(sub:Addr->Prop)(ts:TS):TS:=fun D σ H=>t σ H fun vs H1=>sp vs H1 (fun v H2=>D.nx (σ.set i (some v)) H2)
 (fun cls _ H2=>∃C,cls=.ref C/\sub C/\∀a,H2 a=none->ts {nx:=fun σ3 H3=>D.nx (σ3.set j none) H3,rt:=fun _ _=>False} (σ.set j (some `G)) (upd H2 a (XO a C)))
section
variable{X:Cx}
theorem Y_{k i j:Nat}{g D0:Addr}{gd:FuncData}{ps:List Str}{sp:Sp}{x xB n m:Str}{e:Expr}{es:List Expr}{t:TA}{ts:TS}{b0:Stmt}{suite:List Stmt}{p pos pos' pos2 np hp Ws:Pos}
  (hfr:X.stack=X.env::X.outer)(hf:X.env.frame=some X.env.locals)
  (F:FnOk X.prog X.w X.K X.mg X.base (CXE X.prog X.w) k g gd ps sp)(hr:Room k X.A)(hg:Gl X x)(hm:X.mg x=some (.ref g))(hk:W.keepIn X.K (.ref g)=true)(hb:Binds X.K gd ps [])
  (ha:∀E,QA (X.wish E) (e::es) t)
  (hgB:Gl X xB)(hmB:X.mg xB=some (.ref D0))(h1:W.typeIn X.K (.ref D0)=some (.type "type"))(h2:W.subIn X.K (.ref D0) (.type "BaseException")=some true)(hD:∃cd,W.clsIn X.K D0=some cd)
  (hN:X.N.Nodup)(hi:X.N[i]?=some n)(hl:X.env.scope.names.lookup n=some .local)(hj:X.N[j]?=some m)(hlj:X.env.scope.names.lookup m=some .local)
  (hs:∀a,QSs (hX X a) (b0::suite) ts)
  (hdb:`k:=by decide)(hdB:(xB==("__debug__":Str))=false:=by decide)
  (he:`n:=by rfl)(hpl:(backTo pos (starEach es X.env)).any (·.1)=false:=by rfl)
  (hsw:swapsWith (.Call (.Name x p) (e::es) [] pos) (some (.Name n pos2)) pos'.line X.env=pure false:=by rfl):
  QS X (.Try [.Assign [.Name n pos2] (.Call (.Name x p) (e::es) [] pos) pos'] [.ExceptHandler (some (.Name xB np)) (some m) (b0::suite) hp] [] [] Ws)
   (adt i j sp t (fun C=>W.subIn X.K (.ref C) (.ref D0)=some true) ts):=⟨by
 intro pins s σ H D I h
 refine wpAny_Try_except (wpAny_execs_cons (wpAny_Assign_Name (wpAny_Call_Name_kw (ld_glob I hg hm ?_ hdb)) hsw))
 generalize hEE:(fun(ev:Value)(s₁:Shared)=>wpAny `X X.A (noteFrame ev X.env) (fun _ s₂=>wpAny `X X.A (setFlight ev none) (fun _ s₃=>wpAny `X X.A (handleBy ev X.env [.ExceptHandler (some (.Name xB np)) (some m) (b0::suite) hp]) (SP X pins D) X.xe s₃) X.xe s₂) X.xe s₁)=EE
 refine W.callWith_K (h₀:=X.base) I.ok.mod.kin hk (thn ((ha EE).run pos pins s σ H _ (I.wish EE) h) fun us s1⟨vs,H1,I1,r,q⟩=>⟨I1.unwish.kIn,?_⟩) he hpl
 have I1:=I1.unwish
 have hlen:(us++[]).length=ps.length:=by rw[List.append_nil,<-r.length];exact F.len _ _ _ _ q
 have bd:=hb s1 us I1.kIn hlen
 rw[List.append_nil]at bd
 refine wpAny_call (codeAny_mono (F.run X.A X.stack s1 H1 ⟨us,[]⟩ us vs _ _ hr I1.env0 bd r q) fun r s' hq=>?_)
 cases r with
 |ok fl=>
  cases fl with
  |ret u=>
   obtain⟨v,H2,I2,rv,q2⟩:=I1.after hq
   exact store_ok I2 hN hi (.inl hl) rv (fun s2 I3=>wpAny_execs_nil (wpAny_execs_nil ⟨_,H2,I3,q2⟩)) (.inr hl)
  |next=>exact False.elim hq
  |brk=>exact False.elim hq
  |cont=>exact False.elim hq
 |error ev=>
  rw[<-hEE]
  obtain⟨a,C,H2,B,rfl,⟨C',eC,hsub,ht⟩,Fl⟩:=hq
  cases eC
  obtain⟨t0,fl⟩:=Fl.fl
  have fl':Heap.FlyingW B (X.env::X.outer) a (.ref C) t0 s'.heap:=hfr▸fl
  refine wpAny_looks_onW (by rw[I.ok.frames,hfr]) hf fl' fun h4 alU up4=>?_
  refine wpAny_landsW alU fun h5 fl5 up5=>?_
  have apu:Heap.FlyingW B X.stack a (.ref C) t0 h5:=hfr▸fl5
  have I5:=Fl.inv I1 apu (up4.trans up5)
  obtain⟨oe,q1,q2⟩:=fl5.there
  refine wpAny_handleBy_cons (codeAny_handlers_test (ld_glob (X:=hX X a) (Pq I5 a) hgB hmB ?_ hdB)) (by intro z;cases z)
  refine Uu I5.kIn q1 q2 h1 h2 hsub hD (codeAny_handlers_suite_as ?_)
  refine lands_againW fl5 fun h6 fl6 up6=>?_
  have apt:Heap.FlyingW B X.stack a (.ref C) t0 h6:=hfr▸fl6
  have I6:=Fl.inv I1 apt (up4.trans (up5.trans up6))
  refine store_ok (v:=`G) I6 hN hj (.inl hlj) rfl (fun s7 I7=>?_) (.inr hlj)
  refine wpAny_mono ((hs a).run pins s7 _ _ _ (Pq I7 a) (ht a Fl.new)) (fun fw s8 q8=>?_) (fun _ _ z=>z.elim)
  cases fw with
  |next=>
   obtain⟨σ8,H8,I8,q8⟩:=q8
   exact name_goes (agn I.ok I8) hN hj hlj fun s9 I9=>⟨_,_,I9,q8⟩
  |ret u=>
   obtain⟨_,_,_,_,_,z⟩:=q8
   exact z.elim
  |brk=>
   obtain⟨_,_,_,z⟩:=q8
   exact z.elim
  |cont=>
   obtain⟨_,_,_,z⟩:=q8
   exact z.elim⟩
theorem Wt{pins:`Q}{σ:Sg}{H:Hp}{s:Shared}{A:Around}{z y:Str}{its jts:`M}(ra:Vals [.str z,.non] its)(rb:Vals [.str y,.non] jts)(j:Nat)(j1:j<its.toArray.size)(j2:j<jts.toArray.size):
  SeqAt.EqAt A s its.toArray[j] jts.toArray[j] (if j=0 then z==y else true):=by
 cases ra with
 |cons h1 h2=>
  cases h2 with
  |cons h3 h4=>
   cases h4
   cases rb with
   |cons g1 g2=>
    cases g2 with
    |cons g3 g4=>
     cases g4
     obtain⟨t1,rfl⟩:=h1
     obtain⟨t2,rfl⟩:=g1
     cases h3
     cases g3
     match j,j1 with
     |0,_=>exact SeqAt.EqAt.str_str _ _ _ _
     |1,_=>exact SeqAt.EqAt.same _
def alB(K:W.Frag):R2:=fun x y H Q=>∃a b z y',x=`G/\y=.ref b/\SqT K H a [.str z,.non]/\SqT K H b [.str y',.non]/\Q (.bl (z==y')) H
def aly(K:W.Frag):R2:=fun x y H Q=>∃a b z y',x=`G/\y=.ref b/\SqT K H a [.str z,.non]/\SqT K H b [.str y',.non]/\Q (.bl (!(z==y'))) H
theorem ad8(z y:Str){its jts:`M}(h1:its.length=2)(h2:jts.length=2):((List.range (min its.toArray.size jts.toArray.size)).all (fun j=>if j=0 then z==y else true)&&its.toArray.size==jts.toArray.size)=(z==y):=by
 rw[List.size_toArray,List.size_toArray,h1,h2]
 show((List.range 2).all _&&_)=_
 rw[show List.range 2=[0,1]from rfl]
 simp
theorem ah1{n:Nat}(hu:X.A.units+n<cLine):OpR X (compareOp .Eq) (alB X.K):=by
 intro pins s σ H x y v u Q I rx ry h
 obtain⟨a,b,z,y',rfl,rfl,h1,h2,q⟩:=h
 cases rx
 cases ry
 obtain⟨its,rv,ht,_⟩:=I.tuple h1
 obtain⟨jts,rw',ht2,_⟩:=I.tuple h2
 have key:=SeqAt.RcAt.tuples (A:=X.A) (e:=fun j=>if j=0 then z==y' else true) ht ht2 `A (fun j j1 j2=>Wt (pins:=pins) (σ:=σ) (H:=H) rv rw' j j1 j2)
 rw[ad8 z y' rv.length.symm rw'.length.symm]at key
 exact key _ _ _ _ ⟨.bl _,H,I,rfl,q⟩
theorem ah0{n:Nat}(hu:X.A.units+n<cLine):OpR X (compareOp .NotEq) (aly X.K):=by
 intro pins s σ H x y v u Q I rx ry h
 obtain⟨a,b,z,y',rfl,rfl,h1,h2,q⟩:=h
 cases rx
 cases ry
 obtain⟨its,rv,ht,_⟩:=I.tuple h1
 obtain⟨jts,rw',ht2,_⟩:=I.tuple h2
 have key:=SeqAt.RcNeAt.tuples (A:=X.A) (e:=fun j=>if j=0 then z==y' else true) ht ht2 `A (fun j j1 j2=>Wt (pins:=pins) (σ:=σ) (H:=H) rv rw' j j1 j2)
 rw[ad8 z y' rv.length.symm rw'.length.symm]at key
 exact key _ _ _ _ ⟨.bl _,H,I,rfl,q⟩
end
end Sw
namespace Sw
abbrev Std:=`C×`C
def nx(st:Std):Std:=((onward st.1 st.2).1,(onward st.1 st.2).2.1)
def Ab(st:Std):Nat:=match(ats st.1 0).kids with
 |[]=>1
 |w::_=>if aA w=2 then(ats st.2 0).parts else 1
abbrev W(n:Nat):T:=gB n []
def Pb(st:Std):Prop:=aA (ats (ats st.1 0).kids 0)≠8
inductive Wlk:Std->Nat->Nat->Std->Prop where
 |nil{st:Std}:Wlk st 0 0 st
 |cons{st e:Std}{n c:Nat}:st.1≠[]->Pb st->Wlk (nx st) n c e->Wlk st (n+1) (c+Ab st) e
theorem Wlk.to{st e:Std}{n c n' c':Nat}(h:Wlk st n c e)(e1:n=n')(e2:c=c'):Wlk st n' c' e:=by subst e1;subst e2;exact h
theorem Wlk.one{st e u:Std}{n c k:Nat}(h1:st.1≠[])(h2:Pb st)(h3:nx st=u)(h4:Ab st=k)(g:Wlk u n c e):Wlk st (n+1) (c+k) e:=by
 subst h3;subst h4;exact .cons h1 h2 g
section
variable{t cs s:`C}{e:Std}{n c:Nat}
theorem aie{w:T}{k:Nat}(h:aA w=k)(hk:k≠8):Pb (.node (w::t)::cs,s):=by
 show aA w≠8
 rw[h];exact hk
theorem af7{w:T}(h:aA w<=6):nx (.node (w::t)::cs,s)=(.node t::cs,behind w s):=by
 unfold nx onward
 show(_,_)=_
 simp only[ats,T.kids,List.getElem?_cons_zero,Option.getD_some,List.drop_succ_cons,List.drop_zero]
 rw[if_neg `A,if_neg `A,if_neg `A]
theorem aiZ{a:T}(g:Wlk (.node t::cs,a::a::s) n c e):Wlk (.node (W 2::t)::cs,a::s) (n+1) (c+a.parts) e:=
 .one `H (aie (k:=2) rfl `B) (by rw[af7 `B,agG rfl,yS `H];rfl) rfl g
theorem ai0(g:Wlk (cs,s) n c e):Wlk (.node []::cs,s) (n+1) (c+1) e:=
 .one `H (by show 0≠8;decide) rfl rfl g
end
section
variable{t cs s us:`C}{e:Std}{n c:Nat}
def o9:Nat->`C->`C
 |1,s=>s.drop 1
 |2,s=>ats s 0::ats s 0::s.drop 1
 |3,s=>ats (s.drop 1) 0::ats s 0::s.drop 2
 |4,s=>.node (ats s 0::(ats (s.drop 1) 0).kids)::s.drop 2
 |5,s=>ats (ats s 0).kids 0::.node ((ats s 0).kids.drop 1)::s.drop 1
 |6,s=>ats (s.drop 2) 0::ats s 0::ats (s.drop 1) 0::s.drop 3
 |_,s=>s
theorem afO(s:`C):pad s 1=ats s 0::s.drop 1:=by
 cases s with
 |nil=>rfl
 |cons a s=>rw[yS `H];rfl
theorem ake{w:T}{k:Nat}(h1:1<=k)(h6:k<=6)(h:aA w=k):behind w s=o9 k s:=by
 rcases(`A:k=1\/k=2\/k=3\/k=4\/k=5\/k=6)with rfl|rfl|rfl|rfl|rfl|rfl
 ·rw[akY h,afO];rfl
 ·rw[agG h,afO];rfl
 ·rw[akX h]
  match s with
  |[]=>rfl
  |[a]=>rfl
  |a::b::s=>rw[yS `H];rfl
 ·rw[akW h]
  match s with
  |[]=>rfl
  |[a]=>rfl
  |a::b::s=>rw[yS `H];rfl
 ·rw[akV h,afO];rfl
 ·rw[akU h]
  match s with
  |[]=>rfl
  |[a]=>rfl
  |[a,b]=>rfl
  |a::b::d::s=>rw[yS `H];rfl
theorem Kq{w:T}{ws ts:`C}:onward (.node (w::ws)::ts) s=
  if aA w=7 then
   if(ats s 0).kids≠[]then(ats (w.kids.drop 1) 0::`K::ts,behind w s,7)else(.node (w.kids.drop 2)::`K::ts,behind w s,8)
  else if aA w=8 then
   if(ats s 0).kids≠[]then(aK w::.node (w::ws)::ts,behind w s,9)else(`K::ts,behind w s,10)
  else if aA w=9 then(`K::ts,behind w s,11)
  else(`K::ts,behind w s,aA w):=rfl
end
theorem aiD{tx s:`C}:Ab (tx,s)=bH tx s:=by
 unfold bH stepT
 match tx with
 |[]=>rfl
 | .node []::ts=>rfl
 | .node (w::ws)::ts=>
  have hc:Ab (.node (w::ws)::ts,s)=if aA w=2 then(ats s 0).parts else 1:=rfl
  have hst:(onward (.node (w::ws)::ts) s).2.2=2↔aA w=2:=by
   rw[Kq]
   by_cases h7:aA w=7
   ·rw[if_pos h7];split<;>(constructor<;>intro z<;>(first|cases z|lia))
   rw[if_neg h7]
   by_cases h8:aA w=8
   ·rw[if_pos h8];split<;>(constructor<;>intro z<;>(first|cases z|lia))
   rw[if_neg h8]
   by_cases h9:aA w=9
   ·rw[if_pos h9];constructor<;>intro z<;>(first|cases z|lia)
   rw[if_neg h9]
  rw[hc]
  by_cases h2:aA w=2
  ·rw[if_pos h2,if_pos (hst.mpr h2)]
  ·rw[if_neg h2,if_neg (fun z=>h2 (hst.mp z))]
theorem aiY{st e:Std}{n c:Nat}(g:Wlk st n c e)(he:e.1=[]):∀b,c<=b->(goT b st.1 st.2).1=[]/\(goT b st.1 st.2).2.1=e.2/\spT b st.1 st.2=c:=by
 induction g with
 |nil=>
  intro b _
  rw[xR (.inl he),Ci (.inl he)]
  exact⟨he,rfl,rfl⟩
 | @cons st e n c h1 h2 g ih=>
  intro b hb
  have hc:bH st.1 st.2=Ab st:=(aiD (tx:=st.1) (s:=st.2)).symm
  rw[xU h1 `A,Cj h1 `A]
  obtain⟨i1,i2,i3⟩:=ih he (b-bH st.1 st.2) `A
  exact⟨i1,i2,by rw[show(onward st.1 st.2).1=(nx st).1 from rfl,show(onward st.1 st.2).2.1=(nx st).2 from rfl,i3];lia⟩
theorem ahf{t u:T}{s:`C}{n c b:Nat}(g:Wlk ([t],[u]) n c ([],s))(hb:c<=b):iz b [t] [u]=Od/\lB b [t] [u]=ats s 0/\spT b [t] [u]=c:=by
 obtain⟨h1,h2,h3⟩:=aiY g rfl b hb
 refine⟨?_,?_,h3⟩
 ·unfold iz;rw[if_pos h1]
 ·unfold lB;rw[if_pos h1,h2]
def wt(st:Std):Nat:=T.aG st.1+T.aG st.2
theorem JB(k:Nat)(s:`C):T.aG (s.drop k)<=T.aG s:=by
 have e:=T.bM (s.take k) (s.drop k)
 rw[List.take_append_drop]at e
 lia
theorem alL(s:`C)(k:Nat):(ats s k).parts<=T.aG s+1:=by
 induction s generalizing k with
 |nil=>unfold ats leaf;rw[List.getElem?_nil,Option.getD_none,T.aM,T.aZ];lia
 |cons a s ih=>
  rw[T.aD]
  cases k with
  |zero=>show a.parts<=_;lia
  |succ k=>have:=ih k;have:=T.cZ a;show(ats s k).parts<=_;lia
theorem aef(w:T):(aK w).parts<=w.parts:=by
 have:=JB 1 w.kids
 unfold aK
 rw[T.aM,T.cU w]
 lia
theorem alK{k:Nat}(h1:1<=k)(h6:k<=6)(s:`C):T.aG (o9 k s)<=T.aG s+(if k=2 then(ats s 0).parts+1 else 3):=by
 have hl:leaf.parts=1:=by unfold leaf;rw[T.aM,T.aZ]
 have hk:leaf.kids=[]:=rfl
 have hn:(T.node []).parts=1:=by rw[T.aM,T.aZ]
 have e0:∀s:`C,ats s 0=match s with|[]=>leaf|a::_=>a:=fun s=>by cases s<;>rfl
 rcases(`A:k=1\/k=2\/k=3\/k=4\/k=5\/k=6)with rfl|rfl|rfl|rfl|rfl|rfl
 ·have:=JB 1 s;rw[if_neg `B];show T.aG (s.drop 1)<=_;lia
 ·rw[if_pos rfl]
  match s with
  |[]=>simp only[o9,e0,List.drop_nil,T.aD,T.aZ,hl];lia
  |a::s=>simp only[o9,e0,List.drop_succ_cons,List.drop_zero,T.aD];lia
 ·rw[if_neg `B]
  match s with
  |[]=>simp only[o9,e0,List.drop_nil,T.aD,T.aZ,hl];lia
  |[a]=>simp only[o9,e0,List.drop_succ_cons,List.drop_zero,List.drop_nil,T.aD,T.aZ,hl];lia
  |a::b::s=>simp only[o9,e0,List.drop_succ_cons,List.drop_zero,T.aD];lia
 ·rw[if_neg `B]
  match s with
  |[]=>simp only[o9,e0,List.drop_nil,T.aD,T.aZ,hl,hk,T.aM];lia
  |[a]=>simp only[o9,e0,List.drop_succ_cons,List.drop_zero,List.drop_nil,T.aD,T.aZ,hk,T.aM];lia
  |a::b::s=>simp only[o9,e0,List.drop_succ_cons,List.drop_zero,T.aD,T.aM];have:=T.cU b;lia
 ·rw[if_neg `B]
  match s with
  |[]=>simp only[o9,e0,List.drop_nil,T.aD,T.aZ,hl,hk,T.aM];lia
  | .node []::s=>simp only[o9,e0,T.kids,List.drop_succ_cons,List.drop_zero,List.drop_nil,T.aD,T.aZ,hl,T.aM];lia
  | .node (a::b)::s=>simp only[o9,e0,T.kids,List.drop_succ_cons,List.drop_zero,T.aD,T.aM];lia
 ·rw[if_neg `B]
  match s with
  |[]=>simp only[o9,e0,List.drop_nil,T.aD,T.aZ,hl];lia
  |[a]=>simp only[o9,e0,List.drop_succ_cons,List.drop_zero,List.drop_nil,T.aD,T.aZ,hl];lia
  |[a,b]=>simp only[o9,e0,List.drop_succ_cons,List.drop_zero,List.drop_nil,T.aD,T.aZ,hl];lia
  |a::b::d::s=>simp only[o9,e0,List.drop_succ_cons,List.drop_zero,T.aD];lia
theorem alJ(s:`C)(n:Nat):T.aG (pad s n)<=T.aG s+n:=by
 have:∀k,T.aG (List.replicate k leaf)=k:=fun k=>by
  induction k with
  |zero=>rw[List.replicate_zero,T.aZ]
  |succ k ih=>rw[List.replicate_succ,T.aD,ih,leaf,T.aM,T.aZ];lia
 unfold pad
 rw[T.bM,this]
 lia
theorem afP(w:T)(s:`C):T.aG (behind w s)<=T.aG s+(if aA w=2 then(ats s 0).parts+1 else 3)+(if aA w=0 then(aK w).parts else 0):=by
 by_cases h0:aA w=0
 ·rw[akZ h0,T.aD,if_pos h0,if_neg `A];lia
 by_cases h6:aA w<=6
 ·rw[ake (k:=aA w) `A h6 rfl]
  have:=alK (k:=aA w) `A h6 s
  lia
 ·have h9:=Ck w
  have h3:∀k,k<=9->many k<=3:=`B
  have:=h3 _ h9
  rw[SQ `A,if_neg `A]
  have:=alJ s (many (aA w))
  lia
theorem aei(w:T)(ws ts s:`C):
  T.aG (onward (.node (w::ws)::ts) s).1<=T.aG (.node (w::ws)::ts)+(if aA w=8 then(aK w).parts else 0)/\
  (aA w=0->T.aG (onward (.node (w::ws)::ts) s).1+w.parts<=T.aG (.node (w::ws)::ts))/\(onward (.node (w::ws)::ts) s).2.1=behind w s:=by
 have hw:=T.cZ w
 have hl:=aef w
 rw[Kq]
 by_cases h7:aA w=7
 ·rw[if_pos h7,if_neg (show¬aA w=8 by lia)]
  refine⟨?_,fun z=>absurd z `A,by split<;>rfl⟩
  split
  ·have:=alL (w.kids.drop 1) 0
   have:=JB 1 w.kids
   have:=T.cU w
   show T.aG (_::_::_)<=_
   simp only[T.aD,T.aM]
   lia
  ·have:=JB 2 w.kids
   have:=T.cU w
   show T.aG (_::_::_)<=_
   simp only[T.aD,T.aM]
   lia
 rw[if_neg h7]
 by_cases h8:aA w=8
 ·rw[if_pos h8,if_pos h8]
  refine⟨?_,fun z=>absurd z `A,by split<;>rfl⟩
  split
  ·show T.aG (_::_::_)<=_
   simp only[T.aD,T.aM]
   lia
  ·show T.aG (_::_)<=_
   simp only[T.aD,T.aM]
   lia
 rw[if_neg h8,if_neg h8]
 have e:T.aG (`K::ts)+w.parts=T.aG (.node (w::ws)::ts):=by simp only[T.aD,T.aM];lia
 split
 ·exact⟨by show T.aG (`K::ts)<=_;lia,fun _=>by show T.aG (`K::ts)+_<=_;lia,rfl⟩
 ·exact⟨by show T.aG (`K::ts)<=_;lia,fun _=>by show T.aG (`K::ts)+_<=_;lia,rfl⟩
theorem aln{st:Std}(h:Pb st):wt (nx st)<=wt st+3*Ab st:=by
 obtain⟨tx,s⟩:=st
 match tx with
 |[]=>
  show T.aG []+T.aG s<=T.aG []+T.aG s+_
  lia
 | .node []::ts=>
  show T.aG ts+T.aG s<=T.aG (.node []::ts)+T.aG s+_
  rw[T.aD]
  lia
 | .node (w::ws)::ts=>
  have h8:aA w≠8:=h
  obtain⟨b1,b2,b3⟩:=aei w ws ts s
  have b4:=afP w s
  have hl:=aef w
  rw[if_neg h8]at b1
  have hc:Ab (.node (w::ws)::ts,s)=if aA w=2 then(ats s 0).parts else 1:=rfl
  have hp:=T.cZ (ats s 0)
  show T.aG (onward (.node (w::ws)::ts) s).1+T.aG (onward (.node (w::ws)::ts) s).2.1<=T.aG (.node (w::ws)::ts)+T.aG s+3*Ab (.node (w::ws)::ts,s)
  rw[hc,b3]
  by_cases h2:aA w=2
  ·rw[if_pos h2,if_neg `A]at b4
   rw[if_pos h2]
   lia
  ·rw[if_neg h2]at b4
   rw[if_neg h2]
   by_cases h0:aA w=0
   ·have:=b2 h0
    rw[if_pos h0]at b4
    lia
   ·rw[if_neg h0]at b4
    lia
def acj(a:Nat)(st:Std):Prop:=(T.node st.1).deep<=a/\(T.node st.2).deep<=a
theorem alX{a:Nat}{st:Std}(ha:1<=a)(h:acj a st):acj (a+2) (nx st):=by
 obtain⟨h1,h2⟩:=h
 have hb1:(T.node st.1).parts<=(T.node st.1).parts+(T.node st.2).parts:=`A
 have hb2:(T.node st.2).parts<=(T.node st.1).parts+(T.node st.2).parts:=`A
 have:=agQ (tx:=st.1) (s:=st.2) ha ⟨h1,hb1⟩ ⟨h2,hb2⟩
 exact⟨this.1.1,this.2.1⟩
theorem aaG{st:Std}{a:Nat}(hd:acj a st)(ha:a<=390)(hw:wt st<=7900000):BX st.1/\B 390 8000000 (.node st.2):=by
 obtain⟨h1,h2⟩:=hd
 have h3:T.aG st.1+T.aG st.2<=7900000:=hw
 exact⟨BX.of (a:=390) (b:=8000000) ⟨`A,by rw[T.aM];lia⟩ `A `A,⟨`A,by rw[T.aM];lia⟩⟩
theorem ahg{st e:Std}{n c:Nat}(g:Wlk st n c e)(he:e.1=[]):∀a,1<=a->acj a st->a+2*n<=390->wt st+3*c<=7900000->∀b,Sane b st.1 st.2:=by
 induction g with
 |nil=>
  intro a ha hd hn hw b
  obtain⟨b1,b2⟩:=aaG hd `A `A
  exact .mk b1 b2 fun z=>absurd he z
 | @cons st e n c h1 h2 g ih=>
  intro a ha hd hn hw b
  obtain⟨b1,b2⟩:=aaG hd `A `A
  have w2:=aln h2
  exact .mk b1 b2 fun _ _=>ih he (a+2) `A (alX ha hd) `A `A _
end Sw
namespace SwR
open PySem PySem.Spec PyProof.Rows L2 Sw
def acO(K:W.Frag)(a:Addr)(n:Nat):It:=
 ⟨fun i H=>∃xs x,SqT K H a xs/\xs.length=n/\xs.reverse[i]?=some x,fun i H v H'=>H'=H/\∀xs,SqT K H a xs->xs.reverse[i]?=some v,fun i H=>∃xs,SqT K H a xs/\xs.length=n/\n=i⟩
theorem adS{α:Type}{xs:List α}{i:Nat}{x:α}(h:xs.reverse[i]?=some x):i<xs.length/\xs[xs.length-1-i]?=some x:=by
 have hi:i<xs.length:=by have:=(List.getElem?_eq_some_iff.mp h).1;simpa using this
 exact⟨hi,by rw[List.getElem?_reverse hi]at h;exact h⟩
theorem adh{P:Program}{w:World}{K:W.Frag}{tg:Expr}(a it:Addr)(n:Nat)(hne:a≠it):Turn P w K tg (acO K a n) [it] it (fun i h=>RvO h it a ((n:Int)-1-(i:Int)))where
 mem:=`H
 obj:=fun i h st b hb=>by
  have e:b=it:=by simpa using hb
  subst e
  obtain⟨o,ho,hc,hd⟩:=st
  exact⟨o,ho,fun v z=>by rw[hd]at z;cases z⟩
 keep:=fun i h h' st k=>st.keep fun o e=>k it `H o e
 item:=by
  intro X hP hw hK hc i pins s σ H E I hf st hg
  subst hP hw hK
  obtain⟨xs,x,hq,hn,hx⟩:=hg
  obtain⟨hi,hx'⟩:=adS hx
  obtain⟨its,rv,p,hz⟩:=I.tuple hq
  obtain⟨u,hu,ru⟩:=rv.get hx'
  obtain⟨f0,f1,f2,f3,f4,f5⟩:=hf it `H
  have hl:=rv.length
  have e1:(n:Int)-1-(i:Int)=((xs.length-1-i:Nat):Int):=`A
  rw[e1]at st
  refine next_item (items:=its.toArray) st p (x:=u) (by simpa using hu) (by rw[List.size_toArray];lia) hne fun h' tk st' sb=>?_
  have e2:((xs.length-1-i:Nat):Int)-1=(n:Int)-1-((i+1:Nat):Int):=`A
  rw[e2]at st'
  have I1:Inv X pins σ H {s with heap:=h',toks:=tk}:=I.turned (fun b o hb e=>(sb.2 b hb).trans e) f0 f1 f3 f4 f5
  obtain⟨o,e,c,d⟩:=id st'
  exact⟨u,rfl,go_of (s:={s with heap:=h',toks:=tk}) e c d `B ⟨x,H,I1,ru,⟨rfl,fun ys hy=>by rw[I.GX hy hq];exact hx⟩,st',fun b hb=>(hf b hb).1⟩⟩
 done:=by
  intro X hP hw hK hc i pins s σ H E I hf st hg
  subst hP hw hK
  obtain⟨xs,hq,hn,hx⟩:=hg
  obtain⟨f0,f1,f2,f3,f4,f5⟩:=hf it `H
  have e1:(n:Int)-1-(i:Int)=-1:=`A
  rw[e1]at st
  exact next_end (I.ok.hd hc) st fun h' eb=>⟨rfl,I.turned (t':=s.toks) (fun b o hb e=>eb b o hb e) f0 f1 f3 f4 f5⟩
 self:=fun _ _ _ _ _ st h=>z7 st h
def ag6(K:W.Frag)(tl:TE):TI:=fun σ H R=>tl σ H fun x H1=>∃a xs,x=`G/\SqT K H1 a xs/\R (acO K a xs.length) H1
theorem ahR{X:Cx}{tg l:Expr}{tl:TE}{p pos:Pos}(hg:Gl X "reversed")(hm:X.mg "reversed"=none)(hl:PE X l tl)(hs:starEach [l] X.env=[(false,eval l X.env)]:=by rfl):PI X tg (.Call (.Name "reversed" p) [l] [] pos) (ag6 X.K tl):=by
 intro pins s σ H R I h
 refine wpAny_Call_Name_kw (ld_blt I hg hm KJ ?_)
 refine PyProof.Rows.callWith_type1 ?_ (by rw[hs];rfl) (by rfl)
 rw[hs]
 refine Calls.spliced_cons (thn (hl pins s σ H _ I h) fun v s1⟨x,H1,I1,r1,q1⟩=>Calls.spliced_nil ?_)
 obtain⟨a,xs,rfl,hq,q⟩:=q1
 cases r1
 obtain⟨its,rv,ht,hz⟩:=I1.tuple hq
 have hlen:=rv.length
 have la:a<s1.heap.objs.size:=let⟨_,ho,_⟩:=ht;Heap.lt_size ho
 refine Ym ht (by rw[List.size_toArray];lia) fun tk=>?_
 have hit:RvO (s1.heap.push {cls:=.type "reversed",data:=.fields #[`G,rawInt ((its.toArray.size:Int)-1)]}) s1.heap.objs.size a ((its.toArray.size:Int)-1):=⟨_,Heap.get?_push_size _ rfl,rfl,rfl⟩
 refine z7 (s:={s1 with heap:=s1.heap.push {cls:=.type "reversed",data:=.fields #[`G,rawInt ((its.toArray.size:Int)-1)]},toks:=tk}) hit ?_
 refine⟨s1.heap.objs.size,[s1.heap.objs.size],_,acO X.K a xs.length,H1,rfl,I1.kept fun b o e=>Heap.get?_push_of_some _ e,adh a _ xs.length (Nat.ne_of_lt la),?_,fun b hb=>?_,q⟩
 ·have e1:(xs.length:Int)-1-((0:Nat):Int)=(its.toArray.size:Int)-1:=by rw[List.size_toArray];lia
  show RvO _ _ _ ((xs.length:Int)-1-((0:Nat):Int))
  rw[e1]
  exact hit
 ·have e:b=s1.heap.objs.size:=by simpa using hb
  subst e
  exact I1.fpOk `P (I1.hok.fresh `P)
section
variable{prog:Program}{w:World}{A:Around}{E:`T}{s:Shared}
end
end SwR
namespace Sw
open PySem PySem.Spec PyProof.Rows L2
section
variable{prog:Program}{w:World}{A:Around}{E:`T}{s:Shared}{K:W.Frag}{x y C:Addr}{ox:Obj}{od:Option Obj}{items:Array Value}
theorem acw{Q:`T}(kin:K.In s.heap)(J:W.InstAt s.heap x ox C od)(hm:W.mroIn K C (.type "object")=some true)(hxy:x≠y){oy:Obj}(hy:s.heap.get? y=some oy)(h:Q .notImplemented s):
  wpAny `a A (call (.builtin "object.__eq__") [.ref x,.ref y]) Q E s:=by
 refine wpAny_call (codeAny_call_builtin `D F.cmpEntry_eq ?_)
 unfold checkBuiltinCall
 rw[F.cmpKind_eq,F.cmpSplit_eq]
 dsimp only
 refine wpAny_bind ?_
 unfold isInstance
 refine wpAny_bind (J.type _ _ _ s (fun _ _ e=>e) ?_)
 refine W.looks_mroIn kin hm _ _ _ s (fun _ _ e=>e) ?_
 rw[if_neg `B]
 refine wpAny_of_eq (F.cmpArgs_eq (.ref x) (.ref y)) ?_
 unfold Builtin.«object.__eq__»
 refine wpAny_bind (wpAny_of_eq (a:=(Value.ref x,[Value.ref y])) rfl ?_)
 dsimp only
 refine wpAny_bind (wpAny_isSame_ref_other hxy J.at_ hy (by rw[J.cls];exact fun z=>nomatch z) ?_)
 rw[if_neg `B]
 exact wpAny_pure h
theorem acv{Q:`T}(kin:K.In s.heap)(J:W.InstAt s.heap x ox C od)(hm:W.mroIn K C `b=some false)(ht:s.TypeIs (.ref y) "tuple")(h:Q .notImplemented s):
  wpAny `a A (call (.builtin "tuple.__eq__") [.ref y,.ref x]) Q E s:=by
 refine wpAny_call_entry F.slot_tuple_eq ht F.entry_tuple_eq ?_ (F.args_tuple_eq_2 _ _)
 unfold Builtin.«tuple.__eq__»
 wp_delta
 refine wpAny_bind (wpAny_of_eq (a:=(Value.ref y,[Value.ref x])) rfl ?_)
 dsimp only
 refine wpAny_bind ?_
 unfold isInstance
 refine wpAny_bind (J.type _ _ _ s (fun _ _ e=>e) ?_)
 refine W.looks_mroIn kin hm _ _ _ s (fun _ _ e=>e) ?_
 rw[if_pos `B]
 exact wpAny_pure ⟨_,rfl,h⟩
theorem acf{Q:`T}(hu:A.units<cLine)(kin:K.In s.heap)(J:W.InstAt s.heap x ox C od)(he:W.findIn K (.ref C) "__eq__"=some (some (.builtin "object.__eq__")))(hm:W.mroIn K C (.type "object")=some true)
  (hmt:W.mroIn K C `b=some false)(hsub:W.subIn K `b (.ref C)=some false)(hxy:x≠y){oy:Obj}(hy:s.heap.get? y=some oy)(hc:oy.cls=`b)(h:Q (.bool false) s):
  wpAny `a A (compareOp .Eq (.ref x) (.ref y)) Q E s:=by
 have ht:s.TypeIs (.ref y) "tuple":=⟨oy,hy,hc⟩
 show wpAny _ _ (richCompare .Eq (.ref x) (.ref y)) _ _ _
 unfold richCompare
 refine wpAny_holding (wpAny_bind (wpAny_cRoomFor hu ?_))
 rw[show oneThing? CmpOp.Eq (Value.ref x) (Value.ref y)=none from rfl]
 show wpAny _ _ (typeOf (.ref x)>>=_) _ _ _
 refine wpAny_bind (J.type _ _ _ s (fun _ _ e=>e) ?_)
 refine wpAny_bind (wpAny_typeOf ht ?_)
 rw[if_pos (by rfl)]
 refine wpAny_bind (W.looks_subIn kin hsub _ _ _ s (fun _ _ e=>e) ?_)
 show wpAny _ _ (tryCompare (.ref x) (Str.ofString "__eq__") (.ref y)>>=_) _ _ _
 have al8:∀{Q':Option Value->Shared->Prop},Q' none s->wpAny `a A (tryCompare (.ref x) (Str.ofString "__eq__") (.ref y)) Q' E s:=fun{Q'}q=>by
  unfold tryCompare
  refine wpAny_bind ?_
  unfold callSpecialIfBound?
  refine wpAny_holding (wpAny_bind ?_)
  unfold bindSpecialIfBound?
  refine wpAny_bind ?_
  unfold specialOf
  refine wpAny_bind (J.type _ _ _ s (fun _ _ e=>e) ?_)
  refine W.looks_findIn kin he _ _ _ s (fun _ _ e=>e) ?_
  dsimp only
  have hb:bindSpecial (.builtin "object.__eq__") (.ref x)=pure (.builtin "object.__eq__",[.ref x]):=F.slot_object_eq.bind _
  rw[hb]
  have fin:wpAny `a A (call (.builtin "object.__eq__") ([.ref x]++[.ref y])) (fun v s1=>wpAny `a A (pure (some v)) (fun a s'=>wpAny `a A (match a with|some .notImplemented=>pure none|none=>pure none|some v=>pure (some v)) Q' E s') E s1) E s:=
   acw kin J hm hxy hy (wpAny_pure (wpAny_pure q))
  refine wpAny_bind (wpAny_askSetting ?_)
  split
  ·exact wpAny_bind (wpAny_pure (wpAny_pure (wpAny_bind fin)))
  ·exact wpAny_tryCatch (wpAny_bind (wpAny_pure (wpAny_pure (wpAny_bind fin))))
 refine wpAny_bind (al8 ?_)
 show wpAny _ _ (tryCompare (.ref y) (Str.ofString "__eq__") (.ref x)>>=_) _ _ _
 refine wpAny_bind (wpAny_tryCompare_declines ht F.slot_tuple_eq (acv kin J hmt ht ⟨rfl,?_⟩))
 refine wpAny_bind (wpAny_rule ?_)
 exact wpAny_bind (wpAny_isSame_ref_other hxy J.at_ hy (by rw[J.cls];exact fun z=>nomatch z) (wpAny_pure h))
end
end Sw
namespace SwR
open PySem PySem.Spec PyProof.Rows L2 Sw
end SwR
namespace Sw
open PySem PySem.Spec PyProof.Rows L2
structure YK(K:W.Frag)(C:Addr):Prop where
 cl:Cls K C
 eq:W.findIn K (.ref C) "__eq__"=some (some (.builtin "object.__eq__"))
 ob:W.mroIn K C (.type "object")=some true
 tu:W.mroIn K C `b=some false
 sb:W.subIn K `b (.ref C)=some false
 ca:W.findIn K (.ref C) "__class__"=some (some (.builtin "object.__class__"))
 cn:W.specialIn K (.builtin "object.__class__") "__get__"=some (some (.builtin "getset_descriptor.__get__"))
 ct:W.takesIn K (.builtin "object.__class__")=some true
theorem YK.ty{K:W.Frag}{C a dx:Addr}{fs:`c}{H:Hp}(r:YK K C)(h:H a=some (.ins C dx fs)):TyOf K H `G (.ref C):=.ins h r.cl r.ca r.cn r.ct r.ob
section
variable{X:Cx}
def adX(K:W.Frag)(n:Nat):R2:=fun x y H Q=>(∃t u,TR K H t x/\TR K H u y/\t.deep<=n/\Q (.bl (T.beq t u)) H)\/∃a C dx fs b ys,x=`G/\H a=some (.ins C dx fs)/\YK K C/\y=.ref b/\H b=some (.tup ys)/\Q (.bl false) H
theorem WM{n:Nat}(hu:X.A.units+n<cLine):OpR X (compareOp .Eq) (adX X.K n):=by
 intro pins s σ H x y v u Q I rx ry h
 rcases h with h|⟨a,C,dx,fs,b,ys,rfl,ha,r,rfl,hb,q⟩
 ·exact JD hu pins s σ H x y v u Q I rx ry h
 ·cases(show v=Value.ref a from rx)
  cases(show u=Value.ref b from ry)
  obtain⟨mA,O,_⟩:=ins_get I.hok ha
  obtain⟨od,J,_⟩:=O.look
  obtain⟨_,_,_,p⟩:=(show ObjOk X.prog X.w H s.heap b (.tup ys)from I.hok b _ hb)
  obtain⟨o,h1,h2,_⟩:=p
  exact acf `A I.kIn J r.eq r.ob r.tu r.sb (fun z=>by rw[z,hb]at ha;cases ha) h1 h2 ⟨.bl false,H,I,rfl,q⟩
theorem jx:CallR X (.builtin "isinstance") (fun xs H Q=>∃x D b,xs=[x,.ref D]/\((∃t,TyOf X.K H x t/\W.kitOne X.K t (.ref D)=some b)\/(∃a ys,x=`G/\SqT X.K H a ys/\W.kitOne X.K `b (.ref D)=some b))/\Q (.bl b) H):=by
 intro pins s σ H xs us Q I r h
 obtain⟨x,D,b,rfl,h,q⟩:=h
 obtain⟨u,w',rfl,r1,r2⟩:=vals2 r
 cases(show w'=Value.ref D from r2)
 rcases h with⟨t,ty,e⟩|⟨a,ys,rfl,hq,e⟩
 ·exact Us I r1 ty e fun tk=>⟨.bl b,H,I.tok tk,rfl,q⟩
 ·cases r1
  obtain⟨its,_,⟨o,h1,h2,_⟩,_⟩:=I.tuple hq
  exact W.kia_one W.kitx_tuple I.kIn ⟨o,h1,h2⟩ e (fun z=>nomatch z) fun tk=>⟨.bl b,H,I.tok tk,rfl,q⟩
def afv:V->`F->Hp->VK->Prop:=fun x vs H Q=>∃l xs y,x=.ref l/\vs=[.int 0,y]/\H l=some (.lst xs)/\xs.length<sizeLine/\Q .non (upd H l (.lst (y::xs)))
theorem abR:MtM X "list.insert" afv:=by
 intro pins s σ H x vs v us Q I rx rv h
 obtain⟨l,xs,y,rfl,rfl,hH,hz,q⟩:=h
 cases rx
 obtain⟨u0,u,rfl,r0,ru⟩:=vals2 rv
 obtain⟨t,rfl⟩:=r0
 obtain⟨z,its,n,r,hl,e⟩:=I.lstM hH
 refine call_meets F.slot_list_insert ⟨_,e,rfl⟩ F.entry_list_insert (F.args_list_insert_3 _ _ _) (AutoSeq1.list_insert_list_int_val_1 l its.toArray n 0 t u `B (by rw[List.size_toArray];lia)) ⟨e,?_⟩
 refine⟨.non,_,I.RB (its':=u::its) hH e `H (.cons ru r) ?_,rfl,q⟩
 rw[List.length_cons]
 lia
theorem M8:agN X (rIxL X.K):=by
 intro pins s σ H x y v u Q I rx ry h
 obtain⟨p,xs,i,z,rfl,rfl,hq,he,q⟩:=h
 cases rx
 obtain⟨t,rfl⟩:=ry
 obtain⟨its,r,pl,hz⟩:=I.list hq
 obtain⟨j,h1,h2,h3,h4,h5⟩:=atI_get he
 obtain⟨w,ew,rw'⟩:=r.get h2
 have hl:=r.length
 have hn:=line63
 have fin:EP X pins σ Q w s:=⟨z,H,I,rw',q⟩
 by_cases h0:0<=i
 ·have hj:i.toNat=j:=by
   rw[seqIndex_of h0 h5]at h1
   exact Option.some.inj h1
  exact getItem_listL pl.isList h0 `A (by rw[hj];exact ew) fin
 ·have hj:(i+(its.toArray.size:Int)).toNat=j:=by
   rw[seqIndex_neg `A h4]at h1
   rw[List.size_toArray,<-hl]
   exact Option.some.inj h1
  exact wpAny_getItem_list_neg pl.isList `A (by rw[List.size_toArray]<;>lia) `A (by rw[hj];simpa using ew) fin
theorem Q7{pos:Pos}{o i e:Expr}{to ti te:TE}{K7:V->V->Hp->VK->Prop}{tip:TIp}{K4:N5}{op:Operator}{tpos:Pos}(ho:QE X o to)(hi:QE X i ti)(hg:agN X K7)(he:QE X e te)(hp:PIp X op tip)(hs:YL X K4)
  (ha:∀ov iv new,augStore i ov iv new=(do holding [new,ov,iv] (setItem ov iv new);release [new,ov,iv] [];pure .next):=by intros;rfl):QS X (.AugAssign (.Subscript o i tpos) op e pos) (agV to ti te K7 tip K4):=⟨ahJ ho.run hi.run hg he.run hp hs ha⟩
theorem Ue{o value:Expr}{f:Str}{pos tpos:Pos}{ta tv:TE}{op:Operator}{rd:V->V->Hp->VK->Prop}(ha:QE X o ta)(hv:QE X value tv)(hop:acP X op rd):QS X (.AugAssign (.Attribute o f tpos) op value pos) (aat X.K ta tv rd f):=⟨ad7 ha.run hv.run hop⟩
theorem jG{CX:CXT}{k:Nat}{f C:Addr}{fd:FuncData}{ps:List Str}{sp:Sp}{dvs:`F}{ds:`M}{E:XK}{x:Str}{p pos:Pos}{e:Expr}{es:List Expr}{t:TA}(M:Mk X.K C f)(F:FnOk X.prog X.w X.K X.mg X.base CX k f fd ps sp)(hr:Room (k+1) X.A)(hg:Gl X x)(hm:X.mg x=some (.ref C))(hb:Binds X.K fd ps ds)(hd:Vals dvs ds)(hx:Passes CX X E)
  (ha:QA X (e::es) t)(hdb:`k:=by decide)(he:`n:=by rfl)(hpl:(backTo pos (starEach es X.env)).any (·.1)=false:=by rfl):
  QE X (.Call (.Name x p) (e::es) [] pos) (tMake C sp dvs E t):=⟨ahU M F hr hg hm hb hd hx ha.run hdb he hpl⟩
theorem ahF{tg l:Expr}{tl:TE}{p pos:Pos}(hg:Gl X "reversed")(hm:X.mg "reversed"=none)(hl:QE X l tl)(hs:starEach [l] X.env=[(false,eval l X.env)]:=by rfl):QI X tg (.Call (.Name "reversed" p) [l] [] pos) (SwR.ag6 X.K tl):=⟨SwR.ahR hg hm hl.run hs⟩
theorem ahT{a:Expr}{ta:TE}{pos:Pos}(ha:PE X a ta):PE X (.UnaryOp .Not a pos) (fun σ H Q=>ta σ H fun x H'=>∃k,YF X.K x H' k/\Q (.bl (!k)) H'):=by
 intro pins s σ H Q I h
 refine UnaryOp_ (thn (ha pins s σ H _ I h) fun v s1⟨x,H1,I1,r1,q1⟩=>?_)
 refine not_of (thn (adk pins s1 σ H1 x v (fun k H2=>Q (.bl (!k)) H2) I1 r1 q1) fun k s2⟨H2,I2,q2⟩=>?_)
 exact⟨.bl (!k),H2,I2,rfl,q2⟩
theorem ahG{a:Expr}{ta:TE}{pos:Pos}(ha:QE X a ta):QE X (.UnaryOp .Not a pos) (fun σ H Q=>ta σ H fun x H'=>∃k,YF X.K x H' k/\Q (.bl (!k)) H'):=⟨ahT ha.run⟩
end
structure Own(K:W.Frag)(ao aB aF aH aL aJ:Addr):Prop where
 rF:YK K ao
 rL:YK K aB
 fJ:Cls K aF
 cText:Cls K aH
 IW:Cls K aL
 cW:Cls K aJ
 fi:NoAttr K ao "item"
 fb:NoAttr K ao "behind"
 lt:NoAttr K aB "tree"
 lp:NoAttr K aB "place"
 wk:NoAttr K aF "kind"
 wl:NoAttr K aF "load"
 wy:NoAttr K aF "yes"
 wn:NoAttr K aF "no"
 wb:NoAttr K aF "body"
 ws:NoAttr K aF "size"
 tt:NoAttr K aH "tree"
 tw:NoAttr K aH "words"
 gt:NoAttr K aL "text"
 gp:NoAttr K aL "place"
 kg:NoAttr K aJ "goings"
 ks:NoAttr K aJ "stack"
 kn:NoAttr K aJ "numbers"
 kl:NoAttr K aJ "left"
 iTF:W.kitOne K `b (.ref ao)=some false
 iTL:W.kitOne K `b (.ref aB)=some false
 iFF:W.kitOne K (.ref ao) (.ref ao)=some true
 iLF:W.kitOne K (.ref aB) (.ref ao)=some false
 iLL:W.kitOne K (.ref aB) (.ref aB)=some true
theorem Wn(f:Str)(v:V):putF f v []=[(f,v)]:=rfl
theorem xQ(f:Str)(u v:V)(r:`c):putF f v ((f,u)::r)=(f,v)::r:=by rw[putF,if_pos rfl]
theorem bL{f g:Str}(h:¬g=f)(u v:V)(r:`c):putF f v ((g,u)::r)=(g,u)::putF f v r:=by rw[putF,if_neg h]
theorem dJ(f:Str)(u:V)(r:`c):List.lookup f ((f,u)::r)=some u:=by rw[List.lookup_cons,beq_self_eq_true]
theorem cg{f g:Str}(h:(f==g)=false)(u:V)(r:`c):List.lookup f ((g,u)::r)=List.lookup f r:=by rw[List.lookup_cons,h]
def fF(y z:V):`c:=[("item",y),("behind",z)]
def fL(v:V)(p:Nat):`c:=[("tree",v),("place",.int (p:Int))]
def fT(v:V)(W:Addr):`c:=[("tree",v),("words",.ref W)]
def fG(a:Addr)(p:Nat):`c:=[("text",`G),("place",.int (p:Int))]
def fD(k:Nat)(v y n b z:V):`c:=[("kind",.int (k:Int)),("load",v),("yes",y),("no",n),("body",b),("size",z)]
def fW(G S N:Addr)(b:Nat):`c:=[("goings",.ref G),("stack",.ref S),("numbers",.ref N),("left",.int (b:Int))]
theorem Om{f g:Str}(h:¬f=g)(u v:V):putF g v (putF f u [])=[(f,u),(g,v)]:=by rw[Wn,bL h,Wn]
inductive Role where
 |mine
 |text(t:T)(W:Addr)
 |words(t:T)
 |word(w:T)
 |row(t:T)
abbrev Mp:=Addr->Option Role
def setM(M:Mp)(p:Addr)(r:Role):Mp:=fun a=>if a=p then some r else M a
theorem dD{M:Mp}{p:Addr}{r:Role}:setM M p r p=some r:=by unfold setM;rw[if_pos rfl]
theorem gF{M:Mp}{a p:Addr}{r:Role}(h:a≠p):setM M p r a=M a:=by unfold setM;rw[if_neg h]
section
variable(K:W.Frag)(CF CL CD CT CG CW:Addr)
def RV(M:Mp)(H:Hp)(t:T)(x:V):Prop:=TR K H t x\/∃a,x=`G/\M a=some (.row t)
def wH(M:Mp)(a:Addr)(t:T):Prop:=∃W,M a=some (.text t W)
def Ok1(M:Mp)(H:Hp)(a:Addr):Role->Prop
 | .mine=>True
 | .text t W=>∃dx v,H a=some (.ins CT dx (fT v W))/\TR K H t v/\M W=some (.words t)
 | .words t=>∃xs,H a=some (.lst xs)/\xs.length<=t.kids.length/\∀(j:Nat)x,xs[j]?=some x->∃b w,x=.ref b/\t.kids[j]?=some w/\M b=some (.word w)
 | .word w=>∃dx v y n bd sz,H a=some (.ins CD dx (fD (aA w) v y n bd sz))/\TR K H (aK w) v/\(aA w=7->∃ay an,y=.ref ay/\n=.ref an/\wH M ay (ats (aK w).kids 0)/\wH M an (aK (aK w)))/\
   (aA w=8->∃ab,bd=.ref ab/\wH M ab (aK w))/\(sz=.non\/sz=.int ((aK w).parts:Nat))
 | .row t=>(∃dx y z u ts,H a=some (.ins CF dx (fF y z))/\t=.node (u::ts)/\RV K M H u y/\RV K M H (.node ts) z)\/∃dx v ts p,H a=some (.ins CL dx (fL v p))/\TR K H (.node ts) v/\p<ts.length/\ts.length<=8000000/\t=.node (ts.drop p)
structure Gh(M:Mp)(H₀ H:Hp):Prop where
 same:Same H₀ H
 new:∀a r,M a=some r->H₀ a=none
 has:∀a r,M a=some r->∃o,H a=some o
 ok:∀a r,M a=some r->Ok1 K CF CL CD CT M H a r
structure Go(X:Addr->Prop)(M M':Mp)(H₀ H H':Hp):Prop where
 ext:∀a r,M a=some r->M' a=some r
 mine:∀a,M a=some .mine->¬X a->H' a=H a
 kt:Kt H H'
 gh:Gh K CF CL CD CT M' H₀ H'
 wds:∀W t ws,M W=some (.words t)->H W=some (.lst ws)->∃ws',H' W=some (.lst ws')/\ws.length<=ws'.length
end
section
variable{K:W.Frag}{CF CL CD CT CG CW:Addr}{M M' M'':Mp}{H₀ H H' H'':Hp}{X Y:Addr->Prop}
theorem RV.mono{t:T}{x:V}(k:Kt H H')(e:∀a t,M a=some (.row t)->M' a=some (.row t))(h:RV K M H t x):RV K M' H' t x:=by
 rcases h with h|⟨a,rfl,h⟩
 ·exact .inl (h.mono k)
 ·exact .inr ⟨a,rfl,e _ _ h⟩
theorem Ok1.mono{a:Addr}{r:Role}(h:Ok1 K CF CL CD CT M H a r)(ha:H' a=H a)(k:Kt H H')(e:∀a r,r≠.mine->M a=some r->M' a=some r):Ok1 K CF CL CD CT M' H' a r:=by
 cases r with
 |mine=>trivial
 |text t W=>
  obtain⟨dx,v,h1,h2,h3⟩:=h
  exact⟨dx,v,ha.trans h1,h2.mono k,e _ _ `H h3⟩
 |words t=>
  obtain⟨xs,h1,h2,h3⟩:=h
  refine⟨xs,ha.trans h1,h2,fun j x hx=>?_⟩
  obtain⟨b,w,e1,e2,e3⟩:=h3 j x hx
  exact⟨b,w,e1,e2,e _ _ `H e3⟩
 |word w=>
  obtain⟨dx,v,y,n,bd,sz,h1,h2,h3,h4,h5⟩:=h
  refine⟨dx,v,y,n,bd,sz,ha.trans h1,h2.mono k,fun s7=>?_,fun s8=>?_,h5⟩
  ·obtain⟨ay,an,e1,e2,⟨W1,e3⟩,W2,e4⟩:=h3 s7
   exact⟨ay,an,e1,e2,⟨W1,e _ _ `H e3⟩,W2,e _ _ `H e4⟩
  ·obtain⟨ab,e1,W,e2⟩:=h4 s8
   exact⟨ab,e1,W,e _ _ `H e2⟩
 |row t=>
  have er:∀a t,M a=some (.row t)->M' a=some (.row t):=fun a t=>e a _ `H
  rcases h with⟨dx,y,z,u,ts,h1,h2,h3,h4⟩|⟨dx,v,ts,p,h1,h2,h3,h4,h5⟩
  ·exact .inl ⟨dx,y,z,u,ts,ha.trans h1,h2,h3.mono k er,h4.mono k er⟩
  ·exact .inr ⟨dx,v,ts,p,ha.trans h1,h2.mono k,h3,h4,h5⟩
theorem Gh.nil(H:Hp):Gh K CF CL CD CT (fun _=>none) H H:=⟨Same.refl _,fun _ _ z=>(by cases z),fun _ _ z=>(by cases z),fun _ _ z=>(by cases z)⟩
theorem Gh.grow(g:`h)(S:`L):Gh K CF CL CD CT M H₀ H':=
 ⟨g.same.trans S,g.new,fun a r h=>by obtain⟨o,e⟩:=g.has a r h;exact⟨o,S _ _ e⟩,fun a r h=>by
  obtain⟨o,e⟩:=g.has a r h
  exact(g.ok a r h).mono ((S _ _ e).trans e.symm) (.of S) fun _ _ _ z=>z⟩
theorem Gh.mut{p:Addr}{o:HO}(g:`h)(hp:M p=some .mine)(k:Kt H (upd H p o)):Gh K CF CL CD CT M H₀ (upd H p o):=by
 refine⟨bQ g.same (g.new _ _ hp),g.new,fun a r h=>?_,fun a r h=>?_⟩
 ·by_cases z:a=p
  ·exact⟨o,by rw[z,upd_same]⟩
  ·obtain⟨u,e⟩:=g.has a r h
   exact⟨u,by rw[upd_ne z];exact e⟩
 ·by_cases z:a=p
  ·rw[z,hp]at h
   cases h
   trivial
  ·exact(g.ok a r h).mono (upd_ne z) k fun _ _ _ z=>z
theorem Gh.put{p:Addr}{o:HO}{r:Role}(g:`h)(hp:M p=some r)(k:Kt H (upd H p o))(h:Ok1 K CF CL CD CT M (upd H p o) p r):Gh K CF CL CD CT M H₀ (upd H p o):=by
 refine⟨bQ g.same (g.new _ _ hp),g.new,fun a r h=>?_,fun a r' h'=>?_⟩
 ·by_cases z:a=p
  ·exact⟨o,by rw[z,upd_same]⟩
  ·obtain⟨u,e⟩:=g.has a r h
   exact⟨u,by rw[upd_ne z];exact e⟩
 ·by_cases z:a=p
  ·rw[z,hp]at h'
   cases h'
   rw[z]
   exact h
  ·exact(g.ok a r' h').mono (upd_ne z) k fun _ _ _ z=>z
theorem Gh.role{p:Addr}{r:Role}(g:`h)(hp:M p=none\/M p=some .mine)(hn:H₀ p=none)(hh:∃o,H p=some o)(h:Ok1 K CF CL CD CT (setM M p r) H p r):Gh K CF CL CD CT (setM M p r) H₀ H:=by
 refine⟨g.same,fun a r' h'=>?_,fun a r' h'=>?_,fun a r' h'=>?_⟩
 ·by_cases z:a=p
  ·rw[z];exact hn
  ·rw[gF z]at h';exact g.new a r' h'
 ·by_cases z:a=p
  ·rw[z];exact hh
  ·rw[gF z]at h';exact g.has a r' h'
 ·by_cases z:a=p
  ·rw[z,dD]at h'
   cases h'
   rw[z]
   exact h
  ·rw[gF z]at h'
   refine(g.ok a r' h').mono rfl (Kt.refl _) fun b r2 hr hb=>?_
   by_cases y:b=p
   ·rw[y]at hb
    rcases hp with hp|hp
    ·rw[hp]at hb;cases hb
    ·rw[hp]at hb;cases hb;exact absurd rfl hr
   ·rw[gF y];exact hb
theorem Go.refl(g:`h):Go K CF CL CD CT X M M H₀ H H:=⟨fun _ _ z=>z,fun _ _ _=>rfl,Kt.refl _,g,fun _ _ ws _ h=>⟨ws,h,`P⟩⟩
theorem Go.trans(a:Go K CF CL CD CT X M M' H₀ H H')(b:Go K CF CL CD CT X M' M'' H₀ H' H''):Go K CF CL CD CT X M M'' H₀ H H'':=
 ⟨fun p r h=>b.ext _ _ (a.ext _ _ h),fun p h x=>(b.mine p (a.ext _ _ h) x).trans (a.mine p h x),a.kt.trans b.kt,b.gh,fun W t ws h1 h2=>by
  obtain⟨w1,e1,l1⟩:=a.wds W t ws h1 h2
  obtain⟨w2,e2,l2⟩:=b.wds W t w1 (a.ext _ _ h1) e1
  exact⟨w2,e2,`A⟩⟩
theorem Go.weak(a:Go K CF CL CD CT X M M' H₀ H H')(h:∀p,X p->Y p):Go K CF CL CD CT Y M M' H₀ H H':=⟨a.ext,fun p m y=>a.mine p m fun z=>y (h p z),a.kt,a.gh,a.wds⟩
theorem Go.grow(g:`h)(S:`L):Go K CF CL CD CT X M M H₀ H H':=
 ⟨fun _ _ z=>z,fun a h _=>by obtain⟨o,e⟩:=g.has a _ h;exact(S _ _ e).trans e.symm,.of S,g.grow S,fun _ _ ws _ h=>⟨ws,S _ _ h,`P⟩⟩
theorem Go.rv{t:T}{x:V}(a:Go K CF CL CD CT X M M' H₀ H H')(h:RV K M H t x):RV K M' H' t x:=h.mono a.kt fun p t e=>a.ext p _ e
abbrev mkO(H:Hp)(x dx C:Addr)(fs:`c):Hp:=upd (upd H dx (.own x)) x (.ins C dx fs)
theorem j_{H:Hp}{p:Addr}{a b:HO}:upd (upd H p a) p b=upd H p b:=by
 funext q
 by_cases h:q=p
 ·rw[h,upd_same,upd_same]
 ·rw[upd_ne h,upd_ne h,upd_ne h]
theorem al2{H:Hp}{p q:Addr}{a b:HO}(h:p≠q):upd (upd H p a) q b=upd (upd H q b) p a:=by
 funext r
 by_cases h1:r=p
 ·rw[h1,upd_ne h,upd_same,upd_same]
 ·by_cases h2:r=q
  ·rw[h2,upd_same,upd_ne (Ne.symm h),upd_same]
  ·rw[upd_ne h2,upd_ne h1,upd_ne h1,upd_ne h2]
variable{x dx C p:Addr}{fs fs':`c}{o:HO}
theorem iD:mkO H x dx C fs x=some (.ins C dx fs):=upd_same
theorem aep:upd (mkO H x dx C fs) x (.ins C dx fs')=mkO H x dx C fs':=j_
theorem jh(hx:H x=none)(hd:H dx=none)(ne:dx≠x):Same H (mkO H x dx C fs):=by
 refine(same_new hd _).trans (same_new ?_ _)
 rw[upd_ne (Ne.symm ne)]
 exact hx
theorem Go.made(g:`h)(hx:H x=none)(hd:H dx=none)(ne:dx≠x):Go K CF CL CD CT X M (setM M x .mine) H₀ H (mkO H x dx C fs):=by
 have S:=jh (C:=C) (fs:=fs) hx hd ne
 have nM:M x=none:=by
  cases h:M x with
  |none=>rfl
  |some r=>obtain⟨o,e⟩:=g.has x r h;rw[hx]at e;cases e
 have g1:=(g.grow S).role (p:=x) (r:=.mine) (.inl nM) (g.same.free hx) ⟨_,iD⟩ trivial
 refine⟨fun a r h=>?_,fun a h _=>?_,.of S,g1,fun _ _ ws _ h=>⟨ws,S _ _ h,`P⟩⟩
 ·rw[gF (fun z=>by rw[z,nM]at h;cases h)];exact h
 ·obtain⟨o,e⟩:=g.has a _ h;exact(S _ _ e).trans e.symm
theorem Go.Rw(g:`h)(hx:H p=none):Go K CF CL CD CT X M (setM M p .mine) H₀ H (upd H p o):=by
 have S:=same_new hx o
 have nM:M p=none:=by
  cases h:M p with
  |none=>rfl
  |some r=>obtain⟨o,e⟩:=g.has p r h;rw[hx]at e;cases e
 have g1:=(g.grow S).role (p:=p) (r:=.mine) (.inl nM) (g.same.free hx) ⟨_,upd_same⟩ trivial
 refine⟨fun a r h=>?_,fun a h _=>?_,.of S,g1,fun _ _ ws _ h=>⟨ws,S _ _ h,`P⟩⟩
 ·rw[gF (fun z=>by rw[z,nM]at h;cases h)];exact h
 ·obtain⟨o,e⟩:=g.has a _ h;exact(S _ _ e).trans e.symm
theorem Go.role{r:Role}(g:`h)(S:`L)(hx:H p=none)(hh:∃o,H' p=some o)(h:Ok1 K CF CL CD CT (setM M p r) H' p r):Go K CF CL CD CT X M (setM M p r) H₀ H H':=by
 have nM:M p=none:=by
  cases h:M p with
  |none=>rfl
  |some r=>obtain⟨o,e⟩:=g.has p r h;rw[hx]at e;cases e
 have g1:=(g.grow S).role (p:=p) (r:=r) (.inl nM) (g.same.free hx) hh h
 refine⟨fun a r h=>?_,fun a h _=>?_,.of S,g1,fun _ _ ws _ h=>⟨ws,S _ _ h,`P⟩⟩
 ·rw[gF (fun z=>by rw[z,nM]at h;cases h)];exact h
 ·obtain⟨o,e⟩:=g.has a _ h;exact(S _ _ e).trans e.symm
theorem Gh.fresh(g:`h)(hx:H p=none):M p=none:=by
 cases h:M p with
 |none=>rfl
 |some r=>obtain⟨o,e⟩:=g.has p r h;rw[hx]at e;cases e
end
section
variable(K:W.Frag)(CF CL CD CT CG CW:Addr)
def UV(H:Hp)(t:T)(x:V):Prop:=TR K H t x\/∃a dx v ts p,x=`G/\H a=some (.ins CL dx (fL v p))/\TR K H (.node ts) v/\p<ts.length/\ts.length<=8000000/\t=.node (ts.drop p)
def FV(M:Mp)(H:Hp)(t:T)(x:V):Prop:=∃a dx y z u ts,x=`G/\H a=some (.ins CF dx (fF y z))/\t=.node (u::ts)/\RV K M H u y/\RV K M H (.node ts) z
def VP:Sp:=fun vs H Q _=>∃o dx y z,vs=[.ref o,y,z]/\H o=some (.ins CF dx [])/\Q .non (upd H o (.ins CF dx (fF y z)))
def VN:Sp:=fun vs H Q _=>∃(o dx:Addr)(v:V)(p:Nat),vs=[.ref o,v,.int (p:Int)]/\H o=some (.ins CL dx [])/\Q .non (upd H o (.ins CL dx (fL v p)))
def K_:Sp:=fun vs H Q _=>∃o dx a,vs=[.ref o,`G]/\H o=some (.ins CG dx [])/\Q .non (upd H o (.ins CG dx (fG a 0)))
def K9:Sp:=fun vs H Q _=>∃o dx v,vs=[.ref o,v]/\H o=some (.ins CT dx [])/\∀W,H W=none->Q .non (upd (upd H W (.lst [])) o (.ins CT dx (fT v W)))
def T9:Sp:=fun vs H Q _=>∃x t M H₀,vs=[x]/\`h/\RV K M H t x/\t.deep<=400/\∀y H',`L->RV K M H' (ats t.kids 0) y->Q y H'
def aan:Sp:=fun vs H Q _=>∃(x:V)(ts:`C)(p:Nat)(M:Mp)(H₀:Hp),vs=[x,.int (p:Int)]/\`h/\TR K H (.node ts) x/\ts.length<=8000000/\∀y M' H',`L->Go K CF CL CD CT (fun _=>False) M M' H₀ H H'->RV K M' H' (.node (ts.drop p)) y->Q y H'
def VG:Sp:=fun vs H Q _=>∃x t M H₀,vs=[x]/\`h/\RV K M H t x/\t.deep<=400/\t.kids.length<=8000000/\∀y M' H',`L->Go K CF CL CD CT (fun _=>False) M M' H₀ H H'->RV K M' H' (aK t) y->Q y H'
def VD:Sp:=fun vs H Q _=>∃x t,vs=[x]/\UV K CL H t x/\∀y H',`L->TR K H' t y->Q y H'
def VH:Sp:=fun vs H Q _=>∃(x:V)(t:T)(M:Mp)(H₀:Hp)(m:Nat),vs=[x,.int (m:Int)]/\`h/\RV K M H t x/\t.parts<=8000000/\∀(c:Nat)H',`L->(t.parts<=m->c=t.parts)->(m<t.parts->m<c)->Q (.int (c:Int)) H'
def V0:Sp:=fun vs H Q _=>∃x t M H₀,vs=[x]/\`h/\RV K M H t x/\t.parts<=8000000/\∀y H',`L->TR K H' t y->Q y H'
end
section
variable{K:W.Frag}{CF CL CD CT CG CW:Addr}{M M':Mp}{H₀ H H':Hp}
theorem uV{t:T}{x:V}(h:TR K H t x):∃b ys,x=.ref b/\SqT K H b ys/\TRs K H t.kids ys:=by
 cases t with
 |node ts=>exact bZ.mp h
theorem RV.cases{t:T}{x:V}(g:`h)(h:RV K M H t x):UV K CL H t x\/FV K CF M H t x:=by
 rcases h with h|⟨a,rfl,h⟩
 ·exact .inl (.inl h)
 ·rcases g.ok a _ h with⟨dx,y,z,u,ts,h1,h2,h3,h4⟩|⟨dx,v,ts,p,h1,h2,h3,h4,h5⟩
  ·exact .inr ⟨a,dx,y,z,u,ts,rfl,h1,h2,h3,h4⟩
  ·exact .inl (.inr ⟨a,dx,v,ts,p,rfl,h1,h2,h3,h4,h5⟩)
def WPW(K:W.Frag)(M:Mp)(H:Hp)(x:V)(m n:Nat)(p:Addr):Nat->Sg->`S:=fun μ σ H'=>∃(ys:`F)(ts:`C)(c:Nat)(o:Option V),
 σ=[some x,some (.int (m:Int)),some (.ref p),some (.int (c:Int)),o]/\`L/\H' p=some (.lst ys)/\aP (RV K M H') ts.reverse ys/\c+T.aG ts=n/\μ=2*T.aG ts-ts.length
theorem gj{ts:`C}{ys:`F}(k:Kt H H')(h:aP (RV K M H) ts ys):aP (RV K M H') ts ys:=h.imp fun _ _ z=>z.mono k fun _ _ y=>y
theorem Qt:∀{ts:`C}{ys:`F},TRs K H ts ys->aP (RV K M H) ts ys
 |[],_,h=>by rw[bJ.mp h];exact .nil
 |t::ts,_,h=>by
  obtain⟨x,r,rfl,h1,h2⟩:=b_.mp h
  exact .cons (.inl h1) (Qt h2)
theorem all_nil{α β:Type}{R:α->β->Prop}{ts:List α}(h:aP R ts.reverse []):ts=[]:=by
 have:=h.length
 rw[List.length_reverse]at this
 exact List.length_eq_zero_iff.mp (by simpa using this.symm)
theorem mO{α β:Type}{R:α->β->Prop}{ts:List α}{ys:List β}(h:aP R ts.reverse ys)(hne:ys≠[]):∃u ts0 ys0 y,ts=u::ts0/\ys=ys0++[y]/\aP R ts0.reverse ys0/\R u y:=by
 cases ts with
 |nil=>exact absurd (by cases h;rfl) hne
 |cons u ts0=>
  rw[List.reverse_cons]at h
  obtain⟨ys0,y,rfl,h1,h2⟩:=aP.snoc h
  exact⟨u,ts0,ys0,y,rfl,rfl,h1,h2⟩
theorem lW{α:Type}(xs:List α)(y:α):(xs++[y])[(xs++[y]).length-1]?=some y:=`H
theorem lY{α:Type}(xs:List α)(y:α):(xs++[y]).dropLast=xs:=`H
theorem aeR{α β:Type}{R:α->β->Prop}{ts:List α}{ys:List β}(h:aP R ts.reverse ys)(hne:ys≠[]):∃u ts0 y,ts=u::ts0/\ys[ys.length-1]?=some y/\aP R ts0.reverse ys.dropLast/\R u y:=by
 obtain⟨u,ts0,ys0,y,rfl,rfl,h1,h2⟩:=mO h hne
 exact⟨u,ts0,y,rfl,lW _ _,by rw[lY];exact h1,h2⟩
theorem Ec:∀ts:`C,T.aG ts.reverse=T.aG ts
 |[]=>rfl
 |t::ts=>by rw[List.reverse_cons,T.bM,Ec ts,T.aD,T.aD,T.aZ];lia
structure Ki(H H':Hp):Prop where
 kt:Kt H H'
 ins:∀a C dx fs,H a=some (.ins C dx fs)->H' a=some (.ins C dx fs)
theorem Ki.of(S:`L):Ki H H':=⟨.of S,fun a _ _ _ h=>S _ _ h⟩
theorem Ki.lst{p:Addr}{ys:`F}{o:HO}(h:H p=some (.lst ys)):Ki H (upd H p o):=⟨Kt.lst h,fun a _ _ _ e=>by rw[upd_ne (fun z=>by rw[z,h]at e;cases e)];exact e⟩
theorem UV.mono{t:T}{x:V}(k:Ki H H')(h:UV K CL H t x):UV K CL H' t x:=by
 rcases h with h|⟨a,dx,v,ts,p,h1,h2,h3,h4,h5,h6⟩
 ·exact .inl (h.mono k.kt)
 ·exact .inr ⟨a,dx,v,ts,p,h1,k.ins _ _ _ _ h2,h3.mono k.kt,h4,h5,h6⟩
theorem UV.ajJ{t:T}{x:V}(O:Own K CF CL CD CT CG CW)(h:UV K CL H t x):(∃ty,TyOf K H x ty/\W.kitOne K ty (.ref CF)=some false)\/(∃a ys,x=`G/\SqT K H a ys/\W.kitOne K `b (.ref CF)=some false):=by
 rcases h with h|⟨a,dx,v,ts,p,rfl,h2,_⟩
 ·obtain⟨b,ys,rfl,hb,_⟩:=uV h
  exact .inr ⟨b,ys,rfl,hb,O.iTF⟩
 ·exact .inl ⟨_,O.rL.ty h2,O.iLF⟩
theorem eZ{n:Nat}(h:n<16000000):n<sizeLine:=Nat.lt_of_lt_of_le h `B
end
def Dv:List `C->`C->T
 |[l],r::_=>.node (l++r.kids)
 |l::l'::ls,r::rs=>Dv ((l'++[.node (l++r.kids)])::ls) rs
 |_,_=>leaf
theorem ae6(l:`C)(ls:List `C)(u:T)(ts:`C)(rs:`C):Dv ([]::l::ls) (u::.node ts::rs)=Dv (l::ls) (.node (u::ts)::rs):=by
 rw[Dv]
 have e:T.node ([]++u.kids)=u:=by cases u;rfl
 rw[e]
 cases ls with
 |nil=>
  show T.node ((l++[u])++ts)=T.node (l++(u::ts))
  rw[List.append_assoc];rfl
 |cons l' ls=>
  rw[Dv,Dv]
  have:(l++[u])++(T.node ts).kids=l++(T.node (u::ts)).kids:=by
   show(l++[u])++ts=l++(u::ts)
   rw[List.append_assoc];rfl
  rw[this]
structure AsT(K:W.Frag)(H₀ H:Hp)(R P:Addr)(ys:`F)(st:List `C)(zs:`F):Prop where
 rows:qN K H₀ H R st ys
 pn:H₀ P=none
 at_:H P=some (.lst zs)
 np:(.ref P:V)∉(.ref R:V)::ys
section
variable{K:W.Frag}{H₀ H H':Hp}{R P:Addr}{ys zs zs':`F}{st:List `C}
theorem AsT.grow(h:AsT K H₀ H R P ys st zs)(S:`L):AsT K H₀ H' R P ys st zs:=⟨Ud h.rows S,h.pn,S _ _ h.at_,h.np⟩
theorem AsT.PR(h:AsT K H₀ H R P ys st zs):P≠R:=fun z=>h.np (by rw[z];exact List.mem_cons_self)
theorem AsT.place(h:AsT K H₀ H R P ys st zs):AsT K H₀ (upd H P (.lst zs')) R P ys st zs':=⟨Hl h.rows (Kt.lst h.at_) h.pn h.np,h.pn,upd_same,h.np⟩
theorem AsT.enter(h:AsT K H₀ H R P ys st zs){q:Addr}(hq:H q=none):AsT K H₀ (upd (upd H q (.lst [])) R (.lst (ys++[.ref q]))) R P (ys++[.ref q]) ([]::st) zs:=by
 have nPq:P≠q:=ne_of_none h.at_ hq
 refine⟨Hj h.rows hq,h.pn,?_,fun z=>?_⟩
 ·rw[upd_ne h.PR,upd_ne nPq];exact h.at_
 ·rcases List.mem_cons.mp z with z|z
  ·exact h.PR (V.ref.inj z)
  ·rcases List.mem_append.mp z with z|z
   ·exact h.np (List.mem_cons_of_mem _ z)
   ·exact nPq (V.ref.inj (List.mem_singleton.mp z))
theorem AsT.add{r:`C}{rs:List `C}{t:T}{x:V}(h:AsT K H₀ H R P ys (r::rs) zs)(ht:TR K H t x):
  ∃(ys0:`F)(a:Addr)(xs:`F),ys=ys0++[`G]/\H a=some (.lst xs)/\xs.length=r.length/\AsT K H₀ (upd H a (.lst (xs++[x]))) R P ys ((r++[t])::rs) zs:=by
 have hr:=h.rows.rows
 rw[List.reverse_cons]at hr
 obtain⟨ys0,y,rfl,h1,a,xs,rfl,ha0,ha,hta⟩:=aP.snoc hr
 have nd:=h.rows.nd
 have ndp:=(List.nodup_cons.mp nd).1
 have ndy:=(List.nodup_cons.mp nd).2
 have na:(`G:V)∉ys0:=fun z=>(List.nodup_append.mp ndy).2.2 _ z _ `H rfl
 have nRa:R≠a:=fun z=>ndp (by rw[z];simp)
 have nPa:P≠a:=fun z=>h.np (by rw[z];simp)
 have k:=Kt.lst (o:=.lst (xs++[x])) ha
 refine⟨ys0,a,xs,rfl,ha,hta.length,⟨h.rows.new,bQ h.rows.same ha0,by rw[upd_ne nRa];exact h.rows.at_,?_,nd⟩,h.pn,by rw[upd_ne nPa];exact h.at_,h.np⟩
 rw[List.reverse_cons]
 exact aP.append (kJ k h1 na) (aP.one ⟨a,_,rfl,ha0,upd_same,TRs.append (hta.mono k) (kh (ht.mono k))⟩)
theorem AsT.shut{r:`C}{rs:List `C}(h:AsT K H₀ H R P ys (r::rs) zs):
  ∃(ys0:`F)(a:Addr)(xs:`F),ys=ys0++[`G]/\R≠a/\H a=some (.lst xs)/\TRs K H r xs/\AsT K H₀ (upd H R (.lst ys0)) R P ys0 rs zs:=by
 have hr:=h.rows.rows
 rw[List.reverse_cons]at hr
 obtain⟨ys0,y,rfl,h1,a,xs,rfl,ha0,ha,hta⟩:=aP.snoc hr
 have nd:=h.rows.nd
 have ndp:=(List.nodup_cons.mp nd).1
 have ndy:=(List.nodup_cons.mp nd).2
 have nRa:R≠a:=fun z=>ndp (by rw[z];simp)
 have k:=Kt.lst (o:=.lst ys0) h.rows.at_
 refine⟨ys0,a,xs,rfl,nRa,ha,hta,⟨h.rows.new,bQ h.rows.same h.rows.new,upd_same,kJ k h1 fun z=>ndp (by simp[z]),List.nodup_cons.mpr ⟨fun z=>ndp (by simp[z]),(List.nodup_append.mp ndy).1⟩⟩,h.pn,by rw[upd_ne h.PR];exact h.at_,fun z=>h.np ?_⟩
 rcases List.mem_cons.mp z with z|z
 ·rw[z];exact List.mem_cons_self
 ·exact List.mem_cons_of_mem _ (List.mem_append_left _ z)
theorem ais{α:Type}(xs:List α)(y:α):ixN (xs++[y]).length (-1)=some xs.length:=by
 unfold ixN
 have hl:(xs++[y]).length=xs.length+1:=`H
 rw[if_neg `B,if_pos (by rw[hl];lia),hl,show((-1:Int)+((xs.length+1:Nat):Int)).toNat=xs.length by lia]
theorem afj{α:Type}(xs:List α)(y z:α):(xs++[y]).set xs.length z=xs++[z]:=`H
end
def sE(k:Nat)(t:T):Nat:=if k=7 then(if t.kids=[]then 8 else 7)else if k=8 then(if t.kids=[]then 10 else 9)else if k=9 then 11 else k
section
variable(K:W.Frag)(CF CL CD CT CG CW:Addr)
def aal:Sp:=fun vs H Q _=>∃(k:Nat)(x:V)(t:T)(M:Mp)(H₀:Hp),vs=[.int (k:Int),x]/\`h/\RV K M H t x/\t.deep<=400/\∀H',`L->Q (.int (sE k t:Nat)) H'
def W7(M:Mp)(w:T)(y n:V):Prop:=aA w=7->∃ay an,y=.ref ay/\n=.ref an/\wH M ay (ats (aK w).kids 0)/\wH M an (aK (aK w))
def W8(M:Mp)(w:T)(b:V):Prop:=aA w=8->∃ab,b=.ref ab/\wH M ab (aK w)
def Vz:Sp:=fun vs H Q _=>∃(o dx:Addr)(x:V)(w:T)(M:Mp)(H₀:Hp),vs=[.ref o,x]/\`h/\M o=some .mine/\H o=some (.ins CD dx [])/\TR K H w x/\w.deep<=400/\
 ∀M' H' v y n b,Go K CF CL CD CT (fun a=>a=o) M M' H₀ H H'->(∀c u,H c=some u->c≠o->H' c=some u)->H' o=some (.ins CD dx (fD (aA w) v y n b .non))->TR K H' (aK w) v->W7 M' w y n->W8 M' w b->Q .non H'
def aap:Sp:=fun vs H Q _=>∃(b:Addr)(w:T)(M:Mp)(H₀:Hp),vs=[.ref b]/\`h/\M b=some (.word w)/\(aK w).parts<=8000000/\∀H',Go K CF CL CD CT (fun _=>False) M M H₀ H H'->Q (.int ((aK w).parts:Nat)) H'
def Vw:Sp:=fun vs H Q _=>∃(a:Addr)(t:T)(W:Addr)(p:Nat)(M:Mp)(H₀:Hp)(ws:`F),vs=[`G,.int (p:Int)]/\`h/\M a=some (.text t W)/\H W=some (.lst ws)/\p<=ws.length/\p<=t.kids.length/\t.deep<=400/\t.kids.length<=8000000/\
 (p=t.kids.length->Q .non H)/\∀w,t.kids[p]?=some w->∀b M' H',Go K CF CL CD CT (fun _=>False) M M' H₀ H H'->M' b=some (.word w)->(∀ws',H' W=some (.lst ws')->p+1<=ws'.length)->Q (.ref b) H'
end
section
variable{K:W.Frag}{CF CL CD CT CG CW:Addr}{M M' M'':Mp}{H₀ H H' H1:Hp}{X:Addr->Prop}
theorem Go.oU{p:Addr}{u:HO}(a:Go K CF CL CD CT X M M' H₀ H H1)(hm:M' p=some .mine)(hX:X p)(k:Kt H1 (upd H1 p u)):Go K CF CL CD CT X M M' H₀ H (upd H1 p u):=
 ⟨a.ext,fun q h x=>by rw[upd_ne (fun z:q=p=>x (by rw[z];exact hX))];exact a.mine q h x,a.kt.trans k,a.gh.mut hm k,fun W t ws h1 h2=>by
  obtain⟨ws',e,l⟩:=a.wds W t ws h1 h2
  have nW:W≠p:=fun z=>by have:=a.ext _ _ h1;rw[z,hm]at this;cases this
  exact⟨ws',by rw[upd_ne nW];exact e,l⟩⟩
theorem Go.newText{a da W:Addr}{t:T}{v:V}(g:`h)(tv:TR K H t v)(ha:H a=none)(hd:H da=none)(ne:da≠a)(hW:mkO H a da CT [] W=none):
  Go K CF CL CD CT X M (setM (setM M W (.words t)) a (.text t W)) H₀ H (upd (upd (mkO H a da CT []) W (.lst [])) a (.ins CT da (fT v W)))/\Same H (upd (upd (mkO H a da CT []) W (.lst [])) a (.ins CT da (fT v W)))/\wH (setM (setM M W (.words t)) a (.text t W)) a t:=by
 have S1:=jh (C:=CT) (fs:=[]) ha hd ne
 have hW0:H W=none:=S1.free hW
 have naW:a≠W:=fun z=>by rw[<-z,iD]at hW;cases hW
 have S2:=S1.trans (same_new hW (.lst []))
 have S3:Same H (upd (upd (mkO H a da CT []) W (.lst [])) a (.ins CT da (fT v W))):=bQ S2 ha
 have hWl:upd (upd (mkO H a da CT []) W (.lst [])) a (.ins CT da (fT v W)) W=some (.lst []):=by rw[upd_ne (Ne.symm naW),upd_same]
 have nMa:=g.fresh ha
 have nMW:=g.fresh hW0
 have g1:Gh K CF CL CD CT (setM M W (.words t)) H₀ (upd (upd (mkO H a da CT []) W (.lst [])) a (.ins CT da (fT v W))):=
  (g.grow S3).role (p:=W) (.inl nMW) (g.same.free hW0) ⟨_,hWl⟩ ⟨[],hWl,`R,fun j x h=>by simp at h⟩
 have g2:Gh K CF CL CD CT (setM (setM M W (.words t)) a (.text t W)) H₀ (upd (upd (mkO H a da CT []) W (.lst [])) a (.ins CT da (fT v W))):=
  g1.role (p:=a) (.inl (by rw[gF naW];exact nMa)) (g.same.free ha) ⟨_,upd_same⟩ ⟨da,v,upd_same,tv.mono (.of S3),by rw[gF (Ne.symm naW),dD]⟩
 refine⟨⟨fun p r h=>?_,fun p h _=>?_,.of S3,g2,fun _ _ ws _ h=>⟨ws,S3 _ _ h,`P⟩⟩,S3,W,dD⟩
 ·rw[gF (fun z=>by rw[z,nMa]at h;cases h),gF (fun z=>by rw[z,nMW]at h;cases h)];exact h
 ·obtain⟨o,e⟩:=g.has p _ h;exact(S3 _ _ e).trans e.symm
theorem wH.ext{a:Addr}{t:T}(h:wH M a t)(G:Go K CF CL CD CT X M M' H₀ H H'):wH M' a t:=by obtain⟨W,e⟩:=h;exact⟨W,G.ext _ _ e⟩
def d1(k:V):`c:=[("kind",k)]
def d2(k v:V):`c:=[("kind",k),("load",v)]
def d3(k v y:V):`c:=[("kind",k),("load",v),("yes",y)]
def d4(k v y n:V):`c:=[("kind",k),("load",v),("yes",y),("no",n)]
def d5(k v y n b:V):`c:=[("kind",k),("load",v),("yes",y),("no",n),("body",b)]
theorem pd1(k:V):putF "kind" k []=d1 k:=rfl
theorem pd2(k v:V):putF "load" v (d1 k)=d2 k v:=by unfold d1 d2;rw[bL `D];rfl
theorem pd3(k v y:V):putF "yes" y (d2 k v)=d3 k v y:=by unfold d2 d3;rw[bL `D,bL `D];rfl
theorem pd4(k v y n:V):putF "no" n (d3 k v y)=d4 k v y n:=by unfold d3 d4;rw[bL `D,bL `D,bL `D];rfl
theorem pd5(k v y n b:V):putF "body" b (d4 k v y n)=d5 k v y n b:=by unfold d4 d5;rw[bL `D,bL `D,bL `D,bL `D];rfl
theorem pd6(k:Nat)(v y n b z:V):putF "size" z (d5 (.int (k:Int)) v y n b)=fD k v y n b z:=by unfold d5 fD;rw[bL `D,bL `D,bL `D,bL `D,bL `D];rfl
variable{k:Nat}{v y n b z u:V}
theorem pdY:putF "yes" u (fD k v y n b z)=fD k v u n b z:=by unfold fD;rw[bL `D,bL `D,xQ]
theorem pdN:putF "no" u (fD k v y n b z)=fD k v y u b z:=by unfold fD;rw[bL `D,bL `D,bL `D,xQ]
theorem pdB:putF "body" u (fD k v y n b z)=fD k v y n u z:=by unfold fD;rw[bL `D,bL `D,bL `D,bL `D,xQ]
theorem pdS:putF "size" u (fD k v y n b z)=fD k v y n b u:=by unfold fD;rw[bL `D,bL `D,bL `D,bL `D,bL `D,xQ]
theorem ldK:(fD k v y n b z).lookup ("kind":Str)=some (.int (k:Int)):=dJ _ _ _
theorem ldL:(fD k v y n b z).lookup ("load":Str)=some v:=(cg `D _ _).trans (dJ _ _ _)
theorem ldY:(fD k v y n b z).lookup ("yes":Str)=some y:=(cg `D _ _).trans ((cg `D _ _).trans (dJ _ _ _))
theorem ldN:(fD k v y n b z).lookup ("no":Str)=some n:=(cg `D _ _).trans ((cg `D _ _).trans ((cg `D _ _).trans (dJ _ _ _)))
theorem ldB:(fD k v y n b z).lookup ("body":Str)=some b:=(cg `D _ _).trans ((cg `D _ _).trans ((cg `D _ _).trans ((cg `D _ _).trans (dJ _ _ _))))
theorem ldS:(fD k v y n b z).lookup ("size":Str)=some z:=(cg `D _ _).trans ((cg `D _ _).trans ((cg `D _ _).trans ((cg `D _ _).trans ((cg `D _ _).trans (dJ _ _ _)))))
theorem aoJ{m:Str}(h1:(m=="kind")=false)(h2:(m=="load")=false)(h3:(m=="yes")=false)(h4:(m=="no")=false)(h5:(m=="body")=false)(h6:(m=="size")=false):(fD k v y n b z).lookup m=none:=
 (cg h1 _ _).trans ((cg h2 _ _).trans ((cg h3 _ _).trans ((cg h4 _ _).trans ((cg h5 _ _).trans ((cg h6 _ _).trans rfl)))))
theorem aaR{CG CW:Addr}{m:Nat}(O:Own K CF CL CD CT CG CW)(g:`h){t:T}{x:V}{p:Addr}(hx:RV K M H t x)(hd:t.deep<=m)(hp:H p=none){Q:VK}(q:Q (.bl (decide (t.kids=[]))) (upd H p (.tup []))):adX K m x (.ref p) (upd H p (.tup [])) Q:=by
 have S:=same_new hp (.tup [])
 rcases hx.cases g with h|⟨a,dx,y,z,u,ts,rfl,ha,rfl,_,_⟩
 ·rcases h with h|⟨a,dx,v,ts,j,rfl,ha,_,hj,_,rfl⟩
  ·refine .inl ⟨t,.node [],h.mono (.of S),(dh (K:=K) (ts:=[]) hp (bJ.mpr rfl)).2,hd,?_⟩
   have e:T.beq t (.node [])=decide (t.kids=[]):=by
    by_cases z:t.kids=[]
    ·rw[decide_eq_true z]
     exact(T.beq_iff _ _).mpr (by cases t;exact congrArg T.node z)
    ·rw[decide_eq_false z]
     exact Bool.eq_false_iff.mpr fun y=>z (by rw[(T.beq_iff _ _).mp y];rfl)
   rw[e]
   exact q
  ·refine .inr ⟨a,CL,dx,_,p,[],rfl,S _ _ ha,O.rL,rfl,upd_same,?_⟩
   have z:¬(T.node (ts.drop j)).kids=[]:=fun z=>by
    have:(ts.drop j).length=0:=by rw[show ts.drop j=[]from z];rfl
    rw[List.length_drop]at this
    lia
   rw[<-decide_eq_false z]
   exact q
 ·refine .inr ⟨a,CF,dx,_,p,[],rfl,S _ _ ha,O.rF,rfl,upd_same,?_⟩
  have z:¬(T.node (u::ts)).kids=[]:=fun z=>by cases z
  rw[<-decide_eq_false z]
  exact q
theorem ab2{tc:TT}{tb u:TS}{D:Ends}{σ:L2.St}{H:Hp}(P:L2.St->`S)(k:∀σ' H',P σ' H'->u D σ' H')
  (h:∀A B:`S,(∀H1,(∀N:L2.St->`S,(∀σ' H',P σ' H'->N σ' H')->tb {D with nx:=N} σ H1)->A H1)->(∀H1,P σ H1->B H1)->tc σ H (fun b H1=>if b=true then A H1 else B H1)):
  tSeq (tIfS tc tb tNext) u D σ H:=
 h (fun H1=>tb {D with nx:=u D} σ H1) (fun H1=>tNext {D with nx:=u D} σ H1) (fun H1 r=>r _ k) (fun H1 p=>k _ _ p)
theorem Uw{t:T}:∀{ts:`C},t∈ts->t.deep+1<=T.bK ts
 |u::us,h=>by
  rw[T.aW]
  rcases List.mem_cons.mp h with rfl|h
  ·lia
  ·have:=Uw h;lia
theorem agw{t w:T}{p:Nat}(h:t.kids[p]?=some w):w.deep+1<=t.deep:=by
 cases t with
 |node ts=>
  rw[T.aY]
  exact Uw (List.mem_of_getElem? h)
theorem acn(ts:`C)(k:Nat):T.bK (ts.drop k)<=T.bK ts:=by
 have:T.bK ts=max (T.bK (ts.take k)) (T.bK (ts.drop k)):=by rw[<-T.o_,List.take_append_drop]
 lia
theorem aeE(w:T):(aK w).deep<=w.deep:=by
 cases w with
 |node ts=>
  show(T.node (ts.drop 1)).deep<=_
  rw[T.aY,T.aY]
  exact acn ts 1
end
section
variable(K:W.Frag)(CF CL CD CT CG CW:Addr)
def adE:Sp:=fun vs H Q _=>∃(k:Nat)(y:V)(S:Addr)(l:T)(s:`C)(rows:`F)(M:Mp)(H₀:Hp),vs=[.int (k:Int),y,.ref S]/\`h/\M S=some .mine/\H S=some (.lst rows)/\aP (RV K M H) s.reverse rows/\TR K H l y/\looks k<=s.length/\B 395 8000010 (.node s)/\(∀t∈s,t.kids.length<=8000000)/\
 ∀M' H' rows',Go K CF CL CD CT (fun a=>a=S) M M' H₀ H H'->H' S=some (.lst rows')->aP (RV K M' H') (rP k l s).reverse rows'->Q .non H'
def pK(M:Mp)(H:Hp)(t:T)(x:V):Prop:=∃g dx a W p tt,x=.ref g/\M g=some .mine/\H g=some (.ins CG dx (fG a p))/\M a=some (.text tt W)/\p<=tt.kids.length/\(∃ws,H W=some (.lst ws)/\p<=ws.length)/\t=.node (tt.kids.drop p)/\B 389 8000000 tt
structure WkX(M:Mp)(H₀ H:Hp)(o dx G S N:Addr)(gs rows:`F)(tx s:`C)(num:`E)(b:Nat):Prop where
 gh:`h
 ob:H o=some (.ins CW dx (fW G S N b))
 mo:M o=some .mine
 mG:M G=some .mine
 mS:M S=some .mine
 mN:M N=some .mine
 hG:H G=some (.lst gs)
 hS:H S=some (.lst rows)
 hN:H N=some (.lst (num.map nv))
 gos:aP (pK CG M H) tx.reverse gs
 sts:aP (RV K M H) s.reverse rows
 n15:num.length=15
 dGS:G≠S
 dGN:G≠N
 dSN:S≠N
 nd:gs.Nodup
def Wk(M:Mp)(H₀ H:Hp)(o:Addr)(tx s:`C)(num:`E)(b:Nat):Prop:=∃dx G S N gs rows,WkX K CF CL CD CT CG CW M H₀ H o dx G S N gs rows tx s num b
def Qz:Sp:=fun vs H Q _=>∃o M H₀ tx s num b,vs=[.ref o]/\Wk K CF CL CD CT CG CW M H₀ H o tx s num b/\Q (.bl (decide (tx=[]))) H
def abq:Sp:=fun vs H Q _=>∃o M H₀ tx s num b,vs=[.ref o]/\Wk K CF CL CD CT CG CW M H₀ H o tx s num b/\∀x H',`L->RV K M H' (ats s 0) x->Q x H'
def aaf:Sp:=fun vs H Q _=>∃o M H₀ tx s num b,vs=[.ref o]/\Wk K CF CL CD CT CG CW M H₀ H o tx s num b/\∀c H',`L->SqT K H' c (num.map nv)->Q (.ref c) H'
def Vx:Sp:=fun vs H Q _=>∃(o dx:Addr)(x:V)(tx s:`C)(b:Nat)(M:Mp)(H₀:Hp),vs=[.ref o,x,.int (b:Int)]/\`h/\M o=some .mine/\H o=some (.ins CW dx [])/\TR K H (abF tx s) x/\BX tx/\B 390 8000000 (.node s)/\∀M' H',Wk K CF CL CD CT CG CW M' H₀ H' o tx s gU b->Q .non H'
def MvT(k:Nat)(w:T)(ws:`C)(rest sp:`C)(num:`E)(tx' s':`C)(lJ:`E):Prop:=
 (k=9/\aA w=8/\tx'=aK w::.node (w::ws)::rest/\s'=sp/\lJ=num.set 14 (num.getD 14 0+(aK w).parts))\/
 (k=7/\aA w=7/\tx'=ats (aK w).kids 0::`K::rest/\s'=sp/\lJ=num)\/
 (k=8/\aA w=7/\tx'=aK (aK w)::`K::rest/\s'=sp/\lJ=num)\/
 ((k<=6\/k=10\/k=11)/\tx'=`K::rest/\s'=rP k (aK w) sp/\lJ=num)
def Rdy(M:Mp)(H:Hp)(g:Addr)(w:T)(ws:`C):Prop:=∃dg a W j tt wl,M g=some .mine/\H g=some (.ins CG dg (fG a j))/\M a=some (.text tt W)/\H W=some (.lst wl)/\j+1<=wl.length/\tt.kids.drop j=w::ws/\B 389 8000000 tt
def adJ:Sp:=fun vs H Q _=>∃(o dx G S N:Addr)(gs0:`F)(g:Addr)(rows:`F)(p:T)(rest sp:`C)(num:`E)(b k:Nat)(wv:V)(M:Mp)(H₀:Hp),vs=[.ref o,.int (k:Int),.ref g,wv]/\WkX K CF CL CD CT CG CW M H₀ H o dx G S N (gs0++[.ref g]) rows (p::rest) sp num b/\looks k<=sp.length/\B 395 8000010 (.node sp)/\(∀t∈sp,t.kids.length<=8000000)/\rest.length<=8000000/\
 ((k=12/\∀M' H',Wk K CF CL CD CT CG CW M' H₀ H' o rest sp num b->Q .non H')\/∃w ws bw tx' s' lJ,p=.node (w::ws)/\wv=.ref bw/\M bw=some (.word w)/\Rdy CG M H g w ws/\MvT k w ws rest sp num tx' s' lJ/\BX tx'/\(aK w).parts<=8000000/\∀M' H',Wk K CF CL CD CT CG CW M' H₀ H' o tx' s' lJ b->Q .non H')
def aah:Sp:=fun vs H Q _=>∃o M H₀ tx s num b,vs=[.ref o]/\Wk K CF CL CD CT CG CW M H₀ H o tx s num b/\tx≠[]/\BX tx/\B 390 8000000 (.node s)/\(bH tx s<=b->BX (onward tx s).1/\B 390 8000000 (.node (onward tx s).2.1))/\
 (b<bH tx s->∀M' H',Wk K CF CL CD CT CG CW M' H₀ H' o tx s num b->Q (.bl false) H')/\
 (bH tx s<=b->∀M' H',Wk K CF CL CD CT CG CW M' H₀ H' o (onward tx s).1 (onward tx s).2.1 (fZ num (o8 tx s)) (b-bH tx s)->Q (.bl true) H')
end
section
variable{K:W.Frag}{CF CL CD CT CG CW:Addr}{M M':Mp}{H₀ H H':Hp}{X:Addr->Prop}
theorem pK.go{t:T}{x:V}(G:Go K CF CL CD CT X M M' H₀ H H')(hX:∀g,x=.ref g->¬X g)(g0:`h)(h:pK CG M H t x):pK CG M' H' t x:=by
 obtain⟨g,dx,a,W,p,tt,rfl,h1,h2,h3,h4,⟨ws,h5,h6⟩,h7,h8⟩:=h
 obtain⟨_,_,_,_,h9⟩:=g0.ok a _ h3
 obtain⟨ws',e1,e2⟩:=G.wds W _ ws h9 h5
 exact⟨g,dx,a,W,p,tt,rfl,G.ext _ _ h1,(G.mine g h1 (hX g rfl)).trans h2,G.ext _ _ h3,h4,⟨ws',e1,`A⟩,h7,h8⟩
variable{o dx G S N:Addr}{gs rows:`F}{tx s:`C}{num:`E}{b:Nat}
theorem WkX.go(w:WkX K CF CL CD CT CG CW M H₀ H o dx G S N gs rows tx s num b)(g:Go K CF CL CD CT (fun _=>False) M M' H₀ H H'):WkX K CF CL CD CT CG CW M' H₀ H' o dx G S N gs rows tx s num b:=
 ⟨g.gh,(g.mine o w.mo id).trans w.ob,g.ext _ _ w.mo,g.ext _ _ w.mG,g.ext _ _ w.mS,g.ext _ _ w.mN,(g.mine G w.mG id).trans w.hG,(g.mine S w.mS id).trans w.hS,(g.mine N w.mN id).trans w.hN,w.gos.imp fun _ _ h=>h.go g (fun _ _=>id) w.gh,w.sts.imp fun _ _ h=>g.rv h,w.n15,w.dGS,w.dGN,w.dSN,w.nd⟩
theorem WkX.grow(w:WkX K CF CL CD CT CG CW M H₀ H o dx G S N gs rows tx s num b)(S1:`L):WkX K CF CL CD CT CG CW M H₀ H' o dx G S N gs rows tx s num b:=w.go (.grow w.gh S1)
variable{A B C:Addr}{c:Nat}
theorem lwG:(fW A B C c).lookup ("goings":Str)=some (.ref A):=dJ _ _ _
theorem lwS:(fW A B C c).lookup ("stack":Str)=some (.ref B):=(cg `D _ _).trans (dJ _ _ _)
theorem lwN:(fW A B C c).lookup ("numbers":Str)=some (.ref C):=(cg `D _ _).trans ((cg `D _ _).trans (dJ _ _ _))
theorem lwL:(fW A B C c).lookup ("left":Str)=some (.int (c:Int)):=(cg `D _ _).trans ((cg `D _ _).trans ((cg `D _ _).trans (dJ _ _ _)))
theorem HS{m:Str}(h1:(m=="goings")=false)(h2:(m=="stack")=false)(h3:(m=="numbers")=false)(h4:(m=="left")=false):(fW A B C c).lookup m=none:=(cg h1 _ _).trans ((cg h2 _ _).trans ((cg h3 _ _).trans ((cg h4 _ _).trans rfl)))
theorem pwL(d:Nat):putF "left" (.int (d:Int)) (fW A B C c)=fW A B C d:=by unfold fW;rw[bL `D,bL `D,bL `D,xQ]
theorem lgT{a:Addr}{p:Nat}:(fG a p).lookup ("text":Str)=some `G:=dJ _ _ _
theorem lgP{a:Addr}{p:Nat}:(fG a p).lookup ("place":Str)=some (.int (p:Int)):=(cg `D _ _).trans (dJ _ _ _)
theorem pgP{a:Addr}{p q:Nat}:putF "place" (.int (q:Int)) (fG a p)=fG a q:=by unfold fG;rw[bL `D,xQ]
theorem aoI{v:V}{W:Addr}{m:Str}(h1:(m=="tree")=false)(h2:(m=="words")=false):(fT v W).lookup m=none:=(cg h1 _ _).trans ((cg h2 _ _).trans rfl)
theorem Jc{α β:Type}{R:α->β->Prop}{ts:List α}{ys:List β}(h:aP R ts.reverse ys)(hl:2<=ts.length):∃a b ts0 ys0 y z,ts=a::b::ts0/\ys=ys0++[z]++[y]/\aP R ts0.reverse ys0/\R a y/\R b z:=by
 have hyl:=h.length
 rw[List.length_reverse]at hyl
 obtain⟨a,ts1,ys1,y,rfl,rfl,h1,h2⟩:=mO h (by rintro rfl;simp at hyl;lia)
 have Xr:=h1.length
 rw[List.length_reverse]at Xr
 simp only[List.length_cons]at hl
 obtain⟨b,ts0,ys0,z,rfl,rfl,h3,h4⟩:=mO h1 (by rintro rfl;simp at Xr;lia)
 exact⟨a,b,ts0,ys0,y,z,rfl,rfl,h3,h2,h4⟩
theorem aeS{α β:Type}{R:α->β->Prop}{ts:List α}{ys:List β}(h:aP R ts.reverse ys)(hl:3<=ts.length):∃a b c ts0 ys0 y z w,ts=a::b::c::ts0/\ys=ys0++[w]++[z]++[y]/\aP R ts0.reverse ys0/\R a y/\R b z/\R c w:=by
 obtain⟨a,b,ts1,ys1,y,z,rfl,rfl,h1,h2,h3⟩:=Jc h `A
 have Xr:=h1.length
 rw[List.length_reverse]at Xr
 simp only[List.length_cons]at hl
 obtain⟨c,ts0,ys0,w,rfl,rfl,h4,h5⟩:=mO h1 (by rintro rfl;simp at Xr;lia)
 exact⟨a,b,c,ts0,ys0,y,z,w,rfl,rfl,h4,h2,h3,h5⟩
theorem si2{α:Type}(xs:List α)(z y:α):seqIndex? (-2) (xs++[z]++[y]).length=some xs.length:=by
 have hl:(xs++[z]++[y]).length=xs.length+2:=`H
 rw[hl]
 have:=(ixN_seq (n:=xs.length+2) (i:=-2) (j:=xs.length) (by unfold ixN;rw[if_neg `B,if_pos `A];congr 1;lia)).1
 exact this
theorem si3{α:Type}(xs:List α)(w z y:α):seqIndex? (-3) (xs++[w]++[z]++[y]).length=some xs.length:=by
 have hl:(xs++[w]++[z]++[y]).length=xs.length+3:=`H
 rw[hl]
 have:=(ixN_seq (n:=xs.length+3) (i:=-3) (j:=xs.length) (by unfold ixN;rw[if_neg `B,if_pos `A];congr 1;lia)).1
 exact this
theorem er2{α:Type}(xs:List α)(z y:α):(xs++[z]++[y]).eraseIdx xs.length=xs++[y]:=by
 rw[List.append_assoc,List.eraseIdx_append_of_length_le `P,Nat.sub_self]
 rfl
theorem er3{α:Type}(xs:List α)(w z y:α):(xs++[w]++[z]++[y]).eraseIdx xs.length=xs++[z]++[y]:=by
 rw[List.append_assoc,List.append_assoc,List.eraseIdx_append_of_length_le `P,Nat.sub_self]
 simp
theorem gt2{α:Type}(xs:List α)(z y:α):(xs++[z]++[y])[xs.length]?=some z:=`H
theorem gt3{α:Type}(xs:List α)(w z y:α):(xs++[w]++[z]++[y])[xs.length]?=some w:=`H
theorem Go.list{p:Addr}{xs ys:`F}(g:`h)(hm:M p=some .mine)(h:H p=some (.lst xs)):Go K CF CL CD CT (fun a=>a=p) M M H₀ H (upd H p (.lst ys)):=Go.oU (.refl g) hm rfl (Kt.lst h)
end
section
variable{K:W.Frag}{H:Hp}{a:Addr}{xs:`F}{σ:Sg}{js:`E}{te:TE}{Q:VK}
theorem aik(J:Addr->Nat->`F->`S)(hz:xs.length<=sizeLine)(h0:∀D,H D=none->J D 0 [] (upd H D (.lst [])))
  (hD:∀D i ys H',J D i ys H'->H' D=some (.lst ys)/\ys.length=i/\SqT K H' a xs)
  (hte:∀D i x ys H'(R:VK),xs.reverse[i]?=some x->J D i ys H'->(∀y H3,H3 D=some (.lst ys)->J D (i+1) (ys++[y]) (upd H3 D (.lst (ys++[y])))->R y H3)->te (some x::frv σ js) H' R)
  (q:∀D ys H',J D xs.length ys H'->Q (.ref D) H'):Gd (SwR.acO K a xs.length) js te σ Q H:=by
 intro D hDn
 refine⟨fun i m ys H'=>m=xs.length-i/\i<=xs.length/\J D i ys H',⟨xs.length,`A,`R,h0 D hDn⟩,?_⟩
 rintro i m ys H'⟨rfl,hi,hj⟩
 obtain⟨h1,h2,h3⟩:=hD D i ys H' hj
 refine⟨h1,?_⟩
 by_cases hlt:i<xs.length
 ·refine .inr ⟨⟨xs,xs.reverse[i]'(by simpa using hlt),h3,rfl,List.getElem?_eq_getElem (by simpa using hlt)⟩,fun x H2 y=>?_⟩
  obtain⟨e,y⟩:=y
  subst e
  exact hte D i x ys _ _ (y xs h3) hj fun y H3 g1 g2=>⟨g1,`A,xs.length-(i+1),`A,rfl,hlt,g2⟩
 ·have e:i=xs.length:=`A
  subst e
  exact .inl ⟨⟨xs,h3,rfl,rfl⟩,q D ys H' hj⟩
theorem afb{α:Type}{xs:List α}{i:Nat}{x:α}(h:xs[i]?=some x):xs.take (i+1)=xs.take i++[x]:=by
 rw[List.take_add_one,h]
 rfl
end
section
variable{K:W.Frag}{CF CL CD CT CG CW:Addr}{M M':Mp}{H₀ H H':Hp}{X:Addr->Prop}{o dx G S N g:Addr}{gs rows gs' rows':`F}{tx s tx' s':`C}{num lJ:`E}{b:Nat}{w:T}{ws:`C}
theorem Rdy.go(G:Go K CF CL CD CT X M M' H₀ H H')(hX:¬X g)(g0:`h)(h:Rdy CG M H g w ws):Rdy CG M' H' g w ws:=by
 obtain⟨dg,a,W,j,tt,wl,h1,h2,h3,h4,h5,h6,h7⟩:=h
 obtain⟨_,_,_,_,h9⟩:=g0.ok a _ h3
 obtain⟨ws',e1,e2⟩:=G.wds W _ wl h9 h4
 exact⟨dg,a,W,j,tt,ws',G.ext _ _ h1,(G.mine g h1 hX).trans h2,G.ext _ _ h3,e1,`A,h6,h7⟩
theorem Go.aoH{p:Addr}{u:HO}{H1:Hp}(a:Go K CF CL CD CT X M M' H₀ H H1)(hm:M' p=some .mine)(hn:M p≠some .mine)(k:Kt H1 (upd H1 p u)):Go K CF CL CD CT X M M' H₀ H (upd H1 p u):=
 ⟨a.ext,fun q h x=>by rw[upd_ne (fun z:q=p=>hn (by rw[<-z];exact h))];exact a.mine q h x,a.kt.trans k,a.gh.mut hm k,fun W t ws h1 h2=>by
  obtain⟨ws',e,l⟩:=a.wds W t ws h1 h2
  have nW:W≠p:=fun z=>by have:=a.ext _ _ h1;rw[z,hm]at this;cases this
  exact⟨ws',by rw[upd_ne nW];exact e,l⟩⟩
theorem pK.nl{t:T}{x:V}{p:Addr}{l:`F}(h:pK CG M H t x)(hp:H p=some (.lst l)):∀g,x=.ref g->¬g=p:=by
 obtain⟨g,dx,a,W,j,tt,rfl,_,h2,_⟩:=h
 rintro g' e rfl
 cases e
 rw[hp]at h2
 cases h2
theorem WkX.setG(w:WkX K CF CL CD CT CG CW M H₀ H o dx G S N gs rows tx s num b)(h:aP (pK CG M H) tx'.reverse gs')(nd:gs'.Nodup):WkX K CF CL CD CT CG CW M H₀ (upd H G (.lst gs')) o dx G S N gs' rows tx' s num b:=by
 have g1:Go K CF CL CD CT (fun a=>a=G) M M H₀ H (upd H G (.lst gs')):=.list w.gh w.mG w.hG
 have no:o≠G:=fun z=>by have:=w.ob;rw[z,w.hG]at this;cases this
 exact⟨g1.gh,by rw[upd_ne no];exact w.ob,w.mo,w.mG,w.mS,w.mN,upd_same,by rw[upd_ne (Ne.symm w.dGS)];exact w.hS,by rw[upd_ne (Ne.symm w.dGN)];exact w.hN,h.imp fun _ _ z=>z.go g1 (z.nl w.hG) w.gh,w.sts.imp fun _ _ z=>g1.rv z,w.n15,w.dGS,w.dGN,w.dSN,nd⟩
theorem WkX.afk(w:WkX K CF CL CD CT CG CW M H₀ H o dx G S N gs rows tx s num b)(hl:lJ.length=15):WkX K CF CL CD CT CG CW M H₀ (upd H N (.lst (lJ.map nv))) o dx G S N gs rows tx s lJ b:=by
 have g1:Go K CF CL CD CT (fun a=>a=N) M M H₀ H (upd H N (.lst (lJ.map nv))):=.list w.gh w.mN w.hN
 have no:o≠N:=fun z=>by have:=w.ob;rw[z,w.hN]at this;cases this
 exact⟨g1.gh,by rw[upd_ne no];exact w.ob,w.mo,w.mG,w.mS,w.mN,by rw[upd_ne w.dGN];exact w.hG,by rw[upd_ne w.dSN];exact w.hS,upd_same,w.gos.imp fun _ _ z=>z.go g1 (z.nl w.hN) w.gh,w.sts.imp fun _ _ z=>g1.rv z,hl,w.dGS,w.dGN,w.dSN,w.nd⟩
theorem pK.nw{t:T}{x:V}{A B C:Addr}{c:Nat}{D e:Addr}(h:pK CG M H t x)(hp:H e=some (.ins D dx (fW A B C c))):∀g,x=.ref g->¬g=e:=by
 obtain⟨g,dg,a,W,j,tt,rfl,_,h2,_⟩:=h
 rintro g' e rfl
 cases e
 rw[hp]at h2
 have h3:=HO.ins.inj (Option.some.inj h2)
 have h4:fW A B C c=fG a j:=h3.2.2
 unfold fW fG at h4
 have:=congrArg List.length h4
 simp at this
theorem WkX.amN(w:WkX K CF CL CD CT CG CW M H₀ H o dx G S N gs rows tx s num b)(c:Nat):WkX K CF CL CD CT CG CW M H₀ (upd H o (.ins CW dx (fW G S N c))) o dx G S N gs rows tx s num c:=by
 have k:Kt H (upd H o (.ins CW dx (fW G S N c))):=Kt.ins w.ob
 have g1:Go K CF CL CD CT (fun a=>a=o) M M H₀ H (upd H o (.ins CW dx (fW G S N c))):=Go.oU (.refl w.gh) w.mo rfl k
 have nG:G≠o:=fun z=>by have:=w.ob;rw[<-z,w.hG]at this;cases this
 have nS:S≠o:=fun z=>by have:=w.ob;rw[<-z,w.hS]at this;cases this
 have nN:N≠o:=fun z=>by have:=w.ob;rw[<-z,w.hN]at this;cases this
 exact⟨g1.gh,upd_same,w.mo,w.mG,w.mS,w.mN,by rw[upd_ne nG];exact w.hG,by rw[upd_ne nS];exact w.hS,by rw[upd_ne nN];exact w.hN,w.gos.imp fun _ _ z=>z.go g1 (z.nw w.ob) w.gh,w.sts.imp fun _ _ z=>g1.rv z,w.n15,w.dGS,w.dGN,w.dSN,w.nd⟩
theorem WkX.aje(w:WkX K CF CL CD CT CG CW M H₀ H o dx G S N gs rows tx s num b)(g1:Go K CF CL CD CT (fun a=>a=S) M M' H₀ H H')(h:H' S=some (.lst rows'))(hr:aP (RV K M' H') s'.reverse rows'):WkX K CF CL CD CT CG CW M' H₀ H' o dx G S N gs rows' tx s' num b:=by
 have no:¬o=S:=fun z=>by have:=w.ob;rw[z,w.hS]at this;cases this
 exact⟨g1.gh,(g1.mine o w.mo no).trans w.ob,g1.ext _ _ w.mo,g1.ext _ _ w.mG,g1.ext _ _ w.mS,g1.ext _ _ w.mN,(g1.mine G w.mG w.dGS).trans w.hG,h,(g1.mine N w.mN (Ne.symm w.dSN)).trans w.hN,w.gos.imp fun _ _ z=>z.go g1 (z.nl w.hS) w.gh,hr,w.n15,w.dGS,w.dGN,w.dSN,w.nd⟩
theorem WkX.onto {gs0:`F}{p:T}{rest:`C} (k:WkX K CF CL CD CT CG CW M H₀ H o dx G S N (gs0++[.ref g]) rows (p::rest) s num b) {dg a W:Addr}{j:Nat}{tt:T}{wl:`F} (h1:M g=some .mine) (h2:H g=some (.ins CG dg (fG a j))) (h3:M a=some (.text tt W)) (h4:H W=some (.lst wl)) (h5:j+1<=wl.length) (h6:tt.kids.drop j=w::ws) (h7:B 389 8000000 tt) :
  WkX K CF CL CD CT CG CW M H₀ (upd H g (.ins CG dg (fG a (j+1)))) o dx G S N (gs0++[.ref g]) rows (`K::rest) s num b:=by
 have kt:Kt H (upd H g (.ins CG dg (fG a (j+1)))):=Kt.ins h2
 have g1:Go K CF CL CD CT (fun a=>a=g) M M H₀ H (upd H g (.ins CG dg (fG a (j+1)))):=Go.oU (.refl k.gh) h1 rfl kt
 have nl:∀ {q:Addr}{l:`F},H q=some (.lst l)->q≠g:=fun e z=>by rw [z,h2] at e; cases e
 have no:o≠g:=fun z=>by
  have:=k.ob
  rw [z,h2] at this
  have h3:=HO.ins.inj (Option.some.inj this)
  have h4:fG a j=fW G S N b:=h3.2.2
  unfold fW fG at h4
  have:=congrArg List.length h4
  simp at this
 have hgo:=k.gos
 rw [List.reverse_cons] at hgo
 obtain⟨gs1,y,e1,hg0,_⟩:=aP.snoc hgo
 obtain⟨rfl,rfl⟩:=List.append_inj' e1 rfl |>.imp id (fun z=>(List.cons.inj z).1)
 have nd:=k.nd
 have ng:(.ref g:V) ∉ gs0:=fun z=>(List.nodup_append.mp nd).2.2 _ z _ `H rfl
 have hjk:j+1<=tt.kids.length:=by
  have:=congrArg List.length h6
  rw [List.length_drop,List.length_cons] at this
  lia
 refine⟨g1.gh,by rw [upd_ne no]; exact k.ob,k.mo,k.mG,k.mS,k.mN,by rw [upd_ne (nl k.hG)]; exact k.hG,by rw [upd_ne (nl k.hS)]; exact k.hS,by rw [upd_ne (nl k.hN)]; exact k.hN,?_,k.sts.imp fun _ _ z=>g1.rv z,k.n15,k.dGS,k.dGN,k.dSN,nd⟩
 rw [List.reverse_cons]
 refine aP.append ?_ (aP.one ⟨g,dg,a,W,j+1,tt,rfl,h1,upd_same,h3,hjk,⟨wl,by rw [upd_ne (nl h4)]; exact h4,h5⟩,?_,h7⟩)
 ·refine aP.of_get (hg0.length.symm ▸ rfl) fun i y hy=>?_
  obtain⟨t,et,hgt⟩:=hg0.get hy
  refine⟨t,et,hgt.go g1 (fun g' e z=>?_) k.gh⟩
  subst z
  exact ng (by rw [<- e]; exact List.mem_of_getElem? hy)
 ·have:tt.kids.drop (j+1)=ws:=by rw [<- List.drop_drop,h6]; rfl
  rw [this]
theorem WkX.newG(k:WkX K CF CL CD CT CG CW M H₀ H o dx G S N gs rows tx s num b){a g dg:Addr}{t:T}(ht:wH M a t)(hb:B 389 8000000 t)(hg:H g=none)(hd:H dg=none)(ne:dg≠g):
  WkX K CF CL CD CT CG CW (setM M g .mine) H₀ (mkO H g dg CG (fG a 0)) o dx G S N gs rows tx s num b/\pK CG (setM M g .mine) (mkO H g dg CG (fG a 0)) t (.ref g)/\(.ref g:V)∉gs:=by
 have g1:Go K CF CL CD CT (fun _=>False) M (setM M g .mine) H₀ H (mkO H g dg CG (fG a 0)):=.made k.gh hg hd ne
 obtain⟨W,hW⟩:=ht
 obtain⟨_,_,_,_,h9⟩:=k.gh.ok a _ hW
 obtain⟨xs,h10,_,_⟩:=k.gh.ok W _ h9
 refine⟨k.go g1,⟨g,dg,a,W,0,t,rfl,dD,iD,g1.ext _ _ hW,`R,⟨xs,jh (C:=CG) (fs:=fG a 0) hg hd ne _ _ h10,`R⟩,by cases t;rfl,hb⟩,fun z=>?_⟩
 obtain⟨i,hi⟩:=List.mem_iff_getElem?.mp z
 obtain⟨t',_,g',_,_,_,_,_,e,_,h2,_⟩:=k.gos.get hi
 cases e
 rw[hg]at h2
 cases h2
theorem WkX.push(k:WkX K CF CL CD CT CG CW M H₀ H o dx G S N gs rows tx s num b){t:T}{x:V}(h:pK CG M H t x)(hn:x∉gs):WkX K CF CL CD CT CG CW M H₀ (upd H G (.lst (gs++[x]))) o dx G S N (gs++[x]) rows (t::tx) s num b:=by
 refine k.setG ?_ ?_
 ·rw[List.reverse_cons]
  exact aP.append k.gos (aP.one h)
 ·refine List.nodup_append.mpr ⟨k.nd,`H,fun a ha c hc=>?_⟩
  rw[List.mem_singleton.mp hc]
  exact fun z=>hn (z▸ha)
theorem pK.new{a g dg:Addr}{t:T}(g0:`h)(ht:wH M a t)(hb:B 389 8000000 t)(hg:H g=none)(hd:H dg=none)(ne:dg≠g):pK CG (setM M g .mine) (mkO H g dg CG (fG a 0)) t (.ref g):=by
 have g1:Go K CF CL CD CT (fun _=>False) M (setM M g .mine) H₀ H (mkO H g dg CG (fG a 0)):=.made g0 hg hd ne
 obtain⟨W,hW⟩:=ht
 obtain⟨_,_,_,_,h9⟩:=g0.ok a _ hW
 obtain⟨xs,h10,_,_⟩:=g0.ok W _ h9
 exact⟨g,dg,a,W,0,t,rfl,dD,iD,g1.ext _ _ hW,`R,⟨xs,jh (C:=CG) (fs:=fG a 0) hg hd ne _ _ h10,`R⟩,by cases t;rfl,hb⟩
def w1(G:Addr):`c:=[("goings",.ref G)]
def w2(G S:Addr):`c:=[("goings",.ref G),("stack",.ref S)]
def w3(G S N:Addr):`c:=[("goings",.ref G),("stack",.ref S),("numbers",.ref N)]
theorem pw1(G:Addr):putF "goings" (.ref G) []=w1 G:=rfl
theorem pw2(G S:Addr):putF "stack" (.ref S) (w1 G)=w2 G S:=by unfold w1 w2;rw[bL `D];rfl
theorem pw3(G S N:Addr):putF "numbers" (.ref N) (w2 G S)=w3 G S N:=by unfold w2 w3;rw[bL `D,bL `D];rfl
theorem pw4(G S N:Addr)(b:Nat):putF "left" (.int (b:Int)) (w3 G S N)=fW G S N b:=by unfold w3 fW;rw[bL `D,bL `D,bL `D];rfl
theorem ahw{ts:`C}{ys:`F}{i:Nat}{x:V}(h:TRs K H ts ys)(hx:ys.reverse[i]?=some x):∃t,ts.reverse[i]?=some t/\TR K H t x:=by
 obtain⟨hi,hx'⟩:=SwR.adS hx
 obtain⟨t,et,ht⟩:=h.get hx'
 have hl:=h.length
 refine⟨t,?_,ht⟩
 rw[List.getElem?_reverse `A,<-hl]
 exact et
end
theorem bump{num:`E}{k:Nat}(h:num.length=15)(hk:k<15):fZ num (ev0 k)=num.set k (num.getD k 0+1):=by
 unfold fZ ev0
 refine List.ext_getElem? fun i=>?_
 rw[List.getElem?_zipWith,List.getElem?_set,List.getElem?_set,List.getElem?_replicate,List.length_replicate]
 by_cases e:k=i
 ·subst e
  rw[if_pos rfl,if_pos hk,if_pos rfl,if_pos `A,List.getElem?_eq_getElem `A,List.getD_eq_getElem?_getD,List.getElem?_eq_getElem `A]
  rfl
 ·rw[if_neg e,if_neg e]
  by_cases hi:i<15
  ·rw[if_pos hi,List.getElem?_eq_getElem `A]
   rfl
  ·rw[if_neg hi,List.getElem?_eq_none `A]
theorem aha{num:`E}{k j c:Nat}(h:num.length=15)(hk:k<15)(hj:j<15)(hkj:k≠j):fZ num ((ev0 k).set j c)=(num.set k (num.getD k 0+1)).set j ((num.set k (num.getD k 0+1)).getD j 0+c):=by
 unfold fZ ev0
 refine List.ext_getElem? fun i=>?_
 have hg:(num.set k (num.getD k 0+1)).getD j 0=num.getD j 0:=by
  rw[List.getD_eq_getElem?_getD,List.getElem?_set,if_neg hkj,<-List.getD_eq_getElem?_getD]
 rw[hg,List.getElem?_zipWith,List.getElem?_set,List.getElem?_set,List.getElem?_set,List.getElem?_set,List.getElem?_replicate,List.length_set,List.length_set,List.length_replicate]
 by_cases e:j=i
 ·subst e
  rw[if_pos rfl,if_pos hj,if_pos rfl,if_pos `A,List.getElem?_eq_getElem `A,List.getD_eq_getElem?_getD,List.getElem?_eq_getElem `A]
  rfl
 ·rw[if_neg e,if_neg e]
  by_cases e2:k=i
  ·subst e2
   rw[if_pos rfl,if_pos hk,if_pos rfl,if_pos `A,List.getElem?_eq_getElem `A,List.getD_eq_getElem?_getD,List.getElem?_eq_getElem `A]
   rfl
  ·rw[if_neg e2,if_neg e2]
   by_cases hi:i<15
   ·rw[if_pos hi,List.getElem?_eq_getElem `A]
    rfl
   ·rw[if_neg hi,List.getElem?_eq_none `A]
theorem acE{num:`E}{k:Nat}(h:num.length=15)(hk:k<15):atI (num.map nv) (k:Int)=some (nv (num.getD k 0)):=by
 refine atI_nat ?_
 rw[List.getElem?_map,List.getElem?_eq_getElem `A,List.getD_eq_getElem?_getD,List.getElem?_eq_getElem `A]
 rfl
theorem abn{p:T}{rest s:`C}{w:T}{ws:`C}(h:p.kids=w::ws):stepT (p::rest) s=sE (aA w) (ats s 0):=by
 have hk:(ats (p::rest) 0).kids=w::ws:=h
 unfold stepT sE
 have h9:=Ck w
 by_cases e7:aA w=7
 ·rw[if_pos e7]
  by_cases d:(ats s 0).kids=[]
  ·rw[if_pos d,abH hk e7 d]
  ·rw[if_neg d,WR hk e7 d]
 rw[if_neg e7]
 by_cases e8:aA w=8
 ·rw[if_pos e8]
  by_cases d:(ats s 0).kids=[]
  ·rw[if_pos d,Rj hk e8 d]
  ·rw[if_neg d,Rm hk e8 d]
 rw[if_neg e8]
 by_cases e9:aA w=9
 ·rw[if_pos e9,Rk hk e9]
 ·rw[if_neg e9,Ri hk `A]
def Ei(k c:Nat)(num:`E):`E:=if k=2 then(num.set 2 (num.getD 2 0+1)).set 13 ((num.set 2 (num.getD 2 0+1)).getD 13 0+c)else num.set k (num.getD k 0+1)
theorem xW{tx s:`C}{num:`E}(h:num.length=15)(h9:stepT tx s≠9):fZ num (o8 tx s)=Ei (stepT tx s) (bH tx s) num:=by
 have h12:=Qx (tx:=tx) (s:=s)
 unfold o8 Ei bH
 by_cases h2:stepT tx s=2
 ·rw[if_pos h2,if_pos h2,if_pos h2,aha h `A `A `A]
 ·rw[if_neg h2,if_neg h9,if_neg h2,bump h `A]
theorem alP{p:T}{rest s:`C}{w:T}{ws:`C}{num:`E}(h:p=.node (w::ws))(hn:num.length=15):
  MvT (stepT (p::rest) s) w ws rest (pad s (looks (stepT (p::rest) s))) (Ei (stepT (p::rest) s) (bH (p::rest) s) num) (onward (p::rest) s).1 (onward (p::rest) s).2.1 (fZ num (o8 (p::rest) s)):=by
 subst h
 have hk:(ats (T.node (w::ws)::rest) 0).kids=w::ws:=rfl
 have h9:=Ck w
 by_cases e7:aA w=7
 ·by_cases d:(ats s 0).kids=[]
  ·have o:=abH hk e7 d
   have hs:stepT (T.node (w::ws)::rest) s=8:=by unfold stepT;rw[o]
   refine .inr (.inr (.inl ⟨hs,e7,?_,?_,?_⟩))
   ·rw[o]
    show T.node (w.kids.drop 2)::_=T.node ((w.kids.drop 1).drop 1)::_
    rw[List.drop_drop]
    rfl
   ·rw[o,hs];rfl
   ·exact xW hn `A
  ·have o:=WR hk e7 d
   have hs:stepT (T.node (w::ws)::rest) s=7:=by unfold stepT;rw[o]
   refine .inr (.inl ⟨hs,e7,?_,?_,?_⟩)
   ·rw[o];rfl
   ·rw[o,hs];rfl
   ·exact xW hn `A
 by_cases e8:aA w=8
 ·by_cases d:(ats s 0).kids=[]
  ·have o:=Rj hk e8 d
   have hs:stepT (T.node (w::ws)::rest) s=10:=by unfold stepT;rw[o]
   refine .inr (.inr (.inr ⟨.inr (.inl hs),?_,?_,?_⟩))
   ·rw[o];rfl
   ·rw[hs,BR `A,o];rfl
   ·exact xW hn `A
  ·have o:=Rm hk e8 d
   have hs:stepT (T.node (w::ws)::rest) s=9:=by unfold stepT;rw[o]
   refine .inl ⟨hs,e8,?_,?_,?_⟩
   ·rw[o]
   ·rw[o,hs];rfl
   ·unfold o8
    rw[hs,if_neg `B,if_pos rfl,aha hn `A `A `A]
    rfl
 by_cases e9:aA w=9
 ·have o:=Rk (s:=s) hk e9
  have hs:stepT (T.node (w::ws)::rest) s=11:=by unfold stepT;rw[o]
  refine .inr (.inr (.inr ⟨.inr (.inr hs),?_,?_,?_⟩))
  ·rw[o];rfl
  ·rw[hs,BR `A,o];rfl
  ·exact xW hn `A
 ·have o:=Ri (s:=s) hk (show aA w<=6 by lia)
  have hs:stepT (T.node (w::ws)::rest) s=aA w:=by unfold stepT;rw[o]
  refine .inr (.inr (.inr ⟨.inl `A,?_,?_,?_⟩))
  ·rw[o];rfl
  ·rw[hs,o]
  ·exact xW hn `A
theorem ahX{s:`C}{n m:Nat}(h:∀t∈s,t.kids.length<=m):∀t∈pad s n,t.kids.length<=m:=fun t ht=>by
 rcases List.mem_append.mp ht with z|z
 ·exact h t z
 ·rw[List.eq_of_mem_replicate z]
  exact`R
theorem aip{s:`C}{m:Nat}(h:T.aG s<=m):∀t∈s,t.kids.length<=m:=fun t ht=>by
 have h1:=T.vO ht
 have h2:=T.cU t
 have h3:=T.cB t.kids
 lia
theorem agg{k:Nat}(h:k<=12):atI ([.int 0,.int 1,.int 1,.int 2,.int 2,.int 1,.int 3,.int 1,.int 1,.int 1,.int 1,.int 0,.int 0]:`F) (k:Int)=some (.int (looks k:Nat)):=by
 have:∀k,k<=12->([V.int 0,.int 1,.int 1,.int 2,.int 2,.int 1,.int 3,.int 1,.int 1,.int 1,.int 1,.int 0,.int 0]:`F)[k]?=some (.int (looks k:Nat)):=`B
 exact atI_nat (this k h)
theorem ajB{s:`C}{i n:Nat}(h1:s.length+i<=max n s.length)(h2:n<=s.length+i):s++List.replicate i leaf=pad s n:=by
 unfold pad
 have:i=n-s.length:=`A
 rw[this]
theorem QL(num:`E)(k c:Nat):(num.map nv).set k (.int ((num.getD k 0:Int)+(c:Int)))=(num.set k (num.getD k 0+c)).map nv:=by
 rw[<-ajI]
 congr 1
theorem drop_cons{α:Type}{xs:List α}{j:Nat}{x:α}(h:xs[j]?=some x):xs.drop j=x::xs.drop (j+1):=by
 have hj:=(List.getElem?_eq_some_iff.mp h).1
 rw[List.drop_eq_getElem_cons hj]
 rw[List.getElem?_eq_getElem hj]at h
 rw[Option.some.inj h]
def VB(K:W.Frag)(CF CL CD CT CG CW:Addr):Sp:=fun vs H Q _=>∃(x:V)(tx s:`C)(b:Nat),vs=[x,.int (b:Int)]/\TR K H (abF tx s) x/\Sane b tx s/\
 ∀o M' H' b',Wk K CF CL CD CT CG CW M' H H' o (goT b tx s).1 (goT b tx s).2.1 (goT b tx s).2.2 b'->Q (.ref o) H'
end Sw
namespace cD
open PySem PySem.Spec PyProof.Rows L2 Sw
def top(i:Nat):Stmt:=PySem.Challenge.pw_selfword_k84_the_desk.main.body.getD i (.Pass ⟨0,0,0,0⟩)
abbrev iW:Stmt:=top 5
abbrev iY:Stmt:=top 6
abbrev jD:Stmt:=top 8
abbrev rZ:Stmt:=top 9
abbrev ud:Stmt:=top 10
abbrev jU:Stmt:=top 23
abbrev jW:Stmt:=top 24
abbrev DY:Stmt:=top 25
abbrev uc:Stmt:=top 26
abbrev yJ:Stmt:=top 27
abbrev yI:Stmt:=top 28
abbrev yG:Stmt:=top 30
abbrev oH:Stmt:=top 31
abbrev uZ:Stmt:=top 32
abbrev yH:Stmt:=top 34
abbrev kj:Stmt:=top 35
abbrev oF:Stmt:=top 36
abbrev oG:Stmt:=top 37
abbrev mj:Stmt:=top 42
abbrev oJ:Stmt:=top 43
abbrev uf:Stmt:=top 44
abbrev iV:Stmt:=top 45
abbrev gG:Stmt:=top 46
abbrev oK:Stmt:=top 47
abbrev ug:Stmt:=top 59
abbrev jV:Stmt:=top 60
abbrev yK:Stmt:=top 61
abbrev zR:Stmt:=top 63
abbrev qO:Stmt:=top 64
abbrev yF:Stmt:=top 69
abbrev mq:Stmt:=top 71
abbrev i_:Stmt:=top 73
abbrev gR:Stmt:=top 74
abbrev gQ:Stmt:=top 75
abbrev iJ:Stmt:=top 76
abbrev kI:Stmt:=top 77
abbrev iZ:Stmt:=top 78
abbrev gY:Stmt:=top 79
abbrev jm:Stmt:=top 80
abbrev gH:Stmt:=top 81
abbrev u6:Stmt:=top 82
theorem rR:FnScope ["tree","signs","waiting","part"] ["tree"] (defScope iW):=`Y
theorem rT:FnScope ["text","rows","sign","items"] ["text"] (defScope iY):=`Y
theorem afp:FnScope ["tree"] ["tree"] (defScope jD):=`Y
theorem ahq:FnScope ["tree"] ["tree"] (defScope rZ):=`Y
theorem yD:FnScope ["tree","waiting","counted","part"] ["tree"] (defScope ud):=`Y
theorem abv:FnScope ["word"] ["word"] (defScope jU):=`Y
theorem abx:FnScope ["word"] ["word"] (defScope jW):=`Y
theorem ajf:FnScope ["tree"] ["tree"] (defScope DY):=`Y
theorem afm:FnScope ["sort"] ["sort"] (defScope uc):=`Y
theorem ahs:FnScope ["yes","no"] ["yes","no"] (defScope yJ):=`Y
theorem ahr:FnScope ["body"] ["body"] (defScope yI):=`Y
theorem Jw:FnScope ["text","pieces","waiting","part"] ["text"] (defScope yG):=`Y
theorem DR:FnScope ["word","sort","load"] ["word"] (defScope oH):=`Y
theorem adQ:FnScope ["word","sort"] ["word"] (defScope uZ):=`Y
theorem QV:FnScope ["signs","reading","piece"] ["signs"] (defScope yH):=`Y
theorem V9:FnScope ["signs"] ["signs"] (defScope kj):=`Y
theorem Oi:FnScope ["piece","word"] ["piece"] (defScope oF):=`Y
theorem abu:FnScope ["signs"] ["signs"] (defScope oG):=`Y
theorem Y6:FnScope ["row"] ["row"] (defScope mj):=`Y
theorem abw:FnScope ["row"] ["row"] (defScope oJ):=`Y
theorem afo:FnScope ["tree","place"] ["tree","place"] (defScope uf):=`Y
theorem V7:FnScope ["row"] ["row"] (defScope iV):=`Y
theorem jT:FnScope ["row","most","waiting","counted","part"] ["row","most"] (defScope gG):=`Y
theorem rW:FnScope ["row","ahead","taken","part","tree"] ["row"] (defScope oK):=`Y
theorem afr:FnScope ["text","tree"] ["text","tree"] (defScope ug):=`Y
theorem Y5:FnScope ["sort","top"] ["sort","top"] (defScope jV):=`Y
theorem aht:FnScope ["tally"] ["tally"] (defScope yK):=`Y
theorem V8:FnScope ["text","tree","budget","walk","steps"] ["text","tree","budget"] (defScope zR):=`Y
theorem Ub:FnScope ["stand","budget","walk"] ["stand","budget"] (defScope qO):=`Y
theorem QM:FnScope ["step","load","stack","item","row"] ["step","load","stack"] (defScope yF):=`Y
theorem ni:FnScope ["signs","tree_signs","budget","text","tree","told","steps","tree_told"] ["signs","tree_signs","budget"] (defScope mq):=`Y
theorem lG:FnScope ["_law_script","_law_cells","_law_deck_here","_law_k","_law_cell"] ["_law_script"] (defScope i_):=`Y
theorem V_:FnScope ["_law_deck_here","_law_many"] ["_law_deck_here","_law_many"] (defScope gR):=`Y
theorem Hg:FnScope `l `l (defScope gQ):=`Y
theorem QX:FnScope ["_law_many"] ["_law_many"] (defScope iJ):=`Y
theorem yE:FnScope ["_law_deck_here","_law_deep","_law_way"] `l (defScope kI):=`Y
theorem Hh:FnScope `l `l (defScope iZ):=`Y
theorem Gg:FnScope ["_law_tree_here"] ["_law_tree_here"] (defScope gY):=`Y
theorem mR:FnScope ["_law_signs","_law_tree_signs","_law_budget","_law_found","_law_refused_here","_law_e"] ["_law_signs","_law_tree_signs","_law_budget"] (defScope jm):=`Y
theorem rY:FnScope ["_law_pair","_law_text_here","_law_found","_law_e"] ["_law_pair","_law_text_here"] (defScope gH):=`Y
theorem dZ:FnScope ["_law_script","_law_deck_here","_law_text_here","_law_tree_here","_law_budget","_law_signs","_law_tree_signs","_law_word_here","_law_told","_law_steps","_law_due","_law_at","_law_bad","_law_place","_law_bad_tree"] ["_law_script"] (defScope u6):=`Y
section
variable{P:Program}{w:World}{K:W.Frag}{mg:`U}{base:Heap}{f:Addr}{fd:FuncData}
theorem W4(lK:mg "range"=none)(cL:mg "len"=none)
  (F:Fun K "_law_deck" "_law_deck" i_ f fd):FnOk P w K mg base CX0 32 f fd ["_law_script"] (adM K):=by
 refine okQ F lG `W `V
 ·obtain⟨a,ns,rfl,_⟩:=h
  rfl
 obtain⟨a,ns,rfl,hl,h63,q⟩:=h
 refine⟨_,(aq (afw (i:=1) lG.nd rfl `O rfl (uG (fr:=[]) (js:=[]) (sc:=defScope i_) rfl rfl rfl `D `D `D `D (by exact trivial) `D (fun y hy=>cell_has hy)) (aay (jo ahn (qv 0) nA (jF aN))) (fun _ _ _ _ _=>(bD op_mod (qv 0) aN)))
   (aq (bC (i:=2) lG.nd rfl `O (d7 ak))
   (aq (adY PassesOwn.never rfl (zU rfl lK (aj aN ak)) (ur (i:=3) lG.nd rfl `O) (aq (bC (i:=4) lG.nd rfl `O (bD Hv aN (qv 3)))
   (aq (bB (aR JC (bV call_len_seq rfl cL jy (aj (qv 1) ak)) aN `N) (au (bC (i:=4) lG.nd rfl `O (bD Hv (cH ix_list (qv 1) (bD op_mod (qv 3) (bV call_len_seq rfl cL jy (aj (qv 1) ak))) (fun _ _=>rfl)) (bD op_add aN (bD op_fdiv (qv 3) (bV call_len_seq rfl cL jy (aj (qv 1) ak))))))) aX)
   (au (bO (cI PySem.F.plainAttrs_list PySem.F.slot_list_append PySem.F.type_list_append bN (qv 2) (aj (bD op_mod (bD op_add (bD op_add (bD Hv (qv 4) aN) (bD Hv (bD Hv aN (qv 3)) (qv 3))) aN) aN) ak)))))))
   (au (aQ (qv 2)))))),?_⟩
 have aph:(ns.take 63).length<=63:=by rw[List.length_take];lia
 have ach:mJ (ns.map V.int) none (some 63)=(ns.take 63).map V.int:=by
  rw[show(some (63:Int))=some ((63:Nat):Int)from rfl,aeH,List.map_take]
 generalize ns.take 63=ms at aph ach
 have big:(2^64:Int)=18446744073709551616:=`B
 refine⟨_,rfl,63,rfl,a,_,rfl,hl,fun p1 hp1=>?_⟩
 have h1:upd H p1 (.lst (mJ (ns.map V.int) none (some 63))) p1=some (.lst (ms.map V.int)):=by rw[upd_same,ach]
 have S1:Same H (upd H p1 (.lst (mJ (ns.map V.int) none (some 63)))):=same_new hp1 _
 generalize upd H p1 (.lst (mJ (ns.map V.int) none (some 63)))=H1 at h1 S1
 refine⟨p1,rfl,⟨_,SqL.of h1⟩,ain (fun i y=>∃n:Int,y=.int n/\0<=n/\n<2147483647) (SqL.of h1) (small (by rw[List.length_map];lia)) (fun i x H' R hx S hR=>?_) (fun D ys hD ly py=>?_)⟩
 ·obtain⟨z,rfl⟩:∃z,x=.int z:=by
   rw[List.getElem?_map]at hx
   cases hh:ms[i]? with
   |none=>rw[hh]at hx;cases hx
   |some z=>rw[hh]at hx;exact⟨z,(Option.some.inj hx).symm⟩
  exact⟨_,rfl,_,_,rfl,rfl,(by show(0:Int)<2147483647;decide),hR _ ⟨_,rfl,Int.emod_nonneg _ `B,Int.emod_lt_of_pos _ `B⟩⟩
 obtain⟨cs,rfl,hcs⟩:=aaP py
 rw[List.length_map,List.length_map]at ly
 have hDl:upd H1 D (.lst (cs.map V.int)) D=some (.lst (cs.map V.int)):=upd_same
 have S2:=S1.trans (same_new hD (.lst (cs.map V.int)))
 generalize upd H1 D (.lst (cs.map V.int))=H2 at hDl S2
 refine⟨`R,fun p3 hp3=>?_⟩
 have aj6:H p3=none:=S2.free hp3
 have n3:D≠p3:=ne_of_none hDl hp3
 refine⟨160,rfl,`B,`B,?_⟩
 refine aey (n:=160) (fun i σ' H'=>∃(ds:List Int)(o3 o4:Option V),σ'=[some `G,some (.ref D),some (.ref p3),o3,o4]/\`L/\H' D=some (.lst (cs.map V.int))/\H' p3=some (.lst (ds.map V.int))/\ds.length=i) ?_ ?_ ?_
 ·exact⟨[],_,_,rfl,S2.trans (same_new hp3 _),by rw[upd_ne n3];exact hDl,upd_same,rfl⟩
 ·rintro i σ' H' hi⟨ds,o3,o4,rfl,S,hd,h3,hlen⟩
  have hi2:(0:Int)+(i:Int)<160:=`A
  have app:∀z:Int,∃(es:List Int)(o3 o4:Option V),[some `G,some (.ref D),some (.ref p3),some (.int (0+(i:Int))),some (.int z)]=[some `G,some (.ref D),some (.ref p3),o3,o4]/\Same H (upd H' p3 (.lst (ds.map V.int++[.int ((z*48271+7919*(0+(i:Int))*(0+(i:Int))+13)%2147483647)])))/\
    upd H' p3 (.lst (ds.map V.int++[.int ((z*48271+7919*(0+(i:Int))*(0+(i:Int))+13)%2147483647)])) D=some (.lst (cs.map V.int))/\upd H' p3 (.lst (ds.map V.int++[.int ((z*48271+7919*(0+(i:Int))*(0+(i:Int))+13)%2147483647)])) p3=some (.lst (es.map V.int))/\es.length=i+1:=fun z=>
   ⟨ds++[(z*48271+7919*(0+(i:Int))*(0+(i:Int))+13)%2147483647],_,_,rfl,bQ S aj6,by rw[upd_ne n3];exact hd,by rw[upd_same,List.map_append];rfl,by rw[List.length_append,hlen];rfl⟩
  have tail:∀z:Int,-(2^60)<z->z<2^60->∀R:Prop,((-(2^64)<z/\z<2^64)->(-(2^64)<(7919:Int)/\(7919:Int)<2^64)->(-(2^64)<7919*(0+(i:Int))/\7919*(0+(i:Int))<2^64)->R)->R:=fun z h1 h2 R k=>
   k ⟨by have:(2:Int)^60=1152921504606846976:=`B;lia,by have:(2:Int)^60=1152921504606846976:=`B;lia⟩ ⟨`B,`B⟩ ⟨`A,`A⟩
  refine⟨_,rfl,_,_,rfl,rfl,.inl ⟨`B,`B⟩,?_⟩
  refine⟨_,rfl,D,_,rfl,.inl (SqL.of hd),_,_,rfl,rfl,_,rfl,?_⟩
  refine ite2 (fun hb=>?_) (fun _=>?_)
  ·have hpos:0<cs.length:=by
    have:=of_decide_eq_true hb
    rw[List.length_map]at this
    lia
   have hpos':(0:Int)<((cs.map V.int).length:Int):=by rw[List.length_map];lia
   have hj0:0<=(0+(i:Int))%((cs.map V.int).length:Int):=Int.emod_nonneg _ `A
   have hj1:(0+(i:Int))%((cs.map V.int).length:Int)<((cs.map V.int).length:Int):=Int.emod_lt_of_pos _ hpos'
   obtain⟨c,hc,ec⟩:∃c∈cs,atI (cs.map V.int) ((0+(i:Int))%((cs.map V.int).length:Int))=some (.int c):=by
    generalize(0+(i:Int))%((cs.map V.int).length:Int)=j at hj0 hj1
    have hk:j.toNat<cs.length:=by rw[List.length_map]at hj1;lia
    have e:(cs.map V.int)[j.toNat]?=some (.int cs[j.toNat]):=by rw[List.getElem?_map,List.getElem?_eq_getElem hk];rfl
    have:=atI_nat e
    rw[show((j.toNat:Nat):Int)=j by lia]at this
    exact⟨_,List.getElem_mem hk,this⟩
   obtain⟨c0,c1⟩:=hcs c hc
   refine⟨_,rfl,_,rfl,_,rfl,D,_,rfl,.inl (SqL.of hd),_,_,rfl,rfl,hpos',D,_,_,_,rfl,rfl,SqL.of hd,ec,?_⟩
   refine⟨_,rfl,_,rfl,D,_,rfl,.inl (SqL.of hd),_,_,rfl,rfl,⟨hpos',by rw[List.length_map];lia⟩,_,_,rfl,rfl,_,_,rfl,rfl,.inl ⟨`A,`A⟩,?_⟩
   have hq0:0<=(0+(i:Int))/((cs.map V.int).length:Int):=Int.ediv_nonneg `A `A
   have hq1:(0+(i:Int))/((cs.map V.int).length:Int)<=0+(i:Int):=Int.ediv_le_self _ `A
   have hz0:0<=c*(1+(0+(i:Int))/((cs.map V.int).length:Int)):=Int.mul_nonneg c0 `A
   have hz1:c*(1+(0+(i:Int))/((cs.map V.int).length:Int))<=2147483647*161:=Int.mul_le_mul `A `A `A `B
   have hz2:-(2^60)<c*(1+(0+(i:Int))/((cs.map V.int).length:Int)):=Int.lt_of_lt_of_le `B hz0
   have hz3:c*(1+(0+(i:Int))/((cs.map V.int).length:Int))<2^60:=Int.lt_of_le_of_lt hz1 `B
   refine tail (c*(1+(0+(i:Int))/((cs.map V.int).length:Int))) hz2 hz3 _ fun t1 t2 t3=>?_
   refine⟨_,rfl,.inl ⟨rfl,_,SqL.of h3⟩,_,rfl,_,_,rfl,rfl,.inl t1,_,rfl,_,_,rfl,rfl,.inl t2,_,rfl,_,_,rfl,rfl,.inl t3,_,_,rfl,rfl,_,_,rfl,rfl,_,_,rfl,rfl,(by show(0:Int)<2147483647;decide),p3,_,_,rfl,rfl,h3,vI (by rw[List.length_map];lia),?_⟩
   exact app (c*(1+(0+(i:Int))/((cs.map V.int).length:Int)))
  ·refine tail (3*(0+(i:Int))) (by have:(2:Int)^60=1152921504606846976:=`B;lia) (by have:(2:Int)^60=1152921504606846976:=`B;lia) _ fun t1 t2 t3=>?_
   refine⟨_,rfl,.inl ⟨rfl,_,SqL.of h3⟩,_,rfl,_,_,rfl,rfl,.inl t1,_,rfl,_,_,rfl,rfl,.inl t2,_,rfl,_,_,rfl,rfl,.inl t3,_,_,rfl,rfl,_,_,rfl,rfl,_,_,rfl,rfl,(by show(0:Int)<2147483647;decide),p3,_,_,rfl,rfl,h3,vI (by rw[List.length_map];lia),?_⟩
   exact app (3*(0+(i:Int)))
 ·rintro σ' H'⟨ds,o3,o4,rfl,S,hd,h3,hlen⟩
  exact⟨_,rfl,q p3 H' S aj6 ⟨ds,h3⟩⟩
theorem W3(cL:mg "len"=none)
  (F:Fun K "_law_next" "_law_next" gR f fd):FnOk P w K mg base CX0 31 f fd ["_law_deck_here","_law_many"] Oe:=by
 refine okQ F V_ `W `V
 ·obtain⟨p,m,rfl,_⟩:=h
  rfl
 obtain⟨p,m,rfl,hm,hd,q⟩:=h
 refine⟨_,(aq (bB (aR op_eq (bV call_len_seq rfl cL jy (aj (qv 0) ak)) aN `N) (au (aQ aN)) aX)
   (au (aQ (bD op_mod (cI PySem.F.plainAttrs_list PySem.F.slot_list_pop PySem.F.type_list_pop Ms (qv 0) (aj aN ak)) (qv 1))))),?_⟩
 obtain⟨ns,hp⟩:=hd
 refine⟨_,rfl,p,_,rfl,.inl (SqL.of hp),rfl,_,rfl,?_⟩
 refine ite2 (fun _=>?_) (fun hb=>?_)
 ·exact q 0 H `A hm (Dr.refl ⟨ns,hp⟩)
 ·cases ns with
  |nil=>exact absurd (decide_eq_true rfl) hb
  |cons n ns=>
   refine⟨_,rfl,.inl ⟨rfl,_,SqL.of hp⟩,p,_,0,0,_,rfl,rfl,hp,`B,`B,?_,rfl,?_⟩
   ·rw[seqIndex_of `B (by rw[List.length_map,List.length_cons];lia)]
    rfl
   ·refine⟨_,rfl,_,_,rfl,rfl,hm,q _ _ (Int.emod_nonneg _ `A) (Int.emod_lt_of_pos _ hm) ⟨fun b o nb e=>?_,⟨ns,?_⟩⟩⟩
    ·rw[upd_ne nb];exact e
    ·rw[upd_same];rfl
theorem Rn
  (F:Fun K "_law_leaves" "_law_leaves" iJ f fd):FnOk P w K mg base CX0 31 f fd ["_law_many"] (VL K):=by
 refine okQ F QX `W `V
 ·obtain⟨n,rfl,_⟩:=h
  rfl
 obtain⟨n,rfl,hn,q⟩:=h
 refine⟨_,(au (aQ (bD qP (bA (aj (bA ak) ak)) (qv 0)))),?_⟩
 refine⟨`R,fun p1 hp1=>⟨`d,fun p2 hp2=>?_⟩⟩
 have k1:upd (upd H p1 (.tup [])) p2 (.tup [.ref p1]) p1=some (.tup []):=(same_new hp2 _) _ _ upd_same
 have hbig:(2:Int)^62=4611686018427387904:=`B
 refine⟨_,rfl,p2,_,_,rfl,rfl,SqT.of upd_same,`A,`A,?_,fun p3 H3 S3 h3=>?_⟩
 ·rw[Int.toNat_natCast,List.length_singleton]
  exact small `A
 ·rw[ahx]at h3
  exact q _ _ (((same_new hp1 _).trans (same_new hp2 _)).trans S3) (qM h3 (Qs (qb (S3 _ _ k1)) n))
theorem afZ(cN:mg "tuple"=none)(lK:mg "range"=none)
  {eG:Addr}{eE:FuncData}(cA:Fun K "_law_next" "_law_next" gR eG eE)(tX:FnOk P w K mg base CX0 31 eG eE ["_law_deck_here","_law_many"] Oe)(cu:Binds K eE ["_law_deck_here","_law_many"] [])(cj:mg "_law_next"=some (.ref eG))
  {a_t:Addr}{d_t:FuncData}(fM:Fun K "_law_tree" "_law_tree" gQ a_t d_t)(jd:Binds K d_t `l [])(jc:mg "_law_tree"=some (.ref a_t)):
  ∀n:Nat,FnOk P w K mg base CX0 (32+n) a_t d_t `l (VF K n):=by
 intro n
 induction n with
 |zero=>
  refine okQ (k:=31) fM Hg `W `V
  ·obtain⟨p,d,rfl,_⟩:=h
   rfl
  obtain⟨p,d,rfl,hd,hk,q⟩:=h
  refine⟨_,aq (bB (aR op_eq (qv 1) aN `N) (au (aQ (bA ak))) aX) (au afx),?_⟩
  have e:d=0:=`A
  subst e
  refine⟨_,rfl,rfl,_,rfl,ite2 (fun _=>⟨`R,fun p1 hp1=>?_⟩) (fun hb=>absurd (decide_eq_true rfl) hb)⟩
  exact q _ _ _ ((Dr.refl hk).same (same_new hp1 _)) (qb upd_same) ⟨by rw[T.aY,T.fC];lia,by rw[T.aM,T.aZ];decide⟩
 |succ n ih=>
  have je:=ih
  have bY:=tX.mono (show 31<=32+n by lia)
  refine okQ (k:=32+n) fM Hg `W `V
  ·obtain⟨p,d,rfl,_⟩:=h
   rfl
  obtain⟨p,d,rfl,hd,hk,q⟩:=h
  refine⟨_,(aq (bB (aR op_eq (qv 1) aN `N) (au (aQ (bA ak))) aX)
   (au (aQ (jY gw rfl cN pD (aj (Jx rfl (uG (fr:=`l) (js:=[0,1]) (sc:=defScope gQ) rfl rfl rfl `D `D `D `D (by exact⟨⟨rfl,rfl,rfl⟩,⟨⟨rfl,rfl,rfl⟩,trivial⟩⟩) `D (fun y hy=>cell_has hy)) (zU rfl lK (aj (aO bY hr rfl cj cA.kp cu .nil pass0 (aj (qv 0) (aj aN ak))) ak)) (fun _ _ _ _ _=>(aO je hr rfl jc fM.kp jd .nil pass0 (aj (qv 1) (aj (bD op_sub (qv 2) aN) ak))))) ak))))),?_⟩
  refine⟨_,rfl,rfl,_,rfl,ite2 (fun hb=>?_) (fun hb=>?_)⟩
  ·have e:d=0:=by
    have:=of_decide_eq_true hb
    have:=V.int.inj this
    lia
   subst e
   refine⟨`R,fun p1 hp1=>?_⟩
   exact q _ _ _ ((Dr.refl hk).same (same_new hp1 _)) (qb upd_same) ⟨by rw[T.aY,T.fC];lia,by rw[T.aM,T.aZ];decide⟩
  ·have hd0:d≠0:=fun z=>hb (by subst z;exact decide_eq_true rfl)
   obtain⟨e,rfl⟩:∃e,d=e+1:=⟨d-1,`A⟩
   refine⟨_,rfl,p,4,rfl,`B,hk,fun m H1 hm0 hm1 D1=>?_⟩
   refine⟨m,rfl,`A,`A,?_⟩
   have hk1:=D1.bW
   refine Uo (fun D i ys H'=>D≠p/\H1 D=none/\Dr p H1 H'/\H' D=some (.lst ys)/\ys.length=i/\∃ts,TRs K H' ts ys/\∀t∈ts,ShT e t) (small `A) (fun D hD=>?_) (fun D i ys H' j=>⟨j.2.2.2.1,j.2.2.2.2.1⟩) (fun D i ys H' R hi j hR=>?_) (fun D ys H' j=>?_)
   ·have hne:D≠p:=fun z=>by
     obtain⟨ns,e1⟩:=hk1
     rw[z,e1]at hD;cases hD
    exact⟨hne,hD,(Dr.refl hk1).upd hD hne,upd_same,rfl,[],bJ.mpr rfl,fun _ h=>by simp at h⟩
   ·obtain⟨hne,hD,Dh,h1,hl,ts,htr,hsh⟩:=j
    refine⟨_,rfl,_,rfl,_,_,rfl,rfl,p,e,(by show[V.ref p,V.int (((e+1:Nat):Int)-1)]=_;rw[show((e+1:Nat):Int)-1=(e:Int)by lia]),`A,Dh.bW,fun y t H3 D3 ht hs=>?_⟩
    have h3:=D3.keep D _ hne h1
    refine hR y H3 h3 ⟨hne,hD,(Dh.trans D3).upd hD hne,upd_same,by rw[List.length_append,hl];rfl,ts++[t],?_,fun u hu=>?_⟩
    ·exact TRs.append ((htr.mono (D3.kt Dh.bW)).mono (Kt.lst h3)) (b_.mpr ⟨y,[],rfl,ht.mono (Kt.lst h3),bJ.mpr rfl⟩)
    ·rcases List.mem_append.mp hu with z|z
     ·exact hsh u z
     ·rw[List.mem_singleton.mp z];exact hs
   ·obtain⟨hne,hD,Dh,h1,hl,ts,htr,hsh⟩:=j
    refine⟨D,ys,rfl,.inl ⟨SqL.of h1,fun p5 hp5=>?_⟩⟩
    have hlt:ts.length<=3:=by rw[<-htr.length,hl];lia
    refine q _ (.node ts) _ ((D1.trans Dh).same (same_new hp5 _)) (qM (SqT.of upd_same) (htr.mono (Kt.new hp5))) ⟨?_,?_⟩
    ·rw[T.aY]
     exact T.Ks fun u hu=>by have:=(hsh u hu).1;lia
    ·rw[T.aM]
     have:=aee (b:=pbT e) hlt fun u hu=>(hsh u hu).2
     show _<=1+3*pbT e
     lia
theorem ael(cN:mg "tuple"=none)(lK:mg "range"=none)
  {eG:Addr}{eE:FuncData}(cA:Fun K "_law_next" "_law_next" gR eG eE)(tX:FnOk P w K mg base CX0 31 eG eE ["_law_deck_here","_law_many"] Oe)(cu:Binds K eE ["_law_deck_here","_law_many"] [])(cj:mg "_law_next"=some (.ref eG))
  {lu:Addr}{kZ:FuncData}(fM:Fun K "_law_tree" "_law_tree" gQ lu kZ)(YT:FnOk P w K mg base CX0 35 lu kZ `l (VF K 3))(jd:Binds K kZ `l [])(jc:mg "_law_tree"=some (.ref lu))
  {wG:Addr}{wC:FuncData}(jO:Fun K "_law_leaves" "_law_leaves" iJ wG wC)(TX:FnOk P w K mg base CX0 35 wG wC ["_law_many"] (VL K))(jK:Binds K wC ["_law_many"] [])(jH:mg "_law_leaves"=some (.ref wG))
  {a_w:Addr}{d_w:FuncData}(BK:Fun K "_law_word" "_law_word" kI a_w d_w)(ZP:Binds K d_w `l [])(Zv:mg "_law_word"=some (.ref a_w))
  {a_x:Addr}{d_x:FuncData}(jf:Fun K "_law_text" "_law_text" iZ a_x d_x)(nF:Binds K d_x `l [])(nD:mg "_law_text"=some (.ref a_x)):
  ∀n:Nat,n<=4->FnOk P w K mg base CX0 (2*n+36) a_w d_w `l (adF K n)/\FnOk P w K mg base CX0 (2*n+37) a_x d_x `l (adH K n):=by
 intro n
 induction n with
 |zero=>
  intro _
  refine⟨okQ (k:=35) BK yE `W `V,okQ (k:=36) jf Hh `W `V⟩
  ·obtain⟨p,d,rfl,_⟩:=h
   rfl
  ·obtain⟨p,d,rfl,hd,_⟩:=h
   exact absurd hd (Nat.not_lt_zero _)
  ·obtain⟨p,d,rfl,_⟩:=h
   rfl
  ·obtain⟨p,d,rfl,hd,_⟩:=h
   exact absurd hd (Nat.not_lt_zero _)
 |succ n ih=>
  intro hn4
  obtain⟨_,nY⟩:=ih `A
  have p2:pbT 2=13:=rfl
  have p3:pbT 3=40:=rfl
  have wd:FnOk P w K mg base CX0 (2*n+38) a_w d_w `l (adF K (n+1)):=by
   have bY:=tX.mono (show 31<=2*n+37 by lia)
   have je:=YT.mono (show 35<=2*n+37 by lia)
   have jN:=TX.mono (show 35<=2*n+37 by lia)
   refine okQ (k:=2*n+37) BK yE `W `V
   ·obtain⟨p,d,rfl,_⟩:=h
    rfl
   obtain⟨p,d,rfl,hd,hk,q⟩:=h
   refine⟨_,(aq (bC (i:=2) yE.nd rfl `O (aO bY hr rfl cj cA.kp cu .nil pass0 (aj (qv 0) (aj aN ak))))
   (aq (bB (aR Vj (qv 2) aN `N) (au (aQ (bD eV (bA (aj (bA ak) ak)) (aO je hr rfl jc fM.kp jd .nil pass0 (aj (qv 0) (aj aN ak)))))) aX)
   (aq (bB (aR Vj (qv 2) aN `N) (au (aQ (bA (aj (aO jN hr rfl jH jO.kp jK .nil pass0 (aj (cH ix_list (d7 (aj aN (aj aN (aj aN (aj aN (aj aN (aj aN (aj aN (aj aN (aj aN (aj aN ak))))))))))) (bD op_sub (qv 2) aN) (fun _ _=>rfl)) ak)) ak)))) aX)
   (aq (bB (QW.pt (Cv (aR op_eq (qv 2) aN `N) (xP (aR JC (qv 1) aN `N)))) (au (aQ (bD eV (bA (aj (aO jN hr rfl jH jO.kp jK .nil pass0 (aj aN ak)) (aj (aO nY hr rfl nD jf.kp nF .nil pass0 (aj (qv 0) (aj (bD op_sub (qv 1) aN) ak))) ak))) (aO nY hr rfl nD jf.kp nF .nil pass0 (aj (qv 0) (aj (bD op_sub (qv 1) aN) ak)))))) aX)
   (aq (bB (QW.pt (Cv (aR op_eq (qv 2) aN `N) (xP (aR JC (qv 1) aN `N)))) (au (aQ (bD eV (bA (aj (aO jN hr rfl jH jO.kp jK .nil pass0 (aj aN ak)) ak)) (aO nY hr rfl nD jf.kp nF .nil pass0 (aj (qv 0) (aj (bD op_sub (qv 1) aN) ak)))))) aX)
   (aq (bB (QW.pt (Cv (aR op_eq (qv 2) aN `N) (xP (aR JC (qv 1) aN `N)))) (au (aQ (bD eV (bA (aj (aO jN hr rfl jH jO.kp jK .nil pass0 (aj aN ak)) (aj (bA (aj (aO jN hr rfl jH jO.kp jK .nil pass0 (aj aN ak)) ak)) (aj (bA (aj (aO jN hr rfl jH jO.kp jK .nil pass0 (aj aN ak)) ak)) ak)))) (aO nY hr rfl nD jf.kp nF .nil pass0 (aj (qv 0) (aj aN ak)))))) aX)
   (aq (bB (aR op_eq (qv 2) aN `N) (au (aQ (bD eV (bA (aj (jY gw rfl cN pD (aj (Jx rfl (uG (fr:=["_law_deck_here"]) (js:=[0]) (sc:=defScope kI) rfl rfl rfl `D `D `D `D (by exact⟨⟨rfl,rfl,rfl⟩,trivial⟩) `D (fun y hy=>cell_has hy)) (zU rfl lK (aj (aO bY hr rfl cj cA.kp cu .nil pass0 (aj (qv 0) (aj aN ak))) ak)) (fun _ _ _ _ _=>(aO je hr rfl jc fM.kp jd .nil pass0 (aj (qv 1) (aj aN ak))))) ak)) ak)) (aO je hr rfl jc fM.kp jd .nil pass0 (aj (qv 0) (aj aN ak)))))) aX)
   (au (aQ (aO je hr rfl jc fM.kp jd .nil pass0 (aj (qv 0) (aj aN ak)))))))))))),?_⟩
   have pw:=ajz d
   refine⟨_,rfl,p,19,rfl,`B,hk,fun m H1 hm0 hm1 D1=>?_⟩
   have hk1:=D1.bW
   refine⟨_,rfl,_,_,rfl,rfl,_,rfl,ite2 (fun hb=>?_) (fun hb4=>?_)⟩
   ·refine⟨`R,fun p1 hp1=>⟨`d,fun p2' hp2=>?_⟩⟩
    obtain⟨S1,t1⟩:=dh (K:=K) (ts:=[]) hp1 (bJ.mpr rfl)
    obtain⟨S2,t2⟩:=dh (K:=K) hp2 (kh t1)
    have D2:=(D1.same S1).same S2
    refine⟨_,rfl,p,2,rfl,`B,D2.bW,fun y t H3 D3 ht hs=>?_⟩
    cases t with
    |node us=>
     have b:=Gf hs.b (wg xg)
     refine El (t2.mono (D3.kt D2.bW)) ht (small (by have:=hs.b.len;rw[List.length_singleton];lia)) (fun z H4 S4 t4=>?_)
     exact q _ _ _ ((D2.trans D3).same S4) t4 (b.le `A `A)
   refine⟨_,rfl,_,_,rfl,rfl,_,rfl,ite2 (fun hb=>?_) (fun arh=>?_)⟩
   ·have hm4:4<=m:=by
     have:¬m<4:=fun z=>hb4 (decide_eq_true z)
     lia
    have ard:m<14:=of_decide_eq_true hb
    refine⟨(by show 10<=sizeLine;decide),fun p3' hp3=>?_⟩
    obtain⟨c,hc,ec⟩:=ajV (ns:=[1,2,2,3,4,4,5,5,6,1]) (k:=(m-4).toNat) (by show _<10;lia)
    rw[show(((m-4).toNat:Nat):Int)=m-4 by lia]at ec
    have hc6:c<=6:=(`B:∀c∈([1,2,2,3,4,4,5,5,6,1]:`E),c<=6) c hc
    refine⟨_,rfl,_,_,rfl,rfl,p3',_,_,_,rfl,rfl,SqL.of upd_same,ec,c,rfl,`A,fun y H4 S4 t4=>⟨`d,fun p5 hp5=>?_⟩⟩
    obtain⟨S5,t5⟩:=dh (K:=K) hp5 (kh t4)
    exact q _ _ _ (((D1.same (same_new hp3 _)).same S4).same S5) t5 ((wg (rC c)).le `A `A)
   try dsimp only[tNext,tSeq,tIfS]
   refine Vt (fun R r=>⟨_,rfl,rfl,_,rfl,r⟩) (fun R r=>⟨_,rfl,_,_,rfl,rfl,_,rfl,r⟩) ?_
   refine ite2 (fun hb=>?_) (fun _=>?_)
   ·have hd0:0<d:=by
     have:=of_decide_eq_true (Bool.and_eq_true _ _▸hb).2
     lia
    obtain⟨e,rfl⟩:∃e,d=e+1:=⟨d-1,`A⟩
    have pe:pbW (e+1)=60+2*(1+4*pbW e):=rfl
    refine⟨7,rfl,`B,fun y1 H2 S2 t2=>?_⟩
    have D2:=D1.same S2
    refine⟨_,rfl,_,rfl,_,_,rfl,rfl,p,e,XS p e,`A,D2.bW,fun y3 u3 H3 D3 t3 s3=>⟨(by show 2<=sizeLine;decide),fun p4 hp4=>?_⟩⟩
    obtain⟨S4,t4⟩:=dh (K:=K) hp4 (abl (t2.mono (D3.kt D2.bW)) t3)
    have D4:=(D2.trans D3).same S4
    refine⟨_,rfl,_,rfl,_,_,rfl,rfl,p,e,XS p e,`A,D4.bW,fun y5 u5 H5 D5 t5 s5=>?_⟩
    cases u5 with
    |node us=>
     have b:=Gf s5.1 (cP (rC 7) (wg s3.1))
     have hl:us.length<=4:=s5.2
     refine El (t4.mono (D5.kt D4.bW)) t5 (small (by show 2+us.length<=_;lia)) (fun z H6 S6 t6=>?_)
     exact q _ _ _ ((D4.trans D5).same S6) t6 (b.le `A `A)
   try dsimp only[tNext,tSeq,tIfS]
   refine Vt (fun R r=>⟨_,rfl,rfl,_,rfl,r⟩) (fun R r=>⟨_,rfl,_,_,rfl,rfl,_,rfl,r⟩) ?_
   refine ite2 (fun hb=>?_) (fun _=>?_)
   ·have hd0:0<d:=by
     have:=of_decide_eq_true (Bool.and_eq_true _ _▸hb).2
     lia
    obtain⟨e,rfl⟩:∃e,d=e+1:=⟨d-1,`A⟩
    have pe:pbW (e+1)=60+2*(1+4*pbW e):=rfl
    refine⟨8,rfl,`B,fun y1 H2 S2 t2=>⟨`d,fun p4 hp4=>?_⟩⟩
    obtain⟨S4,t4⟩:=dh (K:=K) hp4 (kh t2)
    have D4:=(D1.same S2).same S4
    refine⟨_,rfl,_,rfl,_,_,rfl,rfl,p,e,XS p e,`A,D4.bW,fun y5 u5 H5 D5 t5 s5=>?_⟩
    cases u5 with
    |node us=>
     have b:=Gf s5.1 (wg (rC 8))
     have hl:us.length<=4:=s5.2
     refine El (t4.mono (D5.kt D4.bW)) t5 (small (by show 1+us.length<=_;lia)) (fun z H6 S6 t6=>?_)
     exact q _ _ _ ((D4.trans D5).same S6) t6 (b.le `A `A)
   try dsimp only[tNext,tSeq,tIfS]
   refine Vt (fun R r=>⟨_,rfl,rfl,_,rfl,r⟩) (fun R r=>⟨_,rfl,_,_,rfl,rfl,_,rfl,r⟩) ?_
   refine ite2 (fun hb=>?_) (fun _=>?_)
   ·have hd0:0<d:=by
     have:=of_decide_eq_true (Bool.and_eq_true _ _▸hb).2
     lia
    obtain⟨e,rfl⟩:∃e,d=e+1:=⟨d-1,`A⟩
    have pe:pbW (e+1)=60+2*(1+4*pbW e):=rfl
    have pm:pbW 0<=pbW e:=afN `R
    refine⟨8,rfl,`B,fun y1 H2 S2 t2=>⟨5,rfl,`B,fun y3 H3 S3 t3=>⟨`d,fun p4 hp4=>⟨1,rfl,`B,fun y5 H5 S5 t5=>⟨`d,fun p6 hp6=>⟨(by show 3<=sizeLine;decide),fun p7 hp7=>?_⟩⟩⟩⟩⟩⟩
    obtain⟨S4,t4⟩:=dh (K:=K) hp4 (kh t3)
    obtain⟨S6,t6⟩:=dh (K:=K) hp6 (kh t5)
    obtain⟨S7,t7⟩:=dh (K:=K) hp7 (al9 (t2.mono (.of (((S3.trans S4).trans S5).trans S6))) (t4.mono (.of (S5.trans S6))) t6)
    have D7:=(((((D1.same S2).same S3).same S4).same S5).same S6).same S7
    refine⟨_,rfl,p,0,rfl,`A,D7.bW,fun y8 u8 H8 D8 t8 s8=>?_⟩
    cases u8 with
    |node us=>
     have b:=Gf s8.1 (cP (rC 8) (cP (wg (rC 5)) (wg (wg (rC 1)))))
     have hl:us.length<=4:=s8.2
     refine El (t7.mono (D8.kt D7.bW)) t8 (small (by show 3+us.length<=_;lia)) (fun z H9 S9 t9=>?_)
     exact q _ _ _ ((D7.trans D8).same S9) t9 (b.le `A `A)
   refine⟨_,rfl,rfl,_,rfl,ite2 (fun hb=>?_) (fun _=>?_)⟩
   ·refine⟨_,rfl,p,12,rfl,`B,hk1,fun m2 H2 h0 h1 D2=>⟨m2,rfl,`A,`A,?_⟩⟩
    refine aaO (K:=K) (ShT 1) D2.bW (small `A) (fun i H' R hi Dh hR=>?_) (fun D ys ts H' Dh hl hlen htr hsh=>?_)
    ·exact⟨_,rfl,p,1,rfl,`B,Dh.bW,fun y t H3 D3 ht hs=>hR y t H3 D3 ht hs⟩
    refine⟨D,ys,rfl,.inl ⟨SqL.of hl,fun p5 hp5=>⟨`d,fun p6 hp6=>?_⟩⟩⟩
    obtain⟨S5,t5⟩:=dh (K:=K) hp5 htr
    obtain⟨S6,t6⟩:=dh (K:=K) hp6 (kh t5)
    have D6:=(((D1.trans D2).trans Dh).same S5).same S6
    refine⟨_,rfl,p,2,rfl,`B,D6.bW,fun y7 u7 H7 D7 t7 s7=>?_⟩
    cases u7 with
    |node us=>
     have b:=Gf s7.b (wg (Qj (n:=11) (fun t ht=>(hsh t ht).b) `A))
     have p1:pbT 1=4:=rfl
     refine El (t6.mono (D7.kt D6.bW)) t7 (small (by have:=s7.b.len;rw[List.length_singleton];lia)) (fun z H9 S9 t9=>?_)
     exact q _ _ _ ((D6.trans D7).same S9) t9 (b.le `A `A)
   exact⟨_,rfl,p,3,rfl,`B,hk1,fun y t H3 D3 ht hs=>q _ _ _ (D1.trans D3) ht (hs.b.le `A `A)⟩
  refine⟨wd,?_⟩
  have Z5:=wd
  have bY:=tX.mono (show 31<=2*n+38 by lia)
  refine okQ (k:=2*n+38) jf Hh `W `V
  ·obtain⟨p,d,rfl,_⟩:=h
   rfl
  obtain⟨p,d,rfl,hd,hk,q⟩:=h
  refine⟨_,(au (aQ (jY gw rfl cN pD (aj (Jx rfl (uG (fr:=`l) (js:=[0,1]) (sc:=defScope iZ) rfl rfl rfl `D `D `D `D (by exact⟨⟨rfl,rfl,rfl⟩,⟨⟨rfl,rfl,rfl⟩,trivial⟩⟩) `D (fun y hy=>cell_has hy)) (zU rfl lK (aj (aO bY hr rfl cj cA.kp cu .nil pass0 (aj (qv 0) (aj aN ak))) ak)) (fun _ _ _ _ _=>(aO Z5 hr rfl Zv BK.kp ZP .nil pass0 (aj (qv 1) (aj (qv 2) ak))))) ak)))),?_⟩
  refine⟨_,rfl,p,5,rfl,`B,hk,fun m H1 hm0 hm1 D1=>⟨m,rfl,`A,`A,?_⟩⟩
  refine aaO (K:=K) (ShW d) D1.bW (small `A) (fun i H' R hi Dh hR=>?_) (fun D ys ts H' Dh hl hlen htr hsh=>?_)
  ·exact⟨_,rfl,_,rfl,p,d,rfl,hd,Dh.bW,fun y t H3 D3 ht hs=>hR y t H3 D3 ht hs⟩
  refine⟨D,ys,rfl,.inl ⟨SqL.of hl,fun p5 hp5=>?_⟩⟩
  obtain⟨S5,t5⟩:=dh (K:=K) hp5 htr
  exact q _ _ _ ((D1.trans Dh).same S5) t5 ⟨(Qj (n:=4) hsh `A).le `A `A,by show ts.length<=4;lia⟩
end
section
variable{P:Program}{w:World}{K:W.Frag}{mg:`U}{base:Heap}{f:Addr}{fd:FuncData}
theorem ajG(abZ:mg "any"=none){dB:Value}(dI:mg "WHILE"=some dB)(cY:RelV (.int 8) dB){rQ:Value}(wN:mg "LAY"=some rQ)(sy:RelV (.int 0) rQ){eY:Value}(fB:mg "FORK"=some eY)(dR:RelV (.int 7) eY){fO:Value}(iQ:mg "NAMELESS"=some fO)(fX:RelV (.int 9) fO)
  {dO:Addr}{dM:FuncData}(qw:Fun K "first" "first" jD dO dM)(qu:FnOk P w K mg base CX0 32 dO dM ["tree"] (xG K))(qj:Binds K dM ["tree"] [])(pZ:mg "first"=some (.ref dO))
  {iw:Addr}{ig:FuncData}(vZ:Fun K "sort_of" "sort_of" jU iw ig)(vY:FnOk P w K mg base CX0 32 iw ig ["word"] (Ju K))(vX:Binds K ig ["word"] [])(vP:mg "sort_of"=some (.ref iw))
  {iy:Addr}{iu:FuncData}(rO:Fun K "load_of" "load_of" jW iy iu)(rN:FnOk P w K mg base CX0 32 iy iu ["word"] (vH K))(rK:Binds K iu ["word"] [])(rD:mg "load_of"=some (.ref iy))
  (F:Fun K "odd" "odd" uZ f fd):FnOk P w K mg base CX0 33 f fd ["word"] (abt K):=by
 refine okQ F adQ `W `V
 ·obtain⟨x,w,rfl,_⟩:=h
  rfl
 obtain⟨x,w,rfl,ht,hb,q⟩:=h
 have hE:=hr.un
 have hE:(A.deeper (envOfC "odd" (defScope uZ) s.heap.objs.size f cdv)).units+401<cLine:=`A
 refine⟨_,(aq (bB (QW.pt (Vi (aR (JD hE) (qv 0) (bA ak) `N) (Wj (dU (bV (agE rfl) rfl abZ akQ (aj (Jx rfl (uG (fr:=[]) (js:=[]) (sc:=defScope uZ) rfl rfl rfl `D `D `D `D (by exact trivial) `D (fun y hy=>cell_has hy)) (ad0 (aO qu hr rfl pZ qw.kp qj .nil pass0 (aj (qv 0) ak))) (fun _ _ _ _ _=>(pR (afQ (K:=K) rfl rfl hE) (qv 0) (bA ak) `N))) ak)))))) (au (aQ pU)) aX)
   (aq (bC (i:=1) adQ.nd rfl `O (aO vY hr rfl vP vZ.kp vX .nil pass0 (aj (qv 0) ak)))
   (aq (bB (aR Hw (qv 1) (bA (aj (aU (v:=.int 0) rfl wN sy) (aj (aU (v:=.int 8) rfl dI cY) ak))) rfl) (au (aQ pU)) aX)
   (aq (bB (aR op_eq (qv 1) (aU (v:=.int 7) rfl fB dR) `N) (au (aQ (pR (JD hE) (aO rN hr rfl rD rO.kp rK .nil pass0 (aj (qv 0) ak)) (bA ak) `N))) aX)
   (au (aQ (alD (pR op_eq (qv 1) (aU (v:=.int 9) rfl iQ fX) `N) (ad2 (pR (aaF hE) (aO rN hr rfl rD rO.kp rK .nil pass0 (aj (qv 0) ak)) (bA ak) `N))))))))),?_⟩
 have hd:=hb.1
 have hp:=hb.2
 have aqy:∀t:T,t∈(ats w.kids 0).kids->t.deep<=400:=fun t ht=>by
  have h1:=T.oV ht
  rw[<-xY]at h1
  have h2:=Py w
  lia
 have kl:(ats w.kids 0).kids.length<=100000:=by
  have:=(dH (iU (dH hb) 0)).len
  lia
 have aq9:(aK w).deep<=400:=Nat.le_trans (vR w) hd
 have hs9:aA w<=9:=by unfold aA;split<;>lia
 refine⟨_,rfl,`R,fun p1 g1=>⟨w,leaf,ht.mono (.new g1),qb upd_same,`A,_,rfl,ite2 (fun h1=>?_) (fun h1=>?_)⟩⟩
 ·have e:d8 w=true:=by unfold d8 uJ;rw[h1];rfl
  rw[e]at q
  exact iteT (q _ (same_new g1 _))
 have h1:T.beq w leaf=false:=Bool.eq_false_iff.mpr h1
 have S1:=same_new g1 (.tup [])
 refine⟨_,rfl,x,w,rfl,ht.mono (.of S1),hd,fun y H2 S2 t2=>?_⟩
 obtain⟨a2,xs2,rfl,q2,r2⟩:=bZ.mp (nU t2)
 refine⟨a2,rfl,⟨_,q2⟩,ail (fun t=>.bl (!T.beq t leaf)) q2 r2 (small (by rw[r2.length];lia)) (fun t z H' R hm S tz hR=>⟨_,rfl,`R,fun p3 g3=>⟨t,leaf,tz.mono (.new g3),qb upd_same,by have:=aqy t hm;lia,hR _ (same_new g3 _)⟩⟩) (fun D H3 S3 h3=>?_)⟩
 refine⟨D,(ats w.kids 0).kids.map fun t=>!T.beq t leaf,rfl,SqL.of (by rw[h3,List.map_map];rfl),_,rfl,?_⟩
 have S13:=S1.trans (S2.trans S3)
 have eh:uJ w=((ats w.kids 0).kids.map fun t=>!T.beq t leaf).any id:=by unfold uJ;rw[h1,List.any_map];rfl
 rw[<-eh]
 refine ite2 (fun h2=>?_) (fun h2=>?_)
 ·have e:d8 w=true:=by unfold d8;rw[h2];rfl
  rw[e]at q
  exact q _ S13
 have eo:d8 w=if aA w=0\/aA w=8 then false else if aA w=7 then T.beq (aK w) leaf else(decide (aA w=9)|| !T.beq (aK w) leaf):=by unfold d8;rw[if_neg h2]
 dsimp only[tNext]
 refine dW (fun v=>[some x,some v]) (fun _=>rfl) (fun v H'=>v=.int (aA w:Nat)/\`L) (fun R r=>⟨_,rfl,x,w,rfl,ht.mono (.of S13),hd,fun H4 S4=>r _ _ ⟨rfl,S13.trans S4⟩⟩) (fun v4 H4 h4=>?_)
 obtain⟨rfl,S4⟩:=h4
 refine⟨_,rfl,(by show 2<=sizeLine;decide),fun p5 g5=>⟨p5,_,rfl,.inr (SqT.of upd_same),rfl,rfl,_,rfl,?_⟩⟩
 have S5:=S4.trans (same_new g5 (.tup [.int 0,.int 8]))
 have ei:(if false=true then !inV (.int ((aA w:Nat):Int)) [.int 0,.int 8]else inV (.int ((aA w:Nat):Int)) [.int 0,.int 8])=decide (aA w=0\/aA w=8):=by
  rw[if_neg `B]
  unfold inV
  rw[List.any_cons,List.any_cons,List.any_nil,Bool.or_false]
  show(((0:Int)==((aA w:Nat):Int))||((8:Int)==((aA w:Nat):Int)))=_
  rw[Bool.eq_iff_iff,Bool.or_eq_true,beq_iff_eq,beq_iff_eq,decide_eq_true_iff]
  lia
 rw[ei]
 refine ite2 (fun h3=>?_) (fun h3=>?_)
 ·rw[eo,if_pos (of_decide_eq_true h3)]at q
  exact q _ S5
 rw[eo,if_neg (fun z=>h3 (decide_eq_true z))]at q
 refine⟨_,rfl,rfl,_,rfl,ite2 (fun h7=>?_) (fun h7=>?_)⟩
 ·have e7:aA w=7:=by have:=V.int.inj (of_decide_eq_true h7);lia
  rw[if_pos e7]at q
  exact⟨_,rfl,x,w,rfl,ht.mono (.of S5),fun y H6 S6 t6=>⟨`R,fun p7 g7=>⟨aK w,leaf,t6.mono (.new g7),qb upd_same,`A,q _ (S5.trans (S6.trans (same_new g7 _)))⟩⟩⟩
 ·have e7:aA w≠7:=fun z=>h7 (by rw[z];exact decide_eq_true rfl)
  rw[if_neg e7]at q
  refine⟨_,rfl,rfl,_,rfl,ite2 (fun h9=>?_) (fun h9=>?_)⟩
  ·have e9:aA w=9:=by have:=V.int.inj (of_decide_eq_true h9);lia
   rw[decide_eq_true e9,Bool.true_or]at q
   exact q _ S5
  ·have e9:aA w≠9:=fun z=>h9 (by rw[z];exact decide_eq_true rfl)
   rw[decide_eq_false e9,Bool.false_or]at q
   exact⟨_,rfl,x,w,rfl,ht.mono (.of S5),fun y H6 S6 t6=>⟨`R,fun p7 g7=>⟨aK w,leaf,t6.mono (.new g7),qb upd_same,`A,q _ (S5.trans (S6.trans (same_new g7 _)))⟩⟩⟩
theorem abK{rQ:Value}(wN:mg "LAY"=some rQ)(sy:RelV (.int 0) rQ){eY:Value}(fB:mg "FORK"=some eY)(dR:RelV (.int 7) eY){bU:Addr}(iG:mg "NAMES"=some (.ref bU))(pW:∀H,SqT K H bU [.str (PySem.Str.ofString "lay"),.str (PySem.Str.ofString "drop"),.str (PySem.Str.ofString "twin"),.str (PySem.Str.ofString "swap"),.str (PySem.Str.ofString "front"),.str (PySem.Str.ofString "part"),.str (PySem.Str.ofString "turn"),.str (PySem.Str.ofString "fork"),.str (PySem.Str.ofString "while")]){dB:Value}(dI:mg "WHILE"=some dB)(cY:RelV (.int 8) dB)
  {FQ:Addr}{Fj:FuncData}(acY:Fun K "odd" "odd" uZ FQ Fj)(acS:FnOk P w K mg base CX0 33 FQ Fj ["word"] (abt K))(acB:Binds K Fj ["word"] [])(abW:mg "odd"=some (.ref FQ))
  {lg:Addr}{kW:FuncData}(vp:Fun K "show_tree" "show_tree" iW lg kW)(vo:FnOk P w K mg base CX0 33 lg kW ["tree"] (aaj K))(vh:Binds K kW ["tree"] [])(u9:mg "show_tree"=some (.ref lg))
  {iw:Addr}{ig:FuncData}(vZ:Fun K "sort_of" "sort_of" jU iw ig)(vY:FnOk P w K mg base CX0 33 iw ig ["word"] (Ju K))(vX:Binds K ig ["word"] [])(vP:mg "sort_of"=some (.ref iw))
  {iy:Addr}{iu:FuncData}(rO:Fun K "load_of" "load_of" jW iy iu)(rN:FnOk P w K mg base CX0 33 iy iu ["word"] (vH K))(rK:Binds K iu ["word"] [])(rD:mg "load_of"=some (.ref iy))
  {dO:Addr}{dM:FuncData}(qw:Fun K "first" "first" jD dO dM)(qu:FnOk P w K mg base CX0 33 dO dM ["tree"] (xG K))(qj:Binds K dM ["tree"] [])(pZ:mg "first"=some (.ref dO))
  {pH:Addr}{pA:FuncData}(Jm:Fun K "rest" "rest" rZ pH pA)(Jk:FnOk P w K mg base CX0 33 pH pA ["tree"] (vH K))(Ja:Binds K pA ["tree"] [])(HF:mg "rest"=some (.ref pH))
  (F:Fun K "spelled" "spelled" oH f fd):FnOk P w K mg base CX0 34 f fd ["word"] (T6 K):=by
 refine okQ F DR `W `V
 ·obtain⟨x,w,rfl,_⟩:=h
  rfl
 obtain⟨x,w,rfl,ht,hb,q⟩:=h
 refine⟨_,(aq (bB (dU (aO acS hr rfl abW acY.kp acB .nil pass0 (aj (qv 0) ak))) (au (aQ (bA (aj (bD cJ bF (aO vo hr rfl u9 vp.kp vh .nil pass0 (aj (qv 0) ak))) ak)))) aX)
   (aq (bC (i:=1) DR.nd rfl `O (aO vY hr rfl vP vZ.kp vX .nil pass0 (aj (qv 0) ak)))
   (aq (bC (i:=2) DR.nd rfl `O (aO rN hr rfl rD rO.kp rK .nil pass0 (aj (qv 0) ak)))
   (aq (bB (aR op_eq (qv 1) (aU (v:=.int 0) rfl wN sy) `N) (au (aQ (bA (aj (bD cJ bF (aO vo hr rfl u9 vp.kp vh .nil pass0 (aj (qv 2) ak))) ak)))) aX)
   (aq (bB (aR op_eq (qv 1) (aU (v:=.int 7) rfl fB dR) `N) (au (aQ (bD eV (bD eV (bD eV (bD eV (bA (aj (cH g_ (aU (v:=.ref bU) rfl iG rfl) (aU (v:=.int 7) rfl fB dR) (fun _ _=>rfl)) (aj bF ak))) (aO qu hr rfl pZ qw.kp qj .nil pass0 (aj (qv 2) ak))) (bA (aj bF ak))) (aO Jk hr rfl HF Jm.kp Ja .nil pass0 (aj (qv 2) ak))) (bA (aj bF ak))))) aX)
   (aq (bB (aR op_eq (qv 1) (aU (v:=.int 8) rfl dI cY) `N) (au (aQ (bD eV (bD eV (bA (aj (cH g_ (aU (v:=.ref bU) rfl iG rfl) (aU (v:=.int 8) rfl dI cY) (fun _ _=>rfl)) (aj bF ak))) (qv 2)) (bA (aj bF ak))))) aX)
   (au (aQ (bA (aj (cH g_ (aU (v:=.ref bU) rfl iG rfl) (qv 1) (fun _ _=>rfl)) ak)))))))))),?_⟩
 have hd:=hb.1
 have hp:=hb.2
 have nmq:∀H,SqT K H bU sG:=fun H=>by rw[<-Mr];exact pW H
 have hlp:(aK w).parts<=100000:=by
  have:=uF w
  have:=T.cU (aK w)
  lia
 have hld:=vR w
 have hbl:B 400 100000 (aK w):=⟨`A,hlp⟩
 have kl:=(dH hbl).len
 have ky:=(dH (iU (dH hbl) 0)).len
 have kn:=(dH (lR hbl)).len
 refine⟨_,rfl,x,w,rfl,ht,hb,fun H1 S1=>⟨_,rfl,ite2 (fun ho=>?_) (fun ho=>?_)⟩⟩
 ·have e:cF w=[.inr (33::w.wr)]:=by unfold cF;rw[if_pos ho]
  rw[e]at q
  refine⟨_,rfl,x,w,rfl,ht.mono (.of S1),hp,fun H2 S2=>⟨_,_,rfl,rfl,?_,`d,fun p3 g3=>?_⟩⟩
  ·rw[B_,bR,bR,T.iK]
   exact small (by show 1+_<=_;lia)
  ·obtain⟨S3,t3⟩:=itN (K:=K) g3 (aP.one (show IR K _ (.inr (33::w.wr)) (.str (PySem.Str.ofString "!"++tx w.wr))from congrArg V.str (by rw[B_,cO];rfl)))
   exact q _ _ (S1.trans (S2.trans S3)) t3
 have ho:d8 w=false:=Bool.eq_false_iff.mpr ho
 have h8:=LR ho
 dsimp only[tNext]
 refine dW (fun v=>[some x,some v,none]) (fun _=>rfl) (fun v H'=>v=.int (aA w:Nat)/\`L) (fun R r=>⟨_,rfl,x,w,rfl,ht.mono (.of S1),hd,fun H4 S4=>r _ _ ⟨rfl,S1.trans S4⟩⟩) (fun v4 H4 h4=>?_)
 obtain⟨rfl,S4⟩:=h4
 refine dW (fun v=>[some x,some (.int (aA w:Nat)),some v]) (fun _=>rfl) (fun v H'=>TR K H' (aK w) v/\`L) (fun R r=>⟨_,rfl,x,w,rfl,ht.mono (.of S4),fun y H5 S5 t5=>r _ _ ⟨t5,S4.trans S5⟩⟩) (fun v5 H5 h5=>?_)
 obtain⟨t5,S5⟩:=h5
 refine⟨_,rfl,rfl,_,rfl,ite2 (fun h0=>?_) (fun h0=>?_)⟩
 ·have e0:aA w=0:=by have:=V.int.inj (of_decide_eq_true h0);lia
  have e:cF w=[.inr (39::(aK w).wr)]:=by unfold cF;rw[if_neg (by rw[ho];decide),if_pos e0]
  rw[e]at q
  refine⟨_,rfl,v5,aK w,rfl,t5,hlp,fun H6 S6=>⟨_,_,rfl,rfl,?_,`d,fun p7 g7=>?_⟩⟩
  ·rw[BZ,bR,bR,T.iK]
   exact small (by show 1+_<=_;lia)
  ·obtain⟨S7,t7⟩:=itN (K:=K) g7 (aP.one (show IR K _ (.inr (39::(aK w).wr)) (.str (PySem.Str.ofString "'"++tx (aK w).wr))from congrArg V.str (by rw[BZ,cO];rfl)))
   exact q _ _ (S5.trans (S6.trans S7)) t7
 have e0:aA w≠0:=fun z=>h0 (by rw[z];exact decide_eq_true rfl)
 refine⟨_,rfl,rfl,_,rfl,ite2 (fun h7=>?_) (fun h7=>?_)⟩
 ·have e7:aA w=7:=by have:=V.int.inj (of_decide_eq_true h7);lia
  have e:cF w=[.inr (nmC 7),.inr [91]]++(ats (aK w).kids 0).kids.map .inl++[.inr [124]]++(aK (aK w)).kids.map .inl++[.inr [93]]:=by unfold cF;rw[if_neg (by rw[ho];decide),if_neg `A,if_pos e7]
  rw[e]at q
  refine⟨bU,_,7,_,rfl,rfl,nmq _,uy (k:=7) `B,(by show 2<=sizeLine;decide),fun p6 g6=>?_⟩
  obtain⟨S6,t6⟩:=itN (K:=K) g6 (xs:=[.str (tx (nmC 7)),.str (PySem.Str.ofString "[")]) (its:=[.inr (nmC 7),.inr [91]]) (.cons rfl (.cons (congrArg V.str Jr) .nil))
  refine⟨_,rfl,v5,aK w,rfl,t5.mono (.of S6),`A,fun y7 H7 S7 t7=>JG (t6.mono (.of S7)) (TR.it (nU t7)) (small (by rw[List.length_map];show 2+_<=_;lia)) (fun z8 H8 S8 t8=>⟨`d,fun p9 g9=>?_⟩)⟩
  obtain⟨S9,t9⟩:=itN (K:=K) g9 (xs:=[.str (PySem.Str.ofString "|")]) (its:=[.inr [124]]) (.cons (congrArg V.str adg) .nil)
  have S69:=S6.trans (S7.trans (S8.trans S9))
  refine JG (t8.mono (.of S9)) t9 (small (by rw[List.length_append,List.length_map];show 2+_+1<=_;lia)) (fun z10 H10 S10 t10=>⟨_,rfl,v5,aK w,rfl,t5.mono (.of (S69.trans S10)),fun y11 H11 S11 t11=>JG (t10.mono (.of S11)) (TR.it (nU t11)) (small (by rw[List.length_append,List.length_append,List.length_map,List.length_map];show 2+_+1+_<=_;lia)) (fun z12 H12 S12 t12=>⟨`d,fun p13 g13=>?_⟩)⟩)
  obtain⟨S13,t13⟩:=itN (K:=K) g13 (xs:=[.str (PySem.Str.ofString "]")]) (its:=[.inr [93]]) (.cons (congrArg V.str Vf) .nil)
  exact JG (t12.mono (.of S13)) t13 (small (by rw[List.length_append,List.length_append,List.length_append,List.length_map,List.length_map];show 2+_+1+_+1<=_;lia)) (fun z14 H14 S14 t14=>q _ _ (S5.trans (S69.trans (S10.trans (S11.trans (S12.trans (S13.trans S14)))))) t14)
 have e7:aA w≠7:=fun z=>h7 (by rw[z];exact decide_eq_true rfl)
 refine⟨_,rfl,rfl,_,rfl,ite2 (fun h8'=>?_) (fun h8'=>?_)⟩
 ·have e8:aA w=8:=by have:=V.int.inj (of_decide_eq_true h8');lia
  have e:cF w=[.inr (nmC 8),.inr [91]]++(aK w).kids.map .inl++[.inr [93]]:=by unfold cF;rw[if_neg (by rw[ho];decide),if_neg `A,if_neg `A,if_pos e8]
  rw[e]at q
  refine⟨bU,_,8,_,rfl,rfl,nmq _,uy (k:=8) `B,(by show 2<=sizeLine;decide),fun p6 g6=>?_⟩
  obtain⟨S6,t6⟩:=itN (K:=K) g6 (xs:=[.str (tx (nmC 8)),.str (PySem.Str.ofString "[")]) (its:=[.inr (nmC 8),.inr [91]]) (.cons rfl (.cons (congrArg V.str Jr) .nil))
  refine⟨_,rfl,JG t6 (TR.it (nU (t5.mono (.of S6)))) (small (by rw[List.length_map];show 2+_<=_;lia)) (fun z8 H8 S8 t8=>⟨`d,fun p9 g9=>?_⟩)⟩
  obtain⟨S9,t9⟩:=itN (K:=K) g9 (xs:=[.str (PySem.Str.ofString "]")]) (its:=[.inr [93]]) (.cons (congrArg V.str Vf) .nil)
  exact JG (t8.mono (.of S9)) t9 (small (by rw[List.length_append,List.length_map];show 2+_+1<=_;lia)) (fun z10 H10 S10 t10=>q _ _ (S5.trans (S6.trans (S8.trans (S9.trans S10)))) t10)
 have e8:aA w≠8:=fun z=>h8' (by rw[z];exact decide_eq_true rfl)
 have e:cF w=[.inr (nmC (aA w))]:=by unfold cF;rw[if_neg (by rw[ho];decide),if_neg e0,if_neg e7,if_neg e8]
 rw[e]at q
 refine⟨_,rfl,bU,_,_,_,rfl,rfl,nmq _,uy (k:=aA w) `A,`d,fun p6 g6=>?_⟩
 obtain⟨S6,t6⟩:=itN (K:=K) g6 (its:=[.inr (nmC (aA w))]) (.cons rfl .nil)
 exact q _ _ (S5.trans S6) t6
end
section
variable{P:Program}{w:World}{K:W.Frag}{mg:`U}{base:Heap}{f:Addr}{fd:FuncData}
theorem ahk{a b:Nat}{w:T}(h:B a b w):∀t:T,(.inl t:Itm)∈cF w->B a b t:=by
 have h1:=dH (lR h)
 have h2:=dH (lR (lR h))
 have hy:B a b (.node (ats (aK w).kids 0).kids):=by
  cases hk:(aK w).kids with
  |nil=>exact xg.le `R (by have:=h.2;have:=T.cZ w;lia)
  |cons y r=>exact dH (xq h1 (by rw[hk];exact List.mem_cons_self))
 have wds:∀ts:`C,B a b (.node ts)->∀t:T,(.inl t:Itm)∈ts.map (.inl:T->Itm)->B a b t:=fun ts hb t ht=>by
  obtain⟨u,hu,e⟩:=List.mem_map.mp ht
  cases e
  exact xq hb hu
 have no:∀(t:T)(l:`E),¬(.inl t:Itm)∈[(.inr l:Itm)]:=fun t l z=>by simp at z
 have no2:∀(t:T)(l m:`E),¬(.inl t:Itm)∈[(.inr l:Itm),.inr m]:=fun t l m z=>by simp at z
 intro t ht
 unfold cF at ht
 split at ht
 ·exact absurd ht (no _ _)
 split at ht
 ·exact absurd ht (no _ _)
 split at ht
 ·rcases List.mem_append.mp ht with ht|ht
  ·rcases List.mem_append.mp ht with ht|ht
   ·rcases List.mem_append.mp ht with ht|ht
    ·rcases List.mem_append.mp ht with ht|ht
     ·exact absurd ht (no2 _ _ _)
     ·exact wds _ hy t ht
    ·exact absurd ht (no _ _)
   ·exact wds _ h2 t ht
  ·exact absurd ht (no _ _)
 split at ht
 ·rcases List.mem_append.mp ht with ht|ht
  ·rcases List.mem_append.mp ht with ht|ht
   ·exact absurd ht (no2 _ _ _)
   ·exact wds _ h1 t ht
  ·exact absurd ht (no _ _)
 ·exact absurd ht (no _ _)
def WSx(K:W.Frag)(H:Hp)(x:V)(w:`I)(p1 p2:Addr):Nat->Sg->`S:=fun m σ H'=>∃(ys:`F)(its:List Itm)(ds qs:`I)(o:Option V),
 σ=[some x,some (.ref p1),some (.ref p2),o]/\`L/\H' p1=some (.lst (ds.map fun c=>V.str (tx c)))/\H' p2=some (.lst ys)/\aP (IR K H') its ys.reverse/\rB its qs/\ds++qs=w/\(∀t:T,(.inl t:Itm)∈its->B 400 100000 t)/\wtL its<=500000/\m=wtL its
theorem ah4(qF:mg "list"=none)(fY:mg "reversed"=none)(bf:mg "isinstance"=none)(pY:mg "str"=none)
  {Jf:Addr}{Ii:FuncData}(ae0:Fun K "spelled" "spelled" oH Jf Ii)(aeV:FnOk P w K mg base CX0 34 Jf Ii ["word"] (T6 K))(aeN:Binds K Ii ["word"] [])(aes:mg "spelled"=some (.ref Jf))
  (F:Fun K "show" "show" yG f fd):FnOk P w K mg base CX0 35 f fd ["text"] (aai K):=by
 refine okQ F Jw `W `V
 ·obtain⟨x,ts,ps,rfl,_⟩:=h
  rfl
 obtain⟨x,ts,ps,rfl,ht,hts,hb,q⟩:=h
 refine⟨_,(aq (bC (i:=1) Jw.nd rfl `O (d7 ak))
   (aq (bC (i:=2) Jw.nd rfl `O (D_ rfl rfl qF fY rfl (qv 0)))
   (aq (uq PassesOwn.never (yN (qv 2) (fun _=>rfl)) (aq (bC (i:=3) Jw.nd rfl `O (mV PySem.F.plainAttrs_list PySem.F.slot_list_pop PySem.F.type_list_pop jZ (qv 2)))
   (au (bB (dU (bV IV rfl bf cG (aj (qv 3) (aj (Q8 (v:=.ty "str") rfl pY I_ rfl) ak)))) (au (bO (cI PySem.F.plainAttrs_list PySem.F.slot_list_append PySem.F.type_list_append bN (qv 1) (aj (qv 3) ak)))) (au (bO (cI PySem.F.plainAttrs_list PySem.F.slot_list_extend PySem.F.type_list_extend Uj (qv 2) (aj (D_ rfl rfl qF fY rfl (aO aeV hr rfl aes ae0.kp aeN .nil pass0 (aj (qv 3) ak))) ak))))))))
   (au (aQ (cI PySem.F.plainAttrs_str PySem.F.slot_str_join PySem.F.type_str_join agb bF (aj (qv 1) ak))))))),?_⟩
 obtain⟨a,xs,rfl,ha,ra⟩:=bZ.mp ht
 have hsz:=Dz hts
 have hpl:T.aG ts<80000:=by have:=hb.2;rw[T.aM]at this;lia
 have hdl:ps.length<=960000:=by unfold szP at hsz;lia
 refine⟨`R,fun p1 g1=>?_⟩
 have S1:=same_new g1 (.lst [])
 refine⟨_,rfl,a,xs,rfl,eU (.of S1) ha,fun p2 g2=>?_⟩
 have n12:p1≠p2:=fun z=>by rw[<-z,upd_same]at g2;cases g2
 have hp2':H p2=none:=S1.free g2
 refine⟨WSx K H `G ps p1 p2,⟨_,xs.reverse,ts.map .inl,[],ps,none,rfl,S1.trans (same_new g2 _),by rw[upd_ne n12];exact upd_same,upd_same,?_,Cz hts,rfl,fun t hm=>?_,?_,rfl⟩,?_⟩
 ·rw[List.reverse_reverse]
  exact MP ((ra.mono (.of S1)).mono (.new g2))
 ·obtain⟨u,hu,e⟩:=List.mem_map.mp hm
  cases e
  exact(xq hb hu).le `P `A
 ·rw[vq]
  lia
 rintro m σ H'⟨ys,its,ds,qs,o,rfl,S,h1,h2,hw,hO,hc,hB,hW,rfl⟩
 have hl:=hw.length
 rw[List.length_reverse]at hl
 have hol:=Jp its
 have hcl:ds.length+qs.length=ps.length:=by rw[<-hc,List.length_append]
 refine⟨_,rfl,!ys.isEmpty,.inl ⟨ys,SqL.of h2,rfl⟩,?_⟩
 refine ite2 (fun hb=>?_) (fun hb=>?_)
 ·have hne:ys≠[]:=by rintro rfl;exact absurd hb `B
  obtain⟨y,hy⟩:=RD hne
  have ey:=Uv hy
  have er:ys.reverse=y::ys.dropLast.reverse:=by
   have:=congrArg List.reverse ey
   rw[List.reverse_append]at this
   exact this
  rw[er]at hw
  match its,hw,hO,hB,hW,hol,hl with
  |it::its',.cons hwy hw',hO1,hB,hW,hol,hl=>
  refine⟨fun σ' H'=>∃m',m'<wtL (it::its')/\WSx K H `G ps p1 p2 m' σ' H',fun _ _ h=>h,?_⟩
  refine⟨_,rfl,.inl ⟨rfl,_,SqL.of h2⟩,p2,ys,_,rfl,rfl,h2,hy,?_⟩
  have hwd:=hw'.imp (S:=IR K (upd H' p2 (.lst ys.dropLast))) fun _ _=>IR.mono (Kt.lst h2)
  have S2:Same H (upd H' p2 (.lst ys.dropLast)):=bQ S hp2'
  have h12:upd H' p2 (.lst ys.dropLast) p1=some (.lst (ds.map fun c=>V.str (tx c))):=by rw[upd_ne n12];exact h1
  have h22:upd H' p2 (.lst ys.dropLast) p2=some (.lst ys.dropLast):=upd_same
  have hyk:IR K (upd H' p2 (.lst ys.dropLast)) it y:=IR.mono (Kt.lst h2) hwy
  generalize upd H' p2 (.lst ys.dropLast)=H2 at hwd S2 h12 h22 hyk
  have alV:ys.dropLast.length=its'.length:=by rw[List.length_dropLast,hl];rfl
  rw[yq]at hW
  cases it with
  |inr l=>
   have ey2:y=.str (tx l):=hyk
   subst ey2
   cases hO1 with
   |txt hO2=>
   refine⟨_,rfl,.inl ⟨.str (tx l),"str",.type "str",true,rfl,TyOf.str _,by rfl,_,rfl,iteT ?_⟩⟩
   refine⟨_,rfl,.inl ⟨rfl,_,SqL.of h12⟩,_,rfl,p1,_,_,rfl,rfl,h12,vI (by rw[List.length_map];lia),?_⟩
   refine⟨_,?_,ys.dropLast,its',ds++[l],_,_,rfl,bQ S2 g1,?_,by rw[upd_ne (Ne.symm n12)];exact h22,hwd.imp fun _ _=>IR.mono (Kt.lst h12),hO2,?_,fun t ht=>hB t (List.mem_cons_of_mem _ ht),`A,rfl⟩
   ·rw[yq]
    show _<1+_
    lia
   ·rw[upd_same,List.map_append]
    rfl
   ·rw[<-hc,List.append_assoc]
    rfl
  |inl t=>
   have bt:=hB t List.mem_cons_self
   have hty:TR K H2 t y:=hyk
   obtain⟨a4,zs4,rfl,q4,_⟩:=vm hty
   cases hO1 with
   |word hwr hO2=>
   refine⟨_,rfl,.inr ⟨a4,_,"str",false,rfl,q4,by rfl,_,rfl,iteF ?_⟩⟩
   refine⟨_,rfl,.inl ⟨rfl,_,SqL.of h22⟩,_,rfl,.ref a4,t,rfl,hty,bt,fun z H3 S3 it3=>?_⟩
   obtain⟨a5,zs,rfl,q5,r5⟩:=it3
   have h23:=S3 _ _ h22
   have h13:=S3 _ _ h12
   have hsw:=afd t
   have hsl:=Jp (cF t)
   have hzl:=r5.length
   have hti:wtI (.inl t)=5*t.parts:=rfl
   refine⟨a5,zs,rfl,q5,fun l gl=>?_⟩
   have n2l:p2≠l:=ne_of_none h23 gl
   have n1l:p1≠l:=ne_of_none h13 gl
   have h24:upd H3 l (.lst zs.reverse) p2=some (.lst ys.dropLast):=by rw[upd_ne n2l];exact h23
   refine⟨p2,l,ys.dropLast,zs.reverse,rfl,rfl,h24,upd_same,small (by rw[List.length_reverse,alV,hzl];have:=Jp its';lia),?_⟩
   have k5:Kt H3 (upd (upd H3 l (.lst zs.reverse)) p2 (.lst (ys.dropLast++zs.reverse))):=(Kt.new gl).trans (Kt.lst h24)
   refine⟨_,?_,ys.dropLast++zs.reverse,cF t++its',ds,_,_,rfl,bQ ((S2.trans S3).trans (same_new gl _)) hp2',?_,upd_same,?_,(abG hwr).append hO2,hc,fun u hu=>?_,?_,rfl⟩
   ·rw[jP,yq]
    lia
   ·rw[upd_ne n12,upd_ne n1l]
    exact h13
   ·rw[List.reverse_append,List.reverse_reverse]
    exact(r5.imp fun _ _=>IR.mono k5).append (hwd.imp fun _ _=>IR.mono ((Kt.of S3).trans k5))
   ·rcases List.mem_append.mp hu with hu|hu
    ·exact ahk bt u hu
    ·exact hB u (List.mem_cons_of_mem _ hu)
   ·rw[jP]
    lia
 ·have hys:ys=[]:=by
   cases ys with
   |nil=>rfl
   |cons _ _=>exact absurd rfl hb
  subst hys
  have hos:its=[]:=List.length_eq_zero_iff.mp hl.symm
  subst hos
  cases hO
  rw[List.append_nil]at hc
  subst hc
  refine⟨rfl,_,rfl,p1,[32],ds,(by rw[show Str.ofString " "=tx [32]from K1]),rfl,SqL.of h1,?_,q _ S⟩
  unfold szP at hsz
  show _+_*1<=_
  lia
end
abbrev pP:Stmt:=inClass (top 38) 0
abbrev Cr:Stmt:=inClass (top 38) 1
abbrev xM:Stmt:=inClass (top 38) 2
abbrev xJ:Stmt:=inClass (top 38) 3
abbrev nj:Stmt:=inClass (top 38) 4
abbrev pO:Stmt:=inClass (top 38) 5
abbrev xH:Stmt:=inClass (top 38) 6
theorem Y8:FnScope ["self"] ["self"] (defScope pP):=`Y
theorem ahp:FnScope ["self","piece"] ["self","piece"] (defScope Cr):=`Y
theorem afq:FnScope ["self","place"] ["self","place"] (defScope xM):=`Y
theorem afn:FnScope ["self"] ["self"] (defScope xJ):=`Y
theorem Hf:FnScope ["self","no"] ["self"] (defScope nj):=`Y
theorem Y7:FnScope ["self","word"] ["self","word"] (defScope pO):=`Y
theorem afl:FnScope ["self"] ["self"] (defScope xH):=`Y
section
variable{P:Program}{w:World}{K:W.Frag}{mg:`U}{base:Heap}{f:Addr}{fd:FuncData}
abbrev bmV:`M:=[.type "ValueError",.type "Exception",.type "BaseException",.type "object"]
section
variable{P:Program}{w:World}{K:W.Frag}{mg:`U}{base:Heap}{N:List Str}{qual:Str}{scope:Scope}{f:Addr}{cd:Value}{A:Around}{outer:List Env}{s₀:Shared}{H₀:Hp}{E:XK}
theorem abC{xB x2:Str}{D0 C2:Addr}{B newId initId:String}{bmB:`M}{body:List Stmt}{ts:TS}{np np2 cpos cp rpos hp Ws:Pos}{kk:Nat}
  (hb:∀EE,Passes (CXC P w) ((`f).wish EE) (ac1 K D0 C2 E)->QSs ((`f).wish EE) body ts)
  (hgB:Gl `f xB)(hmB:mg xB=some (.ref D0))(h1:W.typeIn K (.ref D0)=some (.type "type"))(h2:W.subIn K (.ref D0) (.type "BaseException")=some true)(hD:∃cd,W.clsIn K D0=some cd)
  (FB:ExcBaseFacts B newId initId bmB)(q:W.excIn K C2 bmB newId=true)(hk:W.keepIn K (.ref C2)=true)(hg:Gl `f x2)(hm:mg x2=some (.ref C2))
  (hdB:(xB==("__debug__":Str))=false:=by decide)(hd2:(x2==("__debug__":Str))=false:=by decide):
  QS `f (.Try body [.ExceptHandler (some (.Name xB np)) none [.Raise (some (.Call (.Name x2 np2) [] [] cpos)) (some (.Constant .none kk cp)) rpos] hp] [] [] Ws) ts:=⟨abD hb hgB hmB h1 h2 hD FB q hk hg hm hdB hd2⟩
end
def JW(K:W.Frag)(H:Hp)(x:V):Prop:=∃ty,TyOf K H x ty/\W.kitOne K ty (.type "str")=some false
def acN(K:W.Frag)(H:Hp)(x:V):Prop:=JW K H x\/∃a xs,x=`G/\SqT K H a xs
def DN(K:W.Frag)(cT:Addr):Sp:=fun vs H Q E=>∃x,vs=[x]/\((∃l,x=.str (tx l)/\l.length<=400000/\(∀t,fQ l=some t->∀y H',`L->TR K H' t y->Q y H')/\(fQ l=none->∀H',`L->E (.ref cT) none H'))\/(acN K H x/\E (.ref cT) none H))
def T5(K:W.Frag)(cX:Addr):Sp:=fun vs H Q E=>∃l,vs=[.str (tx l)]/\l.length<=400000/\(∀t,fQ l=some t->∀y H',`L->TR K H' t y->Q y H')/\(fQ l=none->∀H',`L->E (.ref cX) none H')
def adG(K:W.Frag)(cX:Addr):Sp:=fun vs H Q E=>∃p,vs=[.str (tx p)]/\p.length<=90000/\fK 390 p/\(∀w,lA p=some w->∀y H',`L->TR K H' w y->Q y H')/\(lA p=none->∀H',`L->E (.ref cX) none H')
def VR(K:W.Frag)(C cX:Addr):Sp:=fun vs H Q E=>∃(o:Addr)(H₀:Hp)(st:List `C)(pl:`I)(nm:`E),vs=[.ref o]/\nZ K C H₀ H o st pl nm/\
 ((∃st2 pl2 t,((∃r,st=r::st2/\pl=dN::pl2/\t=wO r/\B 400 1000000 (.node r))\/(∃n y,st=n::y::st2/\pl=noC::cR::pl2/\t=wU y n/\B 400 1000000 (.node n)/\B 400 1000000 (.node y)))/\∀x H',Kt H H'->nZ K C H₀ H' o st2 pl2 nm->TR K H' t x->Q x H')\/(∃c pl2,pl=c::pl2/\c≠dN/\c≠noC/\∀H',Same H₀ H'->E (.ref cX) none H'))
def Vy(K:W.Frag)(C cX:Addr):Sp:=fun vs H Q E=>∃(o:Addr)(H₀:Hp)(st:List `C)(pl:`I)(nm:`E),vs=[.ref o]/\nZ K C H₀ H o st pl nm/\(∀r,st=[r]->nm=[]->∀y H',Same H₀ H'->TR K H' (.node r) y->Q y H')/\((nm≠[]\/st.length≠1)->∀H',Same H₀ H'->E (.ref cX) none H')
def aag(K:W.Frag)(C cX:Addr):Sp:=fun vs H Q E=>∃(o:Addr)(p:`E)(H₀:Hp)(a:Rst),vs=[.ref o,.str (tx p)]/\nZ K C H₀ H o a.st a.pl a.nm/\WF a/\Sz a/\p.length<=90000/\fK 390 p/\(∀b H',gA a p=some b->Kt H H'->nZ K C H₀ H' o b.st b.pl b.nm->Q .non H')/\(gA a p=none->∀H',Same H₀ H'->E (.ref cX) none H')
def T8(K:W.Frag):Sp:=fun vs H Q _=>∃ps:`I,vs=[.str (tx (aV [32] ps))]/\YH ps/\(aV [32] ps).length<=8000000/\∀D,H D=none->Q (.ref D) (upd H D (.lst (ps.map fun p=>V.str (tx p))))
def JT(ps:`I):Prop:=YH ps/\YJ ps
def T7(K:W.Frag)(cX:Addr):Sp:=fun vs H Q E=>∃x,vs=[x]/\((∃ps,x=.str (tx (aV [32] ps))/\JT ps/\(∀r,lC ps=some r->∀y H',`L->TR K H' (.node r) y->Q y H')/\(lC ps=none->∀H',`L->E (.ref cX) none H'))\/(JW K H x/\E (.ref cX) none H))
theorem Zj{C:Addr}(cC:Cls K C)(nR:NoAttr K C "rows")(nP:NoAttr K C "places")(nN:NoAttr K C "named")
  (F:Fun K "__init__" "Reading.__init__" pP f fd):FnOk P w K mg base CX0 31 f fd ["self"] (spInit K C):=by
 refine okQ F Y8 `W `V
 ·obtain⟨o,dx,H₀,rfl,_⟩:=h
  rfl
 obtain⟨o,dx,H₀,rfl,S0,o0,ho,q⟩:=h
 refine⟨_,(aq (cM (qv 0) (d7 (aj (d7 ak) ak)) rfl)
   (aq (cM (qv 0) (d7 (aj bF ak)) rfl)
   (au (cM (qv 0) bF rfl)))),?_⟩
 refine⟨`R,fun q1 g1=>⟨`d,fun q2 g2=>?_⟩⟩
 have S1:=same_new g1 (.lst [])
 have S2:=same_new g2 (.lst [.ref q1])
 have n21:q1≠q2:=fun z=>by rw[<-z,upd_same]at g2;cases g2
 have o1:o≠q1:=ne_of_none ho g1
 have o2:o≠q2:=ne_of_none (S1 _ _ ho) g2
 have ho2:=S2 _ _ (S1 _ _ ho)
 have h1a:=S2 _ _ (upd_same (H:=H) (a:=q1) (o:=.lst []))
 have h2a:upd (upd H q1 (.lst [])) q2 (.lst [.ref q1]) q2=some (.lst [.ref q1]):=upd_same
 have S12:=S1.trans S2
 generalize upd (upd H q1 (.lst [])) q2 (.lst [.ref q1])=Ha at ho2 h1a h2a S12
 refine⟨_,rfl,o,C,dx,_,rfl,ho2,cC,nR,(by show 0<1000;decide),`d,fun q3 g3=>?_⟩
 have k1:=Kt.ins (x:=.ins C dx (putF "rows" (.ref q2) [])) ho2
 have hb0:upd Ha o (.ins C dx (putF "rows" (.ref q2) [])) o=some (.ins C dx (putF "rows" (.ref q2) [])):=upd_same
 have hb1:upd Ha o (.ins C dx (putF "rows" (.ref q2) [])) q1=some (.lst []):=by rw[upd_ne (Ne.symm o1)];exact h1a
 have hb2:upd Ha o (.ins C dx (putF "rows" (.ref q2) [])) q2=some (.lst [.ref q1]):=by rw[upd_ne (Ne.symm o2)];exact h2a
 have Sb:Same H₀ (upd Ha o (.ins C dx (putF "rows" (.ref q2) []))):=bQ (S0.trans S12) o0
 generalize upd Ha o (.ins C dx (putF "rows" (.ref q2) []))=Hb at g3 k1 hb0 hb1 hb2 Sb|-
 have S3:=same_new g3 (.lst [.str (PySem.Str.ofString "text")])
 have o3:o≠q3:=ne_of_none hb0 g3
 have n13:q1≠q3:=ne_of_none hb1 g3
 have n23:q2≠q3:=ne_of_none hb2 g3
 have hl1:(putF "rows" (.ref q2) []).length<=1:=ux _ _ _
 have hl2:=ux "places" (.ref q3) (putF "rows" (.ref q2) [])
 refine⟨_,rfl,o,C,dx,_,rfl,S3 _ _ hb0,cC,nP,`A,?_⟩
 refine⟨_,rfl,o,C,dx,_,rfl,upd_same,cC,nN,`A,?_⟩
 have kc0:=S3 _ _ hb0
 have hc1:=S3 _ _ hb1
 have hc2:=S3 _ _ hb2
 have hc3:upd Hb q3 (.lst [.str (PySem.Str.ofString "text")]) q3=some (.lst [.str (PySem.Str.ofString "text")]):=upd_same
 have Sc:=Sb.trans S3
 have q30:H₀ q3=none:=Sb.free g3
 have q20:H₀ q2=none:=(S0.trans S1).free g2
 have q10:H₀ q1=none:=S0.free g1
 have kc:=(Kt.of S12).trans (k1.trans (Kt.of S3))
 generalize upd Hb q3 (.lst [.str (PySem.Str.ofString "text")])=Hc at kc0 hc1 hc2 hc3 Sc kc|-
 have k3:=Kt.ins (x:=.ins C dx (putF "places" (.ref q3) (putF "rows" (.ref q2) []))) kc0
 have hd0:upd Hc o (.ins C dx (putF "places" (.ref q3) (putF "rows" (.ref q2) []))) o=some (.ins C dx (putF "places" (.ref q3) (putF "rows" (.ref q2) []))):=upd_same
 have k4:=Kt.ins (x:=.ins C dx (putF "named" (.str (PySem.Str.ofString "")) (putF "places" (.ref q3) (putF "rows" (.ref q2) [])))) hd0
 have at4:∀{b:Addr}{z:HO},b≠o->Hc b=some z->upd (upd Hc o (.ins C dx (putF "places" (.ref q3) (putF "rows" (.ref q2) [])))) o (.ins C dx (putF "named" (.str (PySem.Str.ofString "")) (putF "places" (.ref q3) (putF "rows" (.ref q2) [])))) b=some z:=fun hb e=>by rw[upd_ne hb,upd_ne hb];exact e
 refine q _ (kc.trans (k3.trans k4)) ⟨dx,q2,q3,[.ref q1],?_,o0,q30,⟨q20,bQ (bQ Sc o0) o0,at4 (Ne.symm o2) hc2,aP.one ⟨q1,[],rfl,q10,at4 (Ne.symm o1) hc1,bJ.mpr rfl⟩,?_⟩,?_,?_⟩
 ·rw[upd_same,vG]
  rfl
 ·refine List.nodup_cons.mpr ⟨fun z=>n21 (V.ref.inj (List.mem_singleton.mp z)).symm,`H⟩
 ·rw[at4 (Ne.symm o3) hc3,ahh]
  rfl
 ·intro z
  rcases List.mem_cons.mp z with z|z
  ·exact n23 (V.ref.inj z).symm
  ·exact n13 (V.ref.inj (List.mem_singleton.mp z)).symm
theorem afX{C:Addr}(cC:Cls K C)(nR:NoAttr K C "rows")(nP:NoAttr K C "places")(nN:NoAttr K C "named")
  (F:Fun K "enter" "Reading.enter" xM f fd):FnOk P w K mg base CX0 31 f fd ["self","place"] (aao K C):=by
 refine okQ F afq `W `V
 ·obtain⟨o,c,H₀,st,pl,nm,rfl,_⟩:=h
  rfl
 obtain⟨o,c,H₀,st,pl,nm,rfl,h,hst,hpl,q⟩:=h
 refine⟨_,(aq (bO (cI PySem.F.plainAttrs_list PySem.F.slot_list_append PySem.F.type_list_append bN `Z (aj (d7 ak) ak)))
   (au (bO (cI PySem.F.plainAttrs_list PySem.F.slot_list_append PySem.F.type_list_append bN `Z (aj (qv 1) ak))))),?_⟩
 obtain⟨dx,R,P,ys,h⟩:=h
 have hyl:ys.length=st.length:=by rw[h.rows.rows.length,List.length_reverse]
 refine⟨_,rfl,o,C,dx,_,_,rfl,h.ob,cC,nR,CZ,.inl ⟨rfl,_,SqL.of h.rows.at_⟩,`R,fun q1 g1=>⟨R,ys,_,rfl,rfl,(same_new g1 _) _ _ h.rows.at_,vI `A,?_⟩⟩
 have h2:=h.enter g1
 have k1:Kt H (upd (upd H q1 (.lst [])) R (.lst (ys++[.ref q1]))):=(Kt.new g1).trans (Kt.lst ((same_new g1 _) _ _ h.rows.at_))
 refine⟨_,rfl,o,C,dx,_,_,rfl,h2.ob,cC,nP,lX,.inl ⟨rfl,_,SqL.of h2.at_⟩,_,rfl,P,_,_,rfl,rfl,h2.at_,vI (by rw[ahO];lia),?_⟩
 exact q _ (k1.trans (Kt.lst h2.at_)) ⟨dx,R,P,_,h2.place (mF c pl).symm⟩
theorem afU{C:Addr}(cC:Cls K C)(nR:NoAttr K C "rows")(nP:NoAttr K C "places")(nN:NoAttr K C "named")(cN:mg "tuple"=none)
  (F:Fun K "leave" "Reading.leave" xJ f fd):FnOk P w K mg base CX0 31 f fd ["self"] (aam K C):=by
 refine okQ F afn `W `V
 ·obtain⟨o,c,H₀,r,st,pl,nm,rfl,_⟩:=h
  rfl
 obtain⟨o,c,H₀,r,st,pl,nm,rfl,h,q⟩:=h
 refine⟨_,(aq (bO (mV PySem.F.plainAttrs_list PySem.F.slot_list_pop PySem.F.type_list_pop jZ `Z))
   (au (aQ (jY gw rfl cN pD (aj (mV PySem.F.plainAttrs_list PySem.F.slot_list_pop PySem.F.type_list_pop jZ `Z) ak))))),?_⟩
 obtain⟨dx,R,P,ys,h⟩:=h
 refine⟨_,rfl,o,C,dx,_,_,rfl,h.ob,cC,nP,lX,.inl ⟨rfl,_,SqL.of h.at_⟩,P,_,_,rfl,rfl,h.at_,(by rw[mF];exact T_ _ _),?_⟩
 have h2:RdX K C H₀ _ o dx R P ys (r::st) pl nm:=h.place (zs:=(plV (c::pl)).dropLast) (by rw[mF,Ua])
 obtain⟨ys0,a,xs,rfl,nRa,ha,hr,h3⟩:=h2.shut
 have k1:=Kt.lst (o:=.lst (plV (c::pl)).dropLast) h.at_
 have k2:=Kt.lst (o:=.lst (ys0++[V.ref a]).dropLast) h2.rows.at_
 refine⟨_,rfl,o,C,dx,_,_,rfl,h2.ob,cC,nR,CZ,.inl ⟨rfl,_,SqL.of h2.rows.at_⟩,R,_,_,rfl,rfl,h2.rows.at_,T_ _ _,?_⟩
 rw[Ua]at k2|-
 refine⟨a,xs,rfl,.inl ⟨SqL.of (by rw[upd_ne (Ne.symm nRa)];exact ha),fun l gl=>q _ _ (k1.trans (k2.trans (Kt.new gl))) ⟨dx,R,P,_,h3.grow (same_new gl _)⟩ (qM (SqT.of upd_same) ((hr.mono k2).mono (Kt.new gl)))⟩⟩
theorem Zi{C:Addr}(cC:Cls K C)(nR:NoAttr K C "rows")(nP:NoAttr K C "places")(nN:NoAttr K C "named")
  (F:Fun K "add_word" "Reading.add_word" pO f fd):FnOk P w K mg base CX0 31 f fd ["self","word"] (adO K C):=by
 refine okQ F Y7 `W `V
 ·obtain⟨o,x,t,H₀,r,st,pl,nm,rfl,_⟩:=h
  rfl
 obtain⟨o,x,t,H₀,r,st,pl,nm,rfl,ht,h,hrl,q⟩:=h
 refine⟨_,(au (bO (cI PySem.F.plainAttrs_list PySem.F.slot_list_append PySem.F.type_list_append bN (cH ix_list `Z (qK lF aN) (fun _ _=>rfl)) (aj (qv 1) ak)))),?_⟩
 obtain⟨dx,R,P,ys,h⟩:=h
 obtain⟨ys0,a,xs,rfl,ha,hxl,h2⟩:=h.add ht
 exact⟨_,rfl,o,C,dx,_,_,rfl,h.ob,cC,nR,CZ,1,rfl,R,_,_,_,rfl,rfl,SqL.of h.rows.at_,ji,.inl ⟨rfl,_,SqL.of ha⟩,_,rfl,a,_,_,rfl,rfl,ha,vI `A,q _ (Kt.lst ha) ⟨dx,R,P,_,h2⟩⟩
theorem W0{C:Addr}(cC:Cls K C)(nR:NoAttr K C "rows")(nP:NoAttr K C "places")(nN:NoAttr K C "named"){cX:Addr}(jk:W.excIn K cX bmV "ValueError.__new__"=true)(jr:mg "NoText"=some (.ref cX))
  {YB:Addr}{X_:FuncData}(alj:Fun K "loop" "loop" yI YB X_)(alc:FnOk P w K mg base CX0 32 YB X_ ["body"] (adK K))(ak3:Binds K X_ ["body"] [])(ajR:mg "loop"=some (.ref YB))
  {YC:Addr}{Yb:FuncData}(alk:Fun K "fork" "fork" yJ YC Yb)(ald:FnOk P w K mg base CX0 32 YC Yb ["yes","no"] (adL K))(ak4:Binds K Yb ["yes","no"] [])(ajS:mg "fork"=some (.ref YC))
  {yd:Addr}{aaU:FuncData}(Dm:Meth K C "leave" yd)(TQ:FnOk P w K mg base CX0 32 yd aaU ["self"] (aam K C))(Dj:Binds K aaU ["self"] [])
  (F:Fun K "bracketed" "Reading.bracketed" nj f fd):FnOk P w K mg base (CXE P w) 33 f fd ["self"] (VR K C cX):=by
 refine LQ F Hf `W `V
 ·obtain⟨o,H₀,st,pl,nm,rfl,_⟩:=h
  rfl
 obtain⟨o,H₀,st,pl,nm,rfl,h,hc⟩:=h
 refine⟨_,(aq (bB (aR op_eq (cH ix_list `Z (qK lF aN) (fun _ _=>rfl)) bF `N) (au (aQ (aO alc hr rfl ajR alj.kp ak3 .nil pass0 (aj (gM (qv 0) cC Dm TQ hr Dj .nil pass0) ak)))) aX)
   (aq (bB (aR op_ne (cH ix_list `Z (qK lF aN) (fun _ _=>rfl)) bF `N) (au (yP PySem.F.excBase_ValueError jk rfl jr)) aX)
   (aq (bC (i:=1) Hf.nd rfl `O (gM (qv 0) cC Dm TQ hr Dj .nil pass0))
   (au (aQ (aO ald hr rfl ajS alk.kp ak4 .nil pass0 (aj (gM (qv 0) cC Dm TQ hr Dj .nil pass0) (aj (qv 1) ak)))))))),?_⟩
 have hsame:=h.same
 obtain⟨dx,R,P,ys,h⟩:=h
 have noL:∀{R P:Addr}{nm:`E},(fl R P nm).lookup ("leave":Str)=none:=JN `D `D `D
 rcases hc with⟨st2,pl2,t,hc,q⟩|⟨c,pl2,rfl,hb,hn,qe⟩
 rotate_left
 ·refine⟨_,rfl,o,C,dx,_,_,rfl,h.ob,cC,nP,lX,1,rfl,P,_,_,_,rfl,rfl,SqL.of h.at_,(by rw[mF];exact ji),rfl,_,rfl,?_⟩
  refine gC (by rw[gO _ dN Js];exact decide_eq_false hb) ?_
  refine⟨_,rfl,o,C,dx,_,_,rfl,h.ob,cC,nP,lX,1,rfl,P,_,_,_,rfl,rfl,SqL.of h.at_,(by rw[mF];exact ji),rfl,_,rfl,?_⟩
  refine j4 (by rw[gO _ noC abh,decide_eq_false hn];rfl) (qe _ hsame)
 rcases hc with⟨r,rfl,rfl,rfl,hb⟩|⟨n,y,rfl,rfl,rfl,hn,hy⟩
 ·refine⟨_,rfl,o,C,dx,_,_,rfl,h.ob,cC,nP,lX,1,rfl,P,_,_,_,rfl,rfl,SqL.of h.at_,(by rw[mF];exact ji),rfl,_,rfl,?_⟩
  rw[decide_eq_true (congrArg V.str Js.symm)]
  refine iteT ⟨_,rfl,o,dx,_,rfl,h.ob,noL,o,dN,H₀,r,st2,pl2,nm,rfl,⟨dx,R,P,ys,h⟩,fun y H' k1 h1 t1=>⟨y,.node r,rfl,t1,hb.1,hb.2,fun z H2 S2 t2=>q _ _ (k1.trans (.of S2)) (h1.grow S2) t2⟩⟩
 ·refine⟨_,rfl,o,C,dx,_,_,rfl,h.ob,cC,nP,lX,1,rfl,P,_,_,_,rfl,rfl,SqL.of h.at_,(by rw[mF];exact ji),rfl,_,rfl,?_⟩
  rw[decide_eq_false (fun z=>absurd (GR.mp ((V.str.inj z).trans Js)) `B)]
  refine iteF ?_
  refine⟨_,rfl,o,C,dx,_,_,rfl,h.ob,cC,nP,lX,1,rfl,P,_,_,_,rfl,rfl,SqL.of h.at_,(by rw[mF];exact ji),rfl,_,rfl,?_⟩
  rw[decide_eq_true (congrArg V.str abh.symm)]
  refine iteF ?_
  refine⟨_,rfl,o,dx,_,rfl,h.ob,noL,o,noC,H₀,n,y::st2,cR::pl2,nm,rfl,⟨dx,R,P,ys,h⟩,fun vn H1 k1 h1 t1=>?_⟩
  obtain⟨dx1,R1,P1,ys1,h1⟩:=h1
  refine⟨_,rfl,o,dx1,_,rfl,h1.ob,noL,o,cR,H₀,y,st2,pl2,nm,rfl,⟨dx1,R1,P1,ys1,h1⟩,fun vy H2 k2 h2 t2=>⟨_,rfl,vy,.node y,vn,.node n,rfl,t2,t1.mono k2,⟨hy.1,hy.2⟩,⟨hn.1,hn.2⟩,fun z H3 S3 t3=>q _ _ (k1.trans (k2.trans (.of S3))) (h2.grow S3) t3⟩⟩
theorem afR{C:Addr}(cC:Cls K C)(nR:NoAttr K C "rows")(nP:NoAttr K C "places")(nN:NoAttr K C "named"){cX:Addr}(jk:W.excIn K cX bmV "ValueError.__new__"=true)(jr:mg "NoText"=some (.ref cX))(cL:mg "len"=none)(cN:mg "tuple"=none)
  (F:Fun K "whole" "Reading.whole" xH f fd):FnOk P w K mg base (CXE P w) 31 f fd ["self"] (Vy K C cX):=by
 refine LQ F afl `W `V
 ·obtain⟨o,H₀,st,pl,nm,rfl,_⟩:=h
  rfl
 obtain⟨o,H₀,st,pl,nm,rfl,h,q,qe⟩:=h
 refine⟨_,(aq (bB (QW.pt (Vi (aR op_ne `Z bF `N) (Wj (aR op_ne (bV call_len_seq rfl cL jy (aj `Z ak)) aN `N)))) (au (yP PySem.F.excBase_ValueError jk rfl jr)) aX)
   (au (aQ (jY gw rfl cN pD (aj (cH ix_list `Z aN (fun _ _=>rfl)) ak))))),?_⟩
 have hsame:=h.same
 obtain⟨dx,R,P,ys,h⟩:=h
 have hyl:ys.length=st.length:=by rw[h.rows.rows.length,List.length_reverse]
 refine⟨_,rfl,o,C,dx,_,_,rfl,h.ob,cC,nN,E_,rfl,_,rfl,?_⟩
 rw[gO _ [] vG]
 by_cases hnm:nm=[]
 rotate_left
 ·exact j4 (by rw[decide_eq_false hnm];rfl) (qe (.inl hnm) _ hsame)
 refine gC (by rw[decide_eq_true hnm];rfl) ⟨_,rfl,o,C,dx,_,_,rfl,h.ob,cC,nR,CZ,R,_,rfl,.inl (SqL.of h.rows.at_),rfl,_,rfl,?_⟩
 by_cases hl1:st.length=1
 rotate_left
 ·exact j4 (by rw[decide_eq_false (fun z=>hl1 (by have:=V.int.inj z;lia))];rfl) (qe (.inr hl1) _ hsame)
 refine gC (by rw[hyl,hl1];rfl) ?_
 obtain⟨r,rfl⟩:∃r,st=[r]:=by
  match st,hl1 with
  |[r],_=>exact⟨r,rfl⟩
 obtain⟨ys0,a,xs,rfl,nRa,ha,hr,_⟩:=h.shut
 have e0:ys0=[]:=List.length_eq_zero_iff.mp (by have h5:(ys0++[V.ref a]).length=1:=hyl;rw[List.length_append]at h5;have h5:ys0.length+1=1:=h5;lia)
 subst e0
 refine⟨_,rfl,o,C,dx,_,_,rfl,h.ob,cC,nR,CZ,R,_,0,_,rfl,rfl,SqL.of h.rows.at_,atI_nat (j:=0) rfl,a,xs,rfl,.inl ⟨SqL.of ha,fun l gl=>q r rfl hnm _ _ (h.rows.same.trans (same_new gl _)) (qM (SqT.of upd_same) (hr.mono (Kt.new gl)))⟩⟩
theorem WY
  (F:Fun K "pieces_of" "pieces_of" kj f fd):FnOk P w K mg base CX0 31 f fd ["signs"] (T8 K):=by
 refine okQ F V9 `W `V
 ·obtain⟨ps,rfl,_⟩:=h
  rfl
 obtain⟨ps,rfl,hok,hlen,q⟩:=h
 refine⟨_,(aq (bB (aR op_eq (qv 0) bF `N) (au (aQ (d7 ak))) aX)
   (au (aQ (cI PySem.F.plainAttrs_str PySem.F.slot_str_split PySem.F.type_str_split aga (qv 0) (aj bF ak))))),?_⟩
 obtain⟨h32,hne⟩:=hok
 refine⟨_,rfl,rfl,_,rfl,?_⟩
 rw[gO _ [] vG]
 refine ite2 (fun e=>?_) (fun e=>?_)
 ·have e0:ps=[]:=hne.elim id fun z=>absurd (of_decide_eq_true e) z
  subst e0
  exact⟨`R,fun D gD=>q D gD⟩
 ·have hne:ps≠[]:=fun z=>e (by rw[z];rfl)
  refine⟨_,rfl,rfl,_,32,rfl,(by rw[K1]),hlen,fun D ls gD hj hl hc=>?_⟩
  rw[Uq hl hne hc h32 hj]
  exact q D gD
theorem abJ{cT:Addr}{cX:Addr}(zf:mg "NoTree"=some (.ref cT))(adx:W.typeIn K (.ref cT)=some (.type "type"))(adw:W.subIn K (.ref cT) (.type "BaseException")=some true)(adv:∃cd,W.clsIn K cT=some cd)(sTT:W.subIn K (.ref cT) (.ref cT)=some true)(agj:W.keepIn K (.ref cX)=true)(jk:W.excIn K cX bmV "ValueError.__new__"=true)(jr:mg "NoText"=some (.ref cX))
  {lq:Addr}{kY:FuncData}(BJ:Fun K "read_tree" "read_tree" iY lq kY)(Bw:FnOk P w K mg base (CXC P w) 32 lq kY ["text"] (DN K cT))(Bk:Binds K kY ["text"] [])(Av:mg "read_tree"=some (.ref lq))
  (F:Fun K "tree_of" "tree_of" oG f fd):FnOk P w K mg base (CXE P w) 33 f fd ["signs"] (T5 K cX):=by
 refine LQ F abu `W `V
 ·obtain⟨l,rfl,_⟩:=h
  rfl
 obtain⟨l,rfl,hz,q,qe⟩:=h
 refine⟨_,(au (abC (fun EE hP=>(au (aQ (aO Bw hr rfl Av BJ.kp Bk .nil hP (aj (qv 0) ak))))) rfl zf adx adw adv PySem.F.excBase_ValueError jk agj rfl jr)),?_⟩
 exact⟨_,rfl,_,rfl,.inl ⟨l,rfl,hz,fun t ht y H' S ty=>q t ht y H' S ty,fun hn H' S=>⟨cT,rfl,sTT,fun a ha=>qe hn _ (S.trans (same_new ha _))⟩⟩⟩
theorem abI{cX:Addr}(jk:W.excIn K cX bmV "ValueError.__new__"=true)(jr:mg "NoText"=some (.ref cX)){bU:Addr}(iG:mg "NAMES"=some (.ref bU))(pW:∀H,SqT K H bU [.str (PySem.Str.ofString "lay"),.str (PySem.Str.ofString "drop"),.str (PySem.Str.ofString "twin"),.str (PySem.Str.ofString "swap"),.str (PySem.Str.ofString "front"),.str (PySem.Str.ofString "part"),.str (PySem.Str.ofString "turn"),.str (PySem.Str.ofString "fork"),.str (PySem.Str.ofString "while")]){vD:Value}(CQ:mg "DROP"=some vD)(vM:RelV (.int 1) vD){vA:Value}(CN:mg "TURN"=some vA)(vJ:RelV (.int 6) vA)
  {Te:Addr}{Sd:FuncData}(aiU:Fun K "plain" "plain" uc Te Sd)(aiR:FnOk P w K mg base CX0 35 Te Sd ["sort"] (aak K))(aiF:Binds K Sd ["sort"] [])(aif:mg "plain"=some (.ref Te))
  {acI:Addr}{aco:FuncData}(al1:Fun K "lay" "lay" DY acI aco)(al0:FnOk P w K mg base CX0 35 acI aco ["tree"] (agX K))(alZ:Binds K aco ["tree"] [])(alQ:mg "lay"=some (.ref acI))
  {Je:Addr}{Ih:FuncData}(UJ:Fun K "tree_of" "tree_of" oG Je Ih)(UG:FnOk P w K mg base (CXE P w) 35 Je Ih ["signs"] (T5 K cX))(Uy:Binds K Ih ["signs"] [])(Uk:mg "tree_of"=some (.ref Je))
  {FQ:Addr}{Fj:FuncData}(acY:Fun K "odd" "odd" uZ FQ Fj)(acS:FnOk P w K mg base CX0 35 FQ Fj ["word"] (abt K))(acB:Binds K Fj ["word"] [])(abW:mg "odd"=some (.ref FQ))
  (Ce:∃ob,K.lookup bU=some ob/\ob.cls=`b/\ob.dict=none)
  (F:Fun K "word_of" "word_of" oF f fd):FnOk P w K mg base (CXE P w) 36 f fd ["piece"] (adG K cX):=by
 refine LQ F Oi `W `V
 ·obtain⟨p,rfl,_⟩:=h
  rfl
 obtain⟨p,rfl,hz,hf,q,qe⟩:=h
 refine⟨_,(aq (bB (aR Hw (qv 0) (jo Jv (aU (v:=.ref bU) rfl iG rfl) (jF (aU (v:=.int 1) rfl CQ vM)) (jF (bD op_add (aU (v:=.int 6) rfl CN vJ) aN))) rfl) (au (aQ (aO aiR hr rfl aif aiU.kp aiF .nil pass0 (aj (cI PySem.F.plainAttrs_tuple PySem.F.slot_tuple_index PySem.F.type_tuple_index agc (aU (v:=.ref bU) rfl iG rfl) (aj (qv 0) ak)) ak)))) aX)
   (aq (bB (dU (cI PySem.F.plainAttrs_str PySem.F.slot_str_startswith PySem.F.type_str_startswith Ui (qv 0) (aj bF ak))) (au (aQ (aO al0 hr rfl alQ al1.kp alZ .nil pass0 (aj (aO UG hr rfl Uk UJ.kp Uy .nil zW (aj (jo Cp (qv 0) (jF aN) nA) ak)) ak)))) aX)
   (aq (bB (dU (cI PySem.F.plainAttrs_str PySem.F.slot_str_startswith PySem.F.type_str_startswith Ui (qv 0) (aj bF ak))) (aq (bC (i:=1) Oi.nd rfl `O (aO UG hr rfl Uk UJ.kp Uy .nil zW (aj (jo Cp (qv 0) (jF aN) nA) ak)))
   (au (bB (dU (aO acS hr rfl abW acY.kp acB .nil pass0 (aj (qv 1) ak))) (au (aQ (qv 1))) aX))) aX)
   (au (yP PySem.F.excBase_ValueError jk rfl jr))))),?_⟩
 have nmq:∀H,SqT K H bU sG:=fun H=>by rw[<-Mr];exact pW H
 refine⟨_,rfl,1,rfl,_,_,rfl,rfl,7,rfl,bU,_,rfl,nmq _,fun p1 H1 S1 q1=>?_⟩
 rw[alY]at q1
 refine⟨p1,_,rfl,.inr q1,rfl,rfl,_,rfl,?_⟩
 rw[show(if false=true then !inV (.str (tx p)) V6 else inV (.str (tx p)) V6)=[1,2,3,4,5,6].any fun k=>decide (nmC k=p)from aj0 p,aas]
 by_cases h6:fU p≠0
 ·refine j4 (decide_eq_true h6) ?_
  have e6:=QH h6
  have hle:=QK p
  have q:=q _ (Ah h6)
  obtain⟨f1,f2⟩:=af9 (k:=fU p) `A
  refine⟨.inr (.inl ⟨rfl,Ce⟩),_,rfl,bU,_,p,fU p,rfl,rfl,(by rw[<-aeo];exact nmq _),(by rw[f1,<-e6]),(fun m hm z=>f2 m hm (by rw[z,<-e6])),fU p,rfl,`A,`A,fun y H2 S2 t2=>q _ _ (S1.trans S2) t2⟩
 refine gC (decide_eq_false h6) ?_
 have h0:fU p=0:=Decidable.not_not.mp h6
 cases p with
 |nil=>
  have e:=Ds (p:=[]) h0 `B `B
  refine⟨_,rfl,rfl,[],39,rfl,(by rw[BZ]),_,rfl,gC rfl ?_⟩
  exact⟨_,rfl,rfl,[],33,rfl,(by rw[B_]),_,rfl,gC rfl (qe e _ S1)⟩
 |cons c l=>
  rw[List.length_cons]at hz
  by_cases c39:c=39
  ·subst c39
   rw[GJ]at q qe
   refine⟨_,rfl,rfl,_,39,rfl,(by rw[BZ]),_,rfl,j4 rfl ?_⟩
   refine⟨_,rfl,1,rfl,_,rfl,small (by rw[List.length_cons];lia),l,(by rw[Yd];rfl),`A,fun t ht y H2 S2 t2=>?_,fun hn H2 S2=>qe (by rw[hn];rfl) _ (S1.trans S2)⟩
   have hd:=hf 39 l t rfl ht
   have hp:t.parts<=90000:=by have:=T.iK t;rw[T.um (t_ ht)]at this;lia
   exact⟨y,t,rfl,t2,`A,`A,fun z H3 S3 t3=>q _ (by rw[ht];rfl) _ _ (S1.trans (S2.trans S3)) t3⟩
  ·have e1:(c::l).head?≠some 39:=by simpa using c39
   refine⟨_,rfl,rfl,_,39,rfl,(by rw[BZ]),_,rfl,gC (by simpa using c39) ?_⟩
   by_cases c33:c=33
   ·subst c33
    rw[Du]at q qe
    refine⟨_,rfl,rfl,_,33,rfl,(by rw[B_]),_,rfl,j4 rfl ?_⟩
    refine⟨_,rfl,1,rfl,_,rfl,small (by rw[List.length_cons];lia),l,(by rw[Yd];rfl),`A,fun t ht y H2 S2 t2=>?_,fun hn H2 S2=>qe (by rw[hn];rfl) _ (S1.trans S2)⟩
    have hd:=hf 33 l t rfl ht
    have hp:t.parts<=90000:=by have:=T.iK t;rw[T.um (t_ ht)]at this;lia
    refine⟨_,rfl,y,t,rfl,t2,⟨`A,`A⟩,fun H3 S3=>⟨_,rfl,ite2 (fun ho=>?_) (fun ho=>?_)⟩⟩
    ·exact⟨_,rfl,q t (by rw[ht,Option.bind_some,if_pos ho]) _ _ (S1.trans (S2.trans S3)) (t2.mono (.of S3))⟩
    ·exact qe (by rw[ht,Option.bind_some,if_neg ho]) _ (S1.trans (S2.trans S3))
   ·have e2:(c::l).head?≠some 33:=by simpa using c33
    exact⟨_,rfl,rfl,_,33,rfl,(by rw[B_]),_,rfl,gC (by simpa using c33) (qe (Ds h0 e1 e2) _ S1)⟩
end
section
variable{P:Program}{w:World}{K:W.Frag}{mg:`U}{base:Heap}{f:Addr}{fd:FuncData}
theorem ahN{n:Nat}{pl:`I}(h:Pl n (dN::pl)):∃m,n=m+2:=by
 generalize hq:dN::pl=q at h
 cases h with
 |text=>exact absurd (List.cons.inj hq).1 `B
 | @body m _ z=>have:=z.pos;exact⟨m-1,`A⟩
 |yes z=>exact absurd (List.cons.inj hq).1 `B
 |no z=>exact absurd (List.cons.inj hq).1 `B
theorem alE{n:Nat}{pl:`I}(h:Pl n (noC::pl)):∃m pl',n=m+3/\pl=cR::pl':=by
 generalize hq:noC::pl=q at h
 cases h with
 |text=>exact absurd (List.cons.inj hq).1 `B
 |body z=>exact absurd (List.cons.inj hq).1 `B
 |yes z=>exact absurd (List.cons.inj hq).1 `B
 | @no m pl' z=>have:=z.pos;exact⟨m-1,pl',`A,(List.cons.inj hq).2⟩
theorem alF{n:Nat}{pl:`I}(h:Pl n pl):pl≠[]:=by cases h<;>simp
theorem adz{st:List `C}{pl:`I}{p:`E}(c1:p≠[91])(c3:¬(p=nmC 7\/p=nmC 8))(c4:p≠[124])(c5:p≠[93]):gA ⟨st,pl,[]⟩ p=agL (lA p) st pl:=by
 unfold gA
 rw[if_neg c1,if_neg (fun z=>z rfl),if_neg c3,if_neg c4,if_neg c5]
theorem adA{st:List `C}{pl:`I}:gA ⟨st,pl,[]⟩ [93]=zQ st pl:=by
 unfold gA
 rw[if_neg `B,if_neg (fun z=>z rfl),if_neg `B,if_neg `B,if_pos rfl]
theorem afc{st:List `C}{pl:`I}{c:`E}(h:c≠cR):gA ⟨st,c::pl,[]⟩ [124]=none:=by
 unfold gA
 rw[if_neg `B,if_neg (fun z=>z rfl),if_neg `B,if_pos rfl]
 exact if_neg (fun z=>h (Option.some.inj z))
theorem ae3:lA [124]=none:=`D
theorem ok_take{C:Addr}(cC:Cls K C)(nR:NoAttr K C "rows")(nP:NoAttr K C "places")(nN:NoAttr K C "named"){cX:Addr}(jk:W.excIn K cX bmV "ValueError.__new__"=true)(jr:mg "NoText"=some (.ref cX)){bU:Addr}(iG:mg "NAMES"=some (.ref bU))(pW:∀H,SqT K H bU [.str (PySem.Str.ofString "lay"),.str (PySem.Str.ofString "drop"),.str (PySem.Str.ofString "twin"),.str (PySem.Str.ofString "swap"),.str (PySem.Str.ofString "front"),.str (PySem.Str.ofString "part"),.str (PySem.Str.ofString "turn"),.str (PySem.Str.ofString "fork"),.str (PySem.Str.ofString "while")]){eY:Value}(fB:mg "FORK"=some eY)(dR:RelV (.int 7) eY){dB:Value}(dI:mg "WHILE"=some dB)(cY:RelV (.int 8) dB)
  {Jd:Addr}{Ig:FuncData}(aeY:Fun K "word_of" "word_of" oF Jd Ig)(aeU:FnOk P w K mg base (CXE P w) 41 Jd Ig ["piece"] (adG K cX))(aeM:Binds K Ig ["piece"] [])(aer:mg "word_of"=some (.ref Jd))
  {yg:Addr}{aaV:FuncData}(JX:Meth K C "enter" yg)(aa3:FnOk P w K mg base CX0 41 yg aaV ["self","place"] (aao K C))(JQ:Binds K aaV ["self","place"] [])
  {qm:Addr}{PK:FuncData}(wY:Meth K C "add_word" qm)(Qd:FnOk P w K mg base CX0 41 qm PK ["self","word"] (adO K C))(wX:Binds K PK ["self","word"] [])
  {nJ:Addr}{Ku:FuncData}(Bs:Meth K C "bracketed" nJ)(Z4:FnOk P w K mg base (CXE P w) 41 nJ Ku ["self"] (VR K C cX))(Bl:Binds K Ku ["self"] [])
  (F:Fun K "take" "Reading.take" Cr f fd):FnOk P w K mg base (CXE P w) 42 f fd ["self","piece"] (aag K C cX):=by
 refine LQ F ahp `W `V
 ·obtain⟨o,p,H₀,sa,rfl,_⟩:=h
  rfl
 obtain⟨o,p,H₀,sa,rfl,h,wf,za,hz,hf,q,qe⟩:=h
 refine⟨_,(aq (bB (aR op_ne (pR op_eq (qv 1) bF `N) (pR op_ne `Z bF `N) `N) (au (yP PySem.F.excBase_ValueError jk rfl jr)) aX)
   (au (bB (aR op_eq (qv 1) bF `N) (aq (bO (uw (qv 0) cC JX aa3 hr JQ .nil pass0 (aj (oN (aR op_eq `Z (cH g_ (aU (v:=.ref bU) rfl iG rfl) (aU (v:=.int 7) rfl fB dR) (fun _ _=>rfl)) `N) bF bF) ak)))
   (au (cM (qv 0) bF rfl))) (au (bB (aR Hw (qv 1) (bA (aj (cH g_ (aU (v:=.ref bU) rfl iG rfl) (aU (v:=.int 7) rfl fB dR) (fun _ _=>rfl)) (aj (cH g_ (aU (v:=.ref bU) rfl iG rfl) (aU (v:=.int 8) rfl dI cY) (fun _ _=>rfl)) ak))) rfl) (au (cM (qv 0) (qv 1) rfl)) (au (bB (QW.pt (Cv (aR op_eq (qv 1) bF `N) (xP (aR op_eq (cH ix_list `Z (qK lF aN) (fun _ _=>rfl)) bF `N)))) (au (bO (uw (qv 0) cC JX aa3 hr JQ .nil pass0 (aj bF ak)))) (au (bB (aR op_eq (qv 1) bF `N) (au (bO (uw (qv 0) cC wY Qd hr wX .nil pass0 (aj (gM (qv 0) cC Bs Z4 hr Bl .nil zW) ak)))) (au (bO (uw (qv 0) cC wY Qd hr wX .nil pass0 (aj (aO aeU hr rfl aer aeY.kp aeM .nil zW (aj (qv 1) ak)) ak))))))))))))),?_⟩
 have nmq:∀H,SqT K H bU sG:=fun H=>by rw[<-Mr];exact pW H
 have noE:∀{R P:Addr}{nm:`E},(fl R P nm).lookup ("enter":Str)=none:=JN `D `D `D
 have noA:∀{R P:Addr}{nm:`E},(fl R P nm).lookup ("add_word":Str)=none:=JN `D `D `D
 have noB:∀{R P:Addr}{nm:`E},(fl R P nm).lookup ("bracketed":Str)=none:=JN `D `D `D
 have hsame:=h.same
 obtain⟨dx,R,P,ys,h⟩:=h
 obtain⟨st,pl,nm⟩:=sa
 obtain⟨w1,w2⟩:=wf
 dsimp only at h w1 w2
 refine⟨_,rfl,rfl,_,rfl,o,C,dx,_,_,rfl,h.ob,cC,nN,E_,rfl,rfl,_,rfl,?_⟩
 rw[gO _ [91] Jr,gO _ [] vG]
 by_cases c1:p=[91]
 ·subst c1
  rcases w2 with z|z|z
  ·subst z
   refine j4 `B (qe ?_ _ hsame)
   unfold gA
   rw[if_pos rfl,if_neg (show¬([]:`E)=nmC 7 by decide),if_neg (show¬([]:`E)=nmC 8 by decide)]
  ·subst z
   refine gC `B ?_
   refine⟨_,rfl,rfl,_,rfl,?_⟩
   rw[gO _ [91] Jr]
   refine j4 `B ?_
   refine⟨_,rfl,o,dx,_,rfl,h.ob,noE,_,rfl,o,C,dx,_,_,rfl,h.ob,cC,nN,E_,bU,_,7,_,rfl,rfl,nmq _,uy (k:=7) `B,rfl,_,rfl,?_⟩
   rw[gO _ (nmC 7) rfl]
   refine j4 `B ⟨o,cR,H₀,st,pl,_,(by show[V.ref o,V.str (PySem.Str.ofString "yes")]=_;rw[adf]),⟨dx,R,P,ys,h⟩,za.st,za.pl,fun H1 k1 h1=>?_⟩
   obtain⟨dx1,R1,P1,ys1,h1⟩:=h1
   refine⟨_,rfl,o,C,dx1,_,rfl,h1.ob,cC,nN,Xy,?_⟩
   exact q _ _ (yw .zY) (k1.trans (Kt.ins h1.ob)) ⟨dx1,R1,P1,ys1,by rw[vG,Xx];exact h1.name []⟩
  ·subst z
   refine gC `B ?_
   refine⟨_,rfl,rfl,_,rfl,?_⟩
   rw[gO _ [91] Jr]
   refine j4 `B ?_
   refine⟨_,rfl,o,dx,_,rfl,h.ob,noE,_,rfl,o,C,dx,_,_,rfl,h.ob,cC,nN,E_,bU,_,7,_,rfl,rfl,nmq _,uy (k:=7) `B,rfl,_,rfl,?_⟩
   rw[gO _ (nmC 7) rfl]
   refine gC `B ⟨o,dN,H₀,st,pl,_,(by show[V.ref o,V.str (PySem.Str.ofString "body")]=_;rw[Js]),⟨dx,R,P,ys,h⟩,za.st,za.pl,fun H1 k1 h1=>?_⟩
   obtain⟨dx1,R1,P1,ys1,h1⟩:=h1
   refine⟨_,rfl,o,C,dx1,_,rfl,h1.ob,cC,nN,Xy,?_⟩
   exact q _ _ (yw .zX) (k1.trans (Kt.ins h1.ob)) ⟨dx1,R1,P1,ys1,by rw[vG,Xx];exact h1.name []⟩
 by_cases c2:nm=[]
 rotate_left
 ·refine j4 (by rw[decide_eq_false c1,decide_eq_false c2];decide) (qe ?_ _ hsame)
  unfold gA
  rw[if_neg c1,if_pos c2]
 subst c2
 refine gC (by rw[decide_eq_false c1];decide) ?_
 refine⟨_,rfl,rfl,_,rfl,?_⟩
 rw[gO _ [91] Jr]
 refine gC (decide_eq_false c1) ?_
 refine⟨_,rfl,bU,_,7,_,rfl,rfl,nmq _,uy (k:=7) `B,bU,_,8,_,rfl,rfl,nmq _,uy (k:=8) `B,(by show 2<=sizeLine;decide),fun q1 g1=>⟨q1,_,rfl,.inr (SqT.of upd_same),rfl,rfl,_,rfl,?_⟩⟩
 rw[show(if false=true then !inV (.str (tx p)) [.str (tx (nmC 7)),.str (tx (nmC 8))]else inV (.str (tx p)) [.str (tx (nmC 7)),.str (tx (nmC 8))])=(decide (nmC 7=p)||decide (nmC 8=p))from ajY _ _ _]
 have S1:=same_new g1 (.tup [.str (tx (nmC 7)),.str (tx (nmC 8))])
 have h':=h.grow S1
 have aex:=hsame.trans S1
 by_cases c3:p=nmC 7\/p=nmC 8
 ·refine j4 (by rcases c3 with rfl|rfl<;>decide) ?_
  refine⟨_,rfl,_,rfl,o,C,dx,_,rfl,h'.ob,cC,nN,Xy,?_⟩
  refine q ⟨st,pl,p⟩ _ ?_ ((Kt.of S1).trans (Kt.ins h'.ob)) ⟨dx,R,P,ys,by rw[Xx];exact h'.name _⟩
  unfold gA
  rw[if_neg c1,if_neg (fun z=>z rfl),if_pos c3]
 refine gC (by rw[decide_eq_false (fun z=>c3 (.inl z.symm)),decide_eq_false (fun z=>c3 (.inr z.symm))];rfl) ?_
 refine⟨_,rfl,rfl,_,rfl,?_⟩
 rw[gO _ [124] adg]
 obtain⟨s',st',est⟩:∃s' st',st=s'::st':=by
  cases st with
  |nil=>have:=w1.pos;exact absurd this `B
  |cons a b=>exact⟨a,b,rfl⟩
 obtain⟨c,pl',epl⟩:∃c pl',pl=c::pl':=by
  cases pl with
  |nil=>exact absurd rfl (alF w1)
  |cons a b=>exact⟨a,b,rfl⟩
 by_cases c4:p=[124]
 ·subst c4
  subst epl
  refine j4 `B ⟨_,rfl,o,C,dx,_,_,rfl,h'.ob,cC,nP,lX,1,rfl,P,_,_,_,rfl,rfl,SqL.of h'.at_,(by rw[mF];exact ji),rfl,_,rfl,?_⟩
  rw[gO _ cR adf]
  by_cases cy:c=cR
  ·subst cy
   refine j4 `B ?_
   exact⟨_,rfl,o,dx,_,rfl,h'.ob,noE,o,noC,H₀,st,cR::pl',_,(by show[V.ref o,V.str (PySem.Str.ofString "no")]=_;rw[abh]),⟨dx,R,P,ys,h'⟩,za.st,za.pl,fun H1 k1 h1=>q _ _ (yw .bar) ((Kt.of S1).trans k1) h1⟩
  ·refine gC (decide_eq_false cy) ?_
   refine⟨_,rfl,rfl,_,rfl,?_⟩
   rw[gO _ [93] Vf]
   refine gC `B ?_
   exact⟨_,rfl,o,dx,_,rfl,h'.ob,noA,_,rfl,[124],rfl,hz,hf,fun w hw=>absurd (ae3.symm.trans hw) `H,fun _ H2 S2=>qe (afc cy) _ (aex.trans S2)⟩
 refine gC (decide_eq_false c4) (iteF ?_)
 refine⟨_,rfl,rfl,_,rfl,?_⟩
 rw[gO _ [93] Vf]
 by_cases c5:p=[93]
 ·subst c5
  rw[adA]at q qe
  refine j4 `B ?_
  refine⟨_,rfl,o,dx,_,rfl,h'.ob,noA,_,rfl,o,dx,_,rfl,h'.ob,noB,o,H₀,st,pl,[],rfl,⟨dx,R,P,ys,h'⟩,?_⟩
  by_cases cb:c=dN
  ·subst cb
   subst epl
   obtain⟨m,em⟩:=ahN w1
   match st,em with
   |r::u::st2,_=>
    exact .inl ⟨u::st2,pl',wO r,.inl ⟨r,rfl,rfl,rfl,(za.each r List.mem_cons_self).le `A `A⟩,fun x H2 k2 h2 t2=>⟨o,x,_,H₀,u,st2,pl',[],rfl,t2,h2,(by have:=(za.each u `H).len;lia),fun H3 k3 h3=>q ⟨(u++[wO r])::st2,pl',[]⟩ _ (by unfold zQ;exact if_pos rfl) ((Kt.of S1).trans (k2.trans k3)) h3⟩⟩
  ·by_cases cn:c=noC
   ·subst cn
    subst epl
    obtain⟨m,pl2,em,rfl⟩:=alE w1
    match st,em with
    |r::y::u::st2,_=>
     exact .inl ⟨u::st2,pl2,wU y r,.inr ⟨r,y,rfl,rfl,rfl,(za.each r List.mem_cons_self).le `A `A,(za.each y `H).le `A `A⟩,fun x H2 k2 h2 t2=>⟨o,x,_,H₀,u,st2,pl2,[],rfl,t2,h2,(by have:=(za.each u `H).len;lia),fun H3 k3 h3=>q ⟨(u++[wU y r])::st2,pl2,[]⟩ _ (by unfold zQ;dsimp only;rw[if_neg `B,if_pos rfl];rfl) ((Kt.of S1).trans (k2.trans k3)) h3⟩⟩
   ·refine .inr ⟨c,pl',epl,cb,cn,fun H2 S2=>qe ?_ _ S2⟩
    rw[epl]
    unfold zQ
    match st with
    |[]=>rfl
    |[_]=>rfl
    |r::u::st2=>dsimp only;rw[if_neg cb,if_neg cn]
 refine gC (decide_eq_false c5) ?_
 rw[adz c1 c3 c4 c5]at q qe
 subst est
 exact⟨_,rfl,o,dx,_,rfl,h'.ob,noA,_,rfl,p,rfl,hz,hf,fun w hw x H2 S2 t2=>⟨o,x,w,H₀,s',st',pl,[],rfl,t2,⟨dx,R,P,ys,h'.grow S2⟩,(by have:=(za.each s' List.mem_cons_self).len;lia),fun H3 k3 h3=>q ⟨(s'++[w])::st',pl,[]⟩ _ (by rw[hw];rfl) ((Kt.of (S1.trans S2)).trans k3) h3⟩,fun hn H2 S2=>qe (by rw[hn];rfl) _ (aex.trans S2)⟩
theorem ah6{C:Addr}(cC:Cls K C)(nR:NoAttr K C "rows")(nP:NoAttr K C "places")(nN:NoAttr K C "named"){cX:Addr}(jk:W.excIn K cX bmV "ValueError.__new__"=true)(jr:mg "NoText"=some (.ref cX))(bf:mg "isinstance"=none)(pY:mg "str"=none)
  {Bp:Addr}{Bb:FuncData}(Z9:Fun K "pieces_of" "pieces_of" kj Bp Bb)(Z2:FnOk P w K mg base CX0 44 Bp Bb ["signs"] (T8 K))(ZM:Binds K Bb ["signs"] [])(Zu:mg "pieces_of"=some (.ref Bp))
  {qp:Addr}{PL:FuncData}(MK:Mk K C qp)(acV:FnOk P w K mg base CX0 43 qp PL ["self"] (spInit K C))(Fz:Binds K PL ["self"] [])(HJ:mg "Reading"=some (.ref C))
  {Dk:Addr}{aeG:FuncData}(YQ:Meth K C "take" Dk)(ak_:FnOk P w K mg base (CXE P w) 44 Dk aeG ["self","piece"] (aag K C cX))(Ys:Binds K aeG ["self","piece"] [])
  {xZ:Addr}{aaT:FuncData}(Tt:Meth K C "whole" xZ)(aiQ:FnOk P w K mg base (CXE P w) 44 xZ aaT ["self"] (Vy K C cX))(SX:Binds K aaT ["self"] [])
  (F:Fun K "read" "read" yH f fd):FnOk P w K mg base (CXE P w) 45 f fd ["signs"] (T7 K cX):=by
 refine LQ F QV `W `V
 ·obtain⟨x,rfl,_⟩:=h
  rfl
 obtain⟨x,rfl,hx⟩:=h
 refine⟨_,(aq (bB (yO (dU (bV KH rfl bf cG (aj (qv 0) (aj (Q8 (v:=.ty "str") rfl pY I_ rfl) ak))))) (au (yP PySem.F.excBase_ValueError jk rfl jr)) aX)
   (aq (bC (i:=1) QV.nd rfl `O (afy MK acV hr rfl HJ Fz .nil pass0))
   (aq (adY PassesOwn.leaving rfl (aay (aO Z2 hr rfl Zu Z9.kp ZM .nil pass0 (aj (qv 0) ak))) (ur (i:=2) QV.nd rfl `O) (au (bO (uw (qv 1) cC YQ ak_ hr Ys .nil zW (aj (qv 2) ak)))))
   (au (aQ (gM (qv 1) cC Tt aiQ hr SX .nil zW)))))),?_⟩
 rcases hx with⟨ps,rfl,hrow,q,qe⟩|⟨⟨ty,hty,hk⟩,qe⟩
 rotate_left
 ·exact⟨_,rfl,x,"str",ty,false,rfl,hty,hk,_,rfl,iteT qe⟩
 obtain⟨hrp,ag8,hjl,apk⟩:=hrow
 have noT:∀{R P:Addr}{nm:`E},(fl R P nm).lookup ("take":Str)=none:=JN `D `D `D
 have noW:∀{R P:Addr}{nm:`E},(fl R P nm).lookup ("whole":Str)=none:=JN `D `D `D
 refine⟨_,rfl,.str _,"str",.type "str",true,rfl,TyOf.str _,by rfl,_,rfl,iteF ?_⟩
 refine fun o dx no ndx nex=>⟨o,dx,H,rfl,(same_new ndx _).trans (same_new (by rw[upd_ne (Ne.symm nex)];exact no) _),no,upd_same,fun H1 k1 h1=>⟨rfl,?_⟩⟩
 obtain⟨dx1,R1,P1,ys1,h1⟩:=h1
 refine⟨_,rfl,ps,rfl,hrp,hjl,fun D gD=>⟨D,rfl,⟨_,SqL.of upd_same⟩,?_⟩⟩
 have hD:H D=none:=h1.rows.same.free gD
 refine for_list (xs:=ps.map fun p=>V.str (tx p)) (fun i σ' H'=>∃(o2:Option V)(sa:Rst),σ'=[some (.str (tx (aV [32] ps))),some (.ref o),o2]/\nZ K C (upd H D (.lst (ps.map fun p=>V.str (tx p)))) H' o sa.st sa.pl sa.nm/\stF ⟨[[]],[jB],[]⟩ (ps.take i)=some sa/\WF sa) ?_ ?_ ?_ ?_
 ·exact⟨_,⟨[[]],[jB],[]⟩,rfl,⟨dx1,R1,P1,ys1,h1.base gD _⟩,rfl,WF.start⟩
 ·rintro i σ' H' _⟨o2,sa,rfl,h,_⟩
  exact SqL.of (h.same _ _ upd_same)
 ·rintro i x σ' H' hx⟨o2,sa,rfl,h,hst,hwf⟩
  rw[List.getElem?_map]at hx
  cases hi:ps[i]? with
  |none=>rw[hi]at hx;cases hx
  |some p=>
   rw[hi]at hx
   have hx:V.str (tx p)=x:=Option.some.inj hx
   subst hx
   have hlt:i<ps.length:=(List.getElem?_eq_some_iff.mp hi).1
   have hmem:=List.mem_of_getElem? hi
   have et:ps.take (i+1)=ps.take i++[p]:=by rw[List.take_add_one,hi];rfl
   have ed:ps=ps.take (i+1)++ps.drop (i+1):=(List.take_append_drop _ _).symm
   have h0:=h
   obtain⟨dx2,R2,P2,ys2,h2⟩:=h
   refine⟨_,rfl,o,dx2,_,rfl,h2.ob,noT,_,rfl,o,p,_,sa,rfl,h0,hwf,apk i sa hst,(ag8 p hmem).1,(ag8 p hmem).2,fun sb H3 hsb k3 h3=>?_,fun hno H3 S3=>qe ?_ _ ((same_new hD _).trans S3)⟩
   ·have apm:=DK hwf hsb
    refine⟨_,sb,rfl,h3,?_,hwf.step apm⟩
    rw[et,Cg,hst,Option.bind_some,stF,hsb,Option.bind_some,stF]
   ·unfold lC
    rw[ed,Cg,et,Cg,hst,Option.bind_some,stF,hno]
    rfl
 ·rintro σ' H'⟨o2,sa,rfl,h,hst,hwf⟩
  rw[List.length_map,List.take_length]at hst
  have h0:=h
  obtain⟨dx2,R2,P2,ys2,h2⟩:=h
  refine⟨_,rfl,o,dx2,_,rfl,h2.ob,noW,o,_,sa.st,sa.pl,sa.nm,rfl,h0,fun r e1 e2 y H2 S2 t2=>?_,fun hbad H2 S2=>?_⟩
  ·refine q r ?_ _ _ ((same_new hD _).trans S2) t2
   unfold lC
   rw[hst]
   obtain⟨st,pl,nm⟩:=sa
   dsimp only at e1 e2
   subst e1 e2
   rfl
  ·refine qe ?_ _ ((same_new hD _).trans S2)
   unfold lC
   rw[hst]
   obtain⟨st,pl,nm⟩:=sa
   dsimp only at hbad
   match st,nm,hbad with
   |[r],[],hb=>exact absurd hb `H
   |[],_,_=>rfl
   |[_],_::_,_=>rfl
   |_::_::_,_,_=>rfl
end
end cD
namespace Sw
open PySem PySem.Spec PyProof.Rows L2
theorem T.ahz{l:`E}{st:List `C}{i c:Nat}(hi:T.rd [[]] (l.take i)=some st)(hc:l[i]?=some c)(h:T.rd1 st c=none):T.rd [[]] l=none:=by
 have hlt:i<l.length:=(List.getElem?_eq_some_iff.mp hc).1
 have e1:l.take (i+1)=l.take i++[c]:=by rw[List.take_add_one,hc];rfl
 have e2:l=l.take (i+1)++l.drop (i+1):=(List.take_append_drop _ _).symm
 have h3:T.rd [[]] (l.take (i+1))=none:=by
  rw[e1,T.zT,hi,Option.bind_some,T.uo,h]
  rfl
 rw[e2,T.zT,h3]
 rfl
theorem T.aau{l:`E}{st st2:List `C}{i c:Nat}(hi:T.rd [[]] (l.take i)=some st)(hc:l[i]?=some c)(h:T.rd1 st c=some st2):T.rd [[]] (l.take (i+1))=some st2:=by
 have e1:l.take (i+1)=l.take i++[c]:=by rw[List.take_add_one,hc];rfl
 rw[e1,T.zT,hi,Option.bind_some,T.uo,h]
 rfl
theorem ae9{l:`E}(h:∀t,T.rd [[]] l≠some [[t]]):fQ l=none:=by
 unfold fQ
 split
 ·rename_i t e
  exact absurd e (h t)
 ·rfl
end Sw
namespace cD
open PySem PySem.Spec PyProof.Rows L2 Sw
section
variable{P:Program}{w:World}{K:W.Frag}{mg:`U}{base:Heap}{f:Addr}{fd:FuncData}{cT:Addr}
def ak7(K:W.Frag)(H:Hp)(l:`E)(p:Addr)(i:Nat)(σ:Sg)(H':Hp):Prop:=∃(st:List `C)(ys:`F)(o2 o3:Option V),
 σ=[some (.str (tx l)),some (.ref p),o2,o3]/\T.rd [[]] (l.take i)=some st/\st≠[]/\qN K H H' p st ys/\T.aG st.flatten+st.length<=i+1
theorem WX(bf:mg "isinstance"=none)(pY:mg "str"=none)(cL:mg "len"=none)(cN:mg "tuple"=none)(KY:W.excIn K cT bmV "ValueError.__new__"=true)(zf:mg "NoTree"=some (.ref cT))
  (F:Fun K "read_tree" "read_tree" iY f fd):FnOk P w K mg base (CXC P w) 31 f fd ["text"] (DN K cT):=by
 refine okC F rT `W `V
 ·obtain⟨x,rfl,_⟩:=h
  rfl
 obtain⟨x,rfl,h⟩:=h
 refine⟨_,(pss_cons (ps_if (ad6 (ad5 (pe_callB IV rfl bf cG (pa_cons (pv 0) (pa_cons (aaC (v:=.ty "str") rfl pY I_ rfl) pa_nil))))) (pss_one (Hr PySem.F.excBase_ValueError KY rfl zf)) pss_nil)
   (pss_cons (ps_set (i:=1) rT.nd rfl `O (pe_lst (pa_cons (pe_lst pa_nil) pa_nil)))
   (pss_cons (ps_for PassesOwn.leaving rfl (ajt (pv 0)) (pg_name (i:=2) rT.nd rfl `O) (pss_one (ps_if (pt_cmpR op_eq (pv 2) Cy `N) (pss_one (ps_expr (zV PySem.F.plainAttrs_list PySem.F.slot_list_append PySem.F.type_list_append bN (pv 1) (pa_cons (pe_lst pa_nil) pa_nil)))) (pss_one (ps_if (PW.pt (ad4 (pt_cmpR op_eq (pv 2) Cy `N) (aaB (pt_cmpR JC (pe_callB call_len_seq rfl cL jy (pa_cons (pv 1) pa_nil)) pe_int `N)))) (pss_cons (ps_set (i:=3) rT.nd rfl `O (Wy PySem.F.plainAttrs_list PySem.F.slot_list_pop PySem.F.type_list_pop jZ (pv 1)))
   (pss_one (ps_expr (zV PySem.F.plainAttrs_list PySem.F.slot_list_append PySem.F.type_list_append bN (pe_ix ix_list (pv 1) (ag2 lF pe_int) (fun _ _=>rfl)) (pa_cons (Ug gw rfl cN pD (pa_cons (pv 3) pa_nil)) pa_nil))))) (pss_one (Hr PySem.F.excBase_ValueError KY rfl zf)))))))
   (pss_cons (ps_if (PW.pt (ag1 (pt_cmpR op_ne (pe_callB call_len_seq rfl cL jy (pa_cons (pv 1) pa_nil)) pe_int `N) (ad3 (pt_cmpR op_ne (pe_callB call_len_seq rfl cL jy (pa_cons (pe_ix ix_list (pv 1) pe_int (fun _ _=>rfl)) pa_nil)) pe_int `N)))) (pss_one (Hr PySem.F.excBase_ValueError KY rfl zf)) pss_nil)
   (pss_one (ps_ret (pe_ix ix_list (pe_ix ix_list (pv 1) pe_int (fun _ _=>rfl)) pe_int (fun _ _=>rfl)))))))),?_⟩
 rcases h with⟨l,rfl,hz,q,qe⟩|⟨⟨ty,hty,hk⟩|⟨a,xs,rfl,hq⟩,qe⟩
 rotate_left
 ·exact⟨_,rfl,.inl ⟨x,"str",ty,false,rfl,hty,hk,_,rfl,iteT qe⟩⟩
 ·exact⟨_,rfl,.inr ⟨a,xs,"str",false,rfl,hq,by rfl,_,rfl,iteT qe⟩⟩
 have q:=fun t ht=>q t (Vq ht)
 have qe:=fun(hh:∀t,T.rd [[]] l≠some [[t]])=>qe (ae9 hh)
 refine⟨_,rfl,.inl ⟨.str (tx l),"str",.type "str",true,rfl,TyOf.str _,by rfl,_,rfl,iteF ?_⟩⟩
 refine⟨`R,fun q0 hq0=>⟨`d,fun p hp=>?_⟩⟩
 have npq:p≠q0:=fun z=>by rw[z,upd_same]at hp;cases hp
 have hpH:H p=none:=by rw[upd_ne npq]at hp;exact hp
 refine⟨_,rfl,_,rfl,?_⟩
 refine aiv (l:=l) (ak7 K H l p) ?_ ?_ ?_
 ·refine⟨[[]],[.ref q0],_,_,rfl,rfl,`H,⟨hpH,(same_new hq0 _).trans (same_new hp _),upd_same,?_,?_⟩,by rw[List.flatten_cons,List.flatten_nil,List.append_nil,T.aZ];simp⟩
  ·exact aP.one ⟨q0,[],rfl,hq0,(same_new hp _) _ _ upd_same,bJ.mpr rfl⟩
  ·simp[npq]
 ·rintro i c σ' H' hc⟨st,ys,o2,o3,rfl,hi,hne,R,hsz⟩
  have hlt:i<l.length:=(List.getElem?_eq_some_iff.mp hc).1
  have hyl:ys.length=st.length:=by rw[R.rows.length,List.length_reverse]
  have bad:T.rd1 st c=none->E (.ref cT) none H':=fun hb=>qe (fun t ht=>by rw[T.ahz hi hc hb]at ht;cases ht) _ R.same
  by_cases h40:c=40
  ·
   subst h40
   refine⟨_,rfl,rfl,_,rfl,ite2 (fun _=>?_) (fun hb=>absurd (by rw[Vg];exact decide_eq_true rfl) hb)⟩
   refine⟨_,rfl,.inl ⟨rfl,_,SqL.of R.at_⟩,`R,fun q2 hq2=>?_⟩
   have aoF:p≠q2:=ne_of_none R.at_ hq2
   refine⟨p,ys,.ref q2,rfl,rfl,by rw[upd_ne aoF];exact R.at_,vI `A,?_⟩
   cases st with
   |nil=>exact absurd rfl hne
   |cons r rs=>
    refine⟨[]::r::rs,ys++[.ref q2],_,_,rfl,T.aau hi hc (T.Wh r rs),`H,Hj R hq2,?_⟩
    rw[List.flatten_cons,List.nil_append,List.length_cons]
    lia
  ·have e1:decide (V.str (tx [c])=V.str (Str.ofString "("))=false:=by rw[Vg,aeF];exact decide_eq_false (by simpa using h40)
   refine⟨_,rfl,rfl,_,rfl,ite2 (fun hb=>absurd (e1.symm.trans hb) Bool.false_ne_true) (fun _=>?_)⟩
   by_cases h41:c=41
   ·subst h41
    refine⟨_,rfl,rfl,_,rfl,ite2 (fun _=>?_) (fun hb=>absurd (by rw[Ve];exact decide_eq_true rfl) hb)⟩
    refine⟨_,rfl,p,ys,rfl,.inl (SqL.of R.at_),_,_,rfl,rfl,_,rfl,?_⟩
    cases st with
    |nil=>exact absurd rfl hne
    |cons r rs=>
     cases rs with
     |nil=>exact ite2 (fun hb=>absurd (of_decide_eq_true hb) (by rw[hyl];simp)) (fun _=>bad rfl)
     |cons r' rs=>
      refine ite2 (fun _=>?_) (fun hb=>absurd (decide_eq_true (by rw[hyl];simp only[List.length_cons];lia)) hb)
      obtain⟨ys0,a',a,xs',xs,rfl,ha,ha',npa,HB,lx,lx',next⟩:=adR R
      refine⟨_,rfl,.inl ⟨rfl,_,SqL.of R.at_⟩,p,_,`G,rfl,rfl,R.at_,`H,?_⟩
      rw[List.dropLast_concat]
      refine⟨_,rfl,_,rfl,p,_,-1,.ref a',rfl,rfl,SqL.of upd_same,ji,.inl ⟨rfl,xs',SqL.of (by rw[upd_ne (Ne.symm HB)];exact ha')⟩,?_⟩
      refine⟨_,rfl,a,xs,rfl,.inl ⟨SqL.of (by rw[upd_ne (Ne.symm npa)];exact ha),fun b hb=>?_⟩⟩
      have nab:a'≠b:=fun z=>by
       rw[<-z,upd_ne (Ne.symm HB),ha']at hb
       cases hb
      have hpr:T.aG r'<=T.aG (r::r'::rs).flatten:=by
       rw[List.flatten_cons,List.flatten_cons,T.bM,T.bM]
       lia
      have hlr:=T.cB r'
      refine⟨a',xs',.ref b,rfl,rfl,by rw[upd_ne nab,upd_ne (Ne.symm HB)];exact ha',vI `A,?_⟩
      refine⟨(r'++[.node r])::rs,ys0++[.ref a'],_,_,rfl,T.aau hi hc (T.Wg r r' rs),`H,next b hb,?_⟩
      rw[List.flatten_cons,List.flatten_cons,T.bM,T.bM,List.length_cons,List.length_cons]at hsz
      rw[List.flatten_cons,T.bM,T.bM,T.aD,T.aZ,T.aM,List.length_cons]
      lia
   ·have e2:decide (V.str (tx [c])=V.str (Str.ofString ")"))=false:=by rw[Ve,aeF];exact decide_eq_false (by simpa using h41)
    refine⟨_,rfl,rfl,_,rfl,ite2 (fun hb=>absurd (e2.symm.trans hb) Bool.false_ne_true) (fun _=>?_)⟩
    exact iteF (bad (T.ahA h40 h41))
 ·rintro σ' H'⟨st,ys,o2,o3,rfl,hi,hne,R,hsz⟩
  rw[List.take_of_length_le `P]at hi
  have hyl:ys.length=st.length:=by rw[R.rows.length,List.length_reverse]
  refine⟨_,rfl,p,_,rfl,.inl (SqL.of R.at_),rfl,_,rfl,?_⟩
  by_cases hlen:st.length=1
  ·refine ite2 (fun hb=>absurd hb (by rw[hyl,hlen];simp)) (fun _=>?_)
   match st,hlen,R,hi with
   |[r],_,R,hi=>
    have hr':=R.rows
    cases hr' with
    |cons r0 r1=>
     cases r1
     obtain⟨a,xs,rfl,_,ha,hta⟩:=r0
     have hxl:=hta.length
     refine⟨_,rfl,p,_,0,`G,rfl,rfl,SqL.of R.at_,atI_nat (j:=0) rfl,a,xs,rfl,.inl (SqL.of ha),rfl,_,rfl,?_⟩
     by_cases h1:r.length=1
     ·refine ite2 (fun hb=>absurd hb (by rw[hxl,h1];simp)) (fun _=>?_)
      match r,h1,hta,hi with
      |[t],_,hta,hi=>
       obtain⟨y,r2,rfl,hy,hnil⟩:=b_.mp hta
       rw[bJ]at hnil
       subst hnil
       exact⟨_,rfl,p,_,0,`G,rfl,rfl,SqL.of R.at_,atI_nat (j:=0) rfl,a,[y],0,y,rfl,rfl,SqL.of ha,atI_nat (j:=0) rfl,q t hi y _ R.same hy⟩
     ·refine ite2 (fun _=>?_) (fun hb=>absurd ?_ hb)
      ·exact qe (fun t ht=>h1 (by rw[hi]at ht;have:=Option.some.inj ht;simp at this;rw[this];rfl)) _ R.same
      ·rw[hxl]
       simp
       lia
  ·refine ite2 (fun _=>?_) (fun hb=>absurd ?_ hb)
   ·exact qe (fun t ht=>hlen (by rw[hi]at ht;rw[Option.some.inj ht];rfl)) _ R.same
   ·rw[hyl]
    simp
    lia
end
section
variable{P:Program}{w:World}{K:W.Frag}{mg:`U}{base:Heap}{f g1 g2:Addr}{fd gd1 gd2:FuncData}
theorem jR{n:Nat}(h:n<=16000000):n<=sizeLine:=Nat.le_trans h `B
theorem QC{n:Nat}(h:n<=16000000):n<sizeLine:=Nat.lt_of_le_of_lt h `B
def tV(K:W.Frag)(H:Hp):Option T->V->Prop
 |none,x=>x=.non
 |some t,x=>TR K H t x
theorem tV.mono{H H':Hp}(S:Kt H H'):∀{o:Option T}{x:V},tV K H o x->tV K H' o x
 |none,_,h=>h
 |some _,_,h=>TR.mono S h
def Qy(K:W.Frag):Sp:=fun vs H Q _=>∃x t,vs=[x]/\TR K H t x/\t.parts<=3500000/\∀H',`L->Q (.str (tx t.wr)) H'
def ahb(K:W.Frag)(H:Hp)(x:V)(w:`E)(p1 p2:Addr):Nat->Sg->`S:=fun m σ H'=>∃(ys:`F)(os:List (Option T))(cs:`E)(o:Option V),
 σ=[some x,some (.ref p1),some (.ref p2),o]/\`L/\H' p1=some (.lst (cs.map fun c=>V.str (tx [c])))/\H' p2=some (.lst ys)/\aP (tV K H') os ys/\cs++T.out os=w/\m=(T.out os).length
theorem T3{H:Hp}:∀{ts:`C}{xs:`F},TRs K H ts xs->aP (tV K H) (ts.map some) xs
 |[],xs,h=>by rw[bJ]at h;rw[h];exact .nil
 |t::ts,xs,h=>by
  obtain⟨x,r,rfl,h1,h2⟩:=b_.mp h
  exact .cons h1 (T3 h2)
theorem WW(qF:mg "list"=none)(fY:mg "reversed"=none)(F:Fun K "show_tree" "show_tree" iW f fd):FnOk P w K mg base CX0 31 f fd ["tree"] (Qy K):=by
 refine F.ok rR `W `V
 ·obtain⟨x,t,rfl,_⟩:=h
  rfl
 obtain⟨x,t,rfl,ht,hz,q⟩:=h
 refine⟨_,(pss_cons (ps_set (i:=1) rR.nd rfl `O (pe_lst pa_nil))
   (pss_cons (ps_set (i:=2) rR.nd rfl `O (pe_lst (pa_cons (pv 0) pa_nil)))
   (pss_cons (Wq PassesOwn.never (Wo (pv 2) (fun _=>rfl)) (pss_cons (ps_set (i:=3) rR.nd rfl `O (Wy PySem.F.plainAttrs_list PySem.F.slot_list_pop PySem.F.type_list_pop jZ (pv 2)))
   (pss_one (ps_if (pt_cmpR Ow (pv 3) Wx `N) (pss_one (ps_expr (zV PySem.F.plainAttrs_list PySem.F.slot_list_append PySem.F.type_list_append bN (pv 1) (pa_cons Cy pa_nil)))) (pss_cons (ps_expr (zV PySem.F.plainAttrs_list PySem.F.slot_list_append PySem.F.type_list_append bN (pv 1) (pa_cons Cy pa_nil)))
   (pss_cons (ps_expr (zV PySem.F.plainAttrs_list PySem.F.slot_list_append PySem.F.type_list_append bN (pv 2) (pa_cons Wx pa_nil)))
   (pss_one (ps_expr (zV PySem.F.plainAttrs_list PySem.F.slot_list_extend PySem.F.type_list_extend Uj (pv 2) (pa_cons (SwR.Ot rfl rfl qF fY rfl (pv 3)) pa_nil))))))))))
   (pss_one (ps_ret (zV PySem.F.plainAttrs_str PySem.F.slot_str_join PySem.F.type_str_join aaJ Cy (pa_cons (pv 1) pa_nil))))))),?_⟩
 refine⟨`R,fun p1 hp1=>?_⟩
 refine⟨_,rfl,`d,fun p2 hp2=>?_⟩
 have n12:p1≠p2:=fun z=>by rw[<-z,upd_same]at hp2;cases hp2
 have hp2':H p2=none:=(same_new hp1 _).free hp2
 have hlen:=T.iK t
 refine⟨ahb K H x t.wr p1 p2,⟨_,[x],[some t],[],none,rfl,(same_new hp1 _).trans (same_new hp2 _),by rw[upd_ne n12];exact upd_same,upd_same,aP.one (show TR K _ t x from(ht.mono (Kt.new hp1)).mono (Kt.new hp2)),by rw[T.CJ];rfl,rfl⟩,?_⟩
 rintro m σ H'⟨ys,os,cs,o,rfl,S,h1,h2,hw,hc,rfl⟩
 have hl:=hw.length
 have hol:=T.aaE os
 have hcl:cs.length+(T.out os).length=t.wr.length:=by rw[<-hc,List.length_append]
 refine⟨_,rfl,!ys.isEmpty,.inl ⟨ys,SqL.of h2,rfl⟩,?_⟩
 refine ite2 (fun hb=>?_) (fun hb=>?_)
 ·have hne:ys≠[]:=by rintro rfl;exact absurd hb `B
  obtain⟨y,hy⟩:=RD hne
  obtain⟨oo,hoo,hwy⟩:=hw.get hy
  rw[hl]at hoo
  have eos:=Uv hoo
  have acg:T.out os=T.Ed oo++T.out os.dropLast:=by
   have e:=congrArg T.out eos
   rw[T.pX,T.CJ]at e
   exact e
  have hdl:=T.aaE os.dropLast
  have hpos:=T.WL oo
  refine⟨fun σ' H'=>∃m',m'<(T.out os).length/\ahb K H x t.wr p1 p2 m' σ' H',fun _ _ h=>h,?_⟩
  refine⟨_,rfl,.inl ⟨rfl,_,SqL.of h2⟩,p2,ys,_,rfl,rfl,h2,hy,?_⟩
  have hwd:=(aP.dropLast hw).imp (S:=tV K (upd H' p2 (.lst ys.dropLast))) fun _ _=>tV.mono (Kt.lst h2)
  have S2:Same H (upd H' p2 (.lst ys.dropLast)):=bQ S hp2'
  have h12:upd H' p2 (.lst ys.dropLast) p1=some (.lst (cs.map fun c=>V.str (tx [c]))):=by rw[upd_ne n12];exact h1
  have h22:upd H' p2 (.lst ys.dropLast) p2=some (.lst ys.dropLast):=upd_same
  have hyk:tV K (upd H' p2 (.lst ys.dropLast)) oo y:=tV.mono (Kt.lst h2) hwy
  generalize upd H' p2 (.lst ys.dropLast)=H2 at hwd S2 h12 h22 hyk
  have arf:cs.length<16000000:=`A
  cases oo with
  |none=>
   have ey:y=.non:=hyk
   subst ey
   refine⟨_,rfl,rfl,_,rfl,iteT ?_⟩
   refine⟨_,rfl,.inl ⟨rfl,_,SqL.of h12⟩,p1,_,_,rfl,rfl,h12,QC (by rw[List.length_map];lia),?_⟩
   refine⟨_,?_,ys.dropLast,os.dropLast,cs++[41],_,rfl,bQ S2 hp1,?_,by rw[upd_ne (Ne.symm n12)];exact h22,hwd.imp fun _ _=>tV.mono (Kt.lst h12),?_,rfl⟩
   ·rw[acg,List.length_append]
    show _<1+_
    lia
   ·rw[upd_same,List.map_append]
    rw[show Str.ofString ")"=tx [41]from Ve]
    rfl
   ·rw[<-hc,acg,List.append_assoc]
    rfl
  |some u=>
   obtain⟨a,zs,rfl,g1,g2⟩:=vm (show TR K H2 u y from hyk)
   refine⟨_,rfl,rfl,_,rfl,iteF ?_⟩
   refine⟨_,rfl,.inl ⟨rfl,_,SqL.of h12⟩,p1,_,_,rfl,rfl,h12,QC (by rw[List.length_map];lia),?_⟩
   have k3:Kt H2 (upd H2 p1 (.lst ((cs.map fun c=>V.str (tx [c]))++[.str (Str.ofString "(")]))):=Kt.lst h12
   have h23:upd H2 p1 (.lst ((cs.map fun c=>V.str (tx [c]))++[.str (Str.ofString "(")])) p2=some (.lst ys.dropLast):=by rw[upd_ne (Ne.symm n12)];exact h22
   have h13:upd H2 p1 (.lst ((cs.map fun c=>V.str (tx [c]))++[.str (Str.ofString "(")])) p1=some (.lst ((cs++[40]).map fun c=>V.str (tx [c]))):=by
    rw[upd_same,List.map_append,Vg]
    rfl
   have S3:Same H (upd H2 p1 (.lst ((cs.map fun c=>V.str (tx [c]))++[.str (Str.ofString "(")]))):=bQ S2 hp1
   generalize upd H2 p1 (.lst ((cs.map fun c=>V.str (tx [c]))++[.str (Str.ofString "(")]))=H3 at k3 h23 h13 S3
   have hlo:ys.dropLast.length<=16000000:=by rw[List.length_dropLast];lia
   refine⟨_,rfl,.inl ⟨rfl,_,SqL.of h23⟩,p2,_,_,rfl,rfl,h23,QC hlo,?_⟩
   have k4:Kt H3 (upd H3 p2 (.lst (ys.dropLast++[.non]))):=Kt.lst h23
   have h14:upd H3 p2 (.lst (ys.dropLast++[.non])) p1=some (.lst ((cs++[40]).map fun c=>V.str (tx [c]))):=by rw[upd_ne n12];exact h13
   have h24:upd H3 p2 (.lst (ys.dropLast++[.non])) p2=some (.lst (ys.dropLast++[.non])):=upd_same
   have S4:Same H (upd H3 p2 (.lst (ys.dropLast++[.non]))):=bQ S3 hp2'
   generalize upd H3 p2 (.lst (ys.dropLast++[.non]))=H4 at k4 h14 h24 S4
   have g14:=eU k4 (eU k3 g1)
   have hul:=T.cB u.kids
   have hup:=T.cU u
   have huw:=T.iK u
   have hzl:=g2.length
   have eoL:(T.Ed (some u)).length=u.wr.length:=rfl
   have eol:(T.out os).length=u.wr.length+(T.out os.dropLast).length:=by rw[acg,List.length_append];rfl
   refine⟨_,rfl,.inl ⟨rfl,_,SqL.of h24⟩,_,rfl,a,zs,rfl,g14,fun l hl5=>?_⟩
   have n2l:p2≠l:=ne_of_none h24 hl5
   have n1l:p1≠l:=ne_of_none h14 hl5
   refine⟨p2,l,ys.dropLast++[.non],zs.reverse,rfl,rfl,by rw[upd_ne n2l];exact h24,upd_same,jR (by rw[List.length_append,List.length_reverse,List.length_singleton,List.length_dropLast];lia),?_⟩
   have k5:Kt H4 (upd H4 l (.lst zs.reverse)):=Kt.new hl5
   have h25:upd H4 l (.lst zs.reverse) p2=some (.lst (ys.dropLast++[.non])):=by rw[upd_ne n2l];exact h24
   have k6:Kt H2 (upd (upd H4 l (.lst zs.reverse)) p2 (.lst (ys.dropLast++[.non]++zs.reverse))):=k3.trans (k4.trans (k5.trans (Kt.lst h25)))
   refine⟨_,?_,ys.dropLast++[.non]++zs.reverse,os.dropLast++[none]++u.kids.reverse.map some,cs++[40],_,rfl,bQ (S4.trans (same_new hl5 _)) hp2',?_,upd_same,?_,?_,rfl⟩
   ·rw[T.pX,T.pX,T.CJ,T.WK,List.length_append,List.length_append,eol,T.Qo u]
    simp only[List.length_cons,List.length_append,List.length_singleton,List.length_nil,T.Ed]
    lia
   ·rw[upd_ne n12,upd_ne n1l]
    exact h14
   ·refine aP.append (aP.append (hwd.imp fun _ _=>tV.mono k6) (aP.one (show(V.non:V)=.non from rfl))) ?_
    rw[List.map_reverse]
    exact aP.rev (T3 (g2.mono k6))
   ·rw[T.pX,T.pX,T.CJ,T.WK,<-hc,acg,T.Ed,T.Ed,T.Qo u,List.append_assoc]
    simp
 ·have hys:ys=[]:=by
   cases ys with
   |nil=>rfl
   |cons _ _=>exact absurd rfl hb
  subst hys
  have hos:os=[]:=List.length_eq_zero_iff.mp hl.symm
  subst hos
  rw[T.ahY,List.append_nil]at hc
  subst hc
  refine⟨rfl,_,rfl,p1,t.wr.map fun c=>[c],(by rw[show Str.ofString ""=tx []from vG]),rfl,SqL.of (by rw[h1,List.map_map];rfl),?_,?_⟩
  ·have:(t.wr.map fun c=>[c]).flatten=t.wr:=Ai _
   rw[this]
   lia
  ·have:(t.wr.map fun c=>[c]).flatten=t.wr:=Ai _
   rw[this]
   exact q _ S
theorem ae4{K:W.Frag}(vs:`F)(H:Hp)(Q:VK)(E:XK)(h:aaj K vs H Q E):Qy K vs H Q E:=by
 obtain⟨x,t,rfl,ht,hp,q⟩:=h
 exact⟨x,t,rfl,ht,`A,q⟩
end
section
variable{P:Program}{w:World}{K:W.Frag}{mg:`U}{base:Heap}{f:Addr}{fd:FuncData}
theorem aaI(n:Nat)(h:n<=1000000):((n:Int)).natAbs.log2<1920/\(Str.ofString (toString ((n:Nat):Int))).length<=2000:=by
 have hl:((n:Int)).natAbs.log2<1920:=by
  rw[Int.natAbs_natCast]
  by_cases h0:n=0
  ·subst h0;decide
  ·exact(Nat.log2_lt h0).mpr (Nat.lt_of_le_of_lt h (Nat.lt_of_lt_of_le (show 1000000<2^20 by decide) (Nat.pow_le_pow_right `B `B)))
 refine⟨hl,?_⟩
 have e:=int_text_length_le (k:=1920) `B hl
 rw[PySem.ofString_length]
 lia
theorem str_len(a b:Str):(a++b).length=a.length+b.length:=strLen_append a b
theorem m_(a:Str):Str.empty++a=a:=by
 cases a with
 |mk c=>show Str.mk (#[]++c)=Str.mk c;simp
def Nh(b:Nat)(t u:T):Str:=if iz b [t] [u]=Od then((Str.ofString "told "++tx (lB b [t] [u]).wr)++Str.ofString " ")++Str.ofString (toString ((spT b [t] [u]:Nat):Int))else Str.ofString "out "++Str.ofString (toString ((spT b [t] [u]:Nat):Int))
def acK(b:Nat)(t u:T):Prop:=Sane b [t] [u]/\(lB b [t] [u]).parts<=3500000/\b<=1000000
def agY(K:W.Frag)(cX cT:Addr):Sp:=fun vs H Q E=>∃(x y:V)(b:Nat),vs=[x,y,.int (b:Int)]/\
 ((∃qs,x=.str (tx (aV [32] qs))/\JT qs/\lC qs=none/\∀H',`L->E (.ref cX) none H')\/(JW K H x/\∀H',`L->E (.ref cX) none H')\/(∃qs ws,x=.str (tx (aV [32] qs))/\JT qs/\lC qs=some ws/\((∃l,y=.str (tx l)/\l.length<=400000/\fQ l=none/\∀H',`L->E (.ref cT) none H')\/((∀H',`L->acN K H' y)/\∀H',`L->E (.ref cT) none H')\/
   (∃u:T,y=.str (tx u.wr)/\u.parts<=100000/\acK b `K u/\∀H',`L->Q (.str (Nh b `K u)) H'))))
theorem Zh{cX cT:Addr}
  {Yz:Addr}{X8:FuncData}(ali:Fun K "read" "read" yH Yz X8)(alb:FnOk P w K mg base (CXE P w) 49 Yz X8 ["signs"] (T7 K cX))(ak2:Binds K X8 ["signs"] [])(ajQ:mg "read"=some (.ref Yz))
  {lq:Addr}{kY:FuncData}(BJ:Fun K "read_tree" "read_tree" iY lq kY)(Bw:FnOk P w K mg base (CXC P w) 49 lq kY ["text"] (DN K cT))(Bk:Binds K kY ["text"] [])(Av:mg "read_tree"=some (.ref lq))
  {FJ:Addr}{Fg:FuncData}(acW:Fun K "run" "run" zR FJ Fg)(acQ:FnOk P w K mg base CX0 49 FJ Fg ["text","tree","budget"] (abr K))(acz:Binds K Fg ["text","tree","budget"] [])(abU:mg "run"=some (.ref FJ))
  {lg:Addr}{kW:FuncData}(vp:Fun K "show_tree" "show_tree" iW lg kW)(vo:FnOk P w K mg base CX0 49 lg kW ["tree"] (Qy K))(vh:Binds K kW ["tree"] [])(u9:mg "show_tree"=some (.ref lg))
  (F:Fun K "answered" "answered" mq f fd):FnOk P w K mg base (CXE P w) 50 f fd ["signs","tree_signs","budget"] (agY K cX cT):=by
 refine LQ F ni `W `V
 ·obtain⟨x,y,b,rfl,_⟩:=h
  rfl
 obtain⟨x,y,b,rfl,h⟩:=h
 refine⟨_,(aq (bC (i:=3) ni.nd rfl `O (aO alb hr rfl ajQ ali.kp ak2 .nil zW (aj (qv 0) ak)))
   (aq (bC (i:=4) ni.nd rfl `O (aO Bw hr rfl Av BJ.kp Bk .nil ajA (aj (qv 1) ak)))
   (aq (bC (i:=5) ni.nd rfl `O (aO acQ hr rfl abU acW.kp acz .nil pass0 (aj (qv 3) (aj (qv 4) (aj (qv 2) ak)))))
   (aq (bC (i:=6) ni.nd rfl `O (cH g_ (qv 5) aN (fun _ _=>rfl)))
   (aq (bB (aR op_eq (cH g_ (qv 5) aN (fun _ _=>rfl)) bF `N) (au (aQ (aaA (afH (ajr (qv 6) aec))))) aX)
   (aq (bC (i:=7) ni.nd rfl `O (aO vo hr rfl u9 vp.kp vh .nil pass0 (aj (cH g_ (qv 5) aN (fun _ _=>rfl)) ak)))
   (au (aQ (aaA (afH (anr (qv 7) (afH (ajr (qv 6) aec))))))))))))),?_⟩
 rcases h with⟨qs,rfl,hrow,hno,qe⟩|⟨hns,qe⟩|⟨qs,ws,rfl,hrow,hrd,h⟩
 ·refine dW (fun v=>[some (.str (tx (aV [32] qs))),some (y),some (.int (b:Int)),some (v),none,none,none,none]) (fun _=>rfl) (fun v H'=>False) (fun R r=>⟨_,rfl,_,rfl,.inl ⟨qs,rfl,hrow,fun r' hr'=>absurd (hr'.symm.trans hno) `H,fun _ H' S=>qe H' S⟩⟩) (fun v H' h=>h.elim)
 ·refine dW (fun v=>[some (x),some (y),some (.int (b:Int)),some (v),none,none,none,none]) (fun _=>rfl) (fun v H'=>False) (fun R r=>⟨_,rfl,_,rfl,.inr ⟨hns,qe _ (Same.refl _)⟩⟩) (fun v H' h=>h.elim)
 refine dW (fun v=>[some (.str (tx (aV [32] qs))),some (y),some (.int (b:Int)),some (v),none,none,none,none]) (fun _=>rfl) (fun v H'=>`L/\TR K H' `K v) (fun R r=>⟨_,rfl,_,rfl,.inl ⟨qs,rfl,hrow,fun r' hr' z H' S tz=>?_,fun hno=>absurd (hno.symm.trans hrd) `H⟩⟩) (fun v3 H3 h3=>?_)
 ·rw[hrd]at hr'
  cases hr'
  exact r _ _ ⟨S,tz⟩
 obtain⟨S3,t3⟩:=h3
 rcases h with⟨l,rfl,hl,hno,qe⟩|⟨hns,qe⟩|⟨u,rfl,hu,⟨hs,htp,hb⟩,q⟩
 ·refine dW (fun v=>[some (.str (tx (aV [32] qs))),some (.str (tx l)),some (.int (b:Int)),some (v3),some (v),none,none,none]) (fun _=>rfl) (fun v H'=>False) (fun R r=>⟨_,rfl,_,rfl,.inl ⟨l,rfl,hl,fun r' hr'=>absurd (hr'.symm.trans hno) `H,fun _ H' S=>qe H' (S3.trans S)⟩⟩) (fun v H' h=>h.elim)
 ·refine dW (fun v=>[some (.str (tx (aV [32] qs))),some (y),some (.int (b:Int)),some (v3),some (v),none,none,none]) (fun _=>rfl) (fun v H'=>False) (fun R r=>⟨_,rfl,_,rfl,.inr ⟨hns _ S3,qe _ S3⟩⟩) (fun v H' h=>h.elim)
 refine dW (fun v=>[some (.str (tx (aV [32] qs))),some (.str (tx u.wr)),some (.int (b:Int)),some (v3),some (v),none,none,none]) (fun _=>rfl) (fun v H'=>Same H3 H'/\TR K H' u v) (fun R r=>⟨_,rfl,_,rfl,.inl ⟨_,rfl,by rw[T.iK];lia,fun r' hr' z H' S tz=>?_,fun hno=>absurd (hno.symm.trans (tZ u)) `H⟩⟩) (fun v4 H4 h4=>?_)
 ·rw[tZ]at hr'
  cases hr'
  exact r _ _ ⟨S,tz⟩
 obtain⟨S4,t4⟩:=h4
 refine dW (fun v=>[some (.str (tx (aV [32] qs))),some (.str (tx u.wr)),some (.int (b:Int)),some (v3),some (v4),some (v),none,none]) (fun _=>rfl) (fun v H'=>∃p v',v=.ref p/\Same H4 H'/\SqT K H' p [.str (iz b [`K] [u]),v',nv (spT b [`K] [u])]/\TR K H' (lB b [`K] [u]) v') (fun R r=>⟨_,rfl,_,rfl,_,rfl,v3,v4,`K,u,b,rfl,t3.mono (.of S4),t4,hs,fun p v H' S hp tv=>r _ _ ⟨p,v,rfl,S,hp,tv⟩⟩) (fun v5 H5 h5=>?_)
 obtain⟨p,v',rfl,S5,hp,tv⟩:=h5
 have S35:=S3.trans (S4.trans S5)
 have hsp:=abp b [`K] [u]
 obtain⟨n1,n2⟩:=aaI (spT b [`K] [u]) `A
 have z9:(9000000:Nat)<=sizeLine:=`B
 refine dW (fun v=>[some (.str (tx (aV [32] qs))),some (.str (tx u.wr)),some (.int (b:Int)),some (v3),some (v4),some (.ref p),some (v),none]) (fun _=>rfl) (fun v H'=>H'=H5/\v=nv (spT b [`K] [u])) (fun R r=>⟨_,rfl,p,_,_,_,rfl,rfl,hp,rfl,r _ _ ⟨rfl,rfl⟩⟩) (fun v6 H6 h6=>?_)
 obtain⟨rfl,rfl⟩:=h6
 have el:(Str.ofString "out ").length=4/\(Str.ofString "told ").length=5/\(Str.ofString " ").length=1:=`D
 obtain⟨el1,el2,el3⟩:=el
 unfold Nh at q
 refine⟨_,rfl,p,_,_,_,rfl,rfl,hp,rfl,rfl,_,rfl,?_⟩
 by_cases hw:(goT b [`K] [u]).1=[]
 ·have ew:iz b [`K] [u]=Od:=by unfold iz;rw[if_pos hw]
  rw[ew]at q|-
  rw[if_pos rfl]at q
  refine gC `D ?_
  dsimp only[tNext]
  refine dW (fun v=>[some (.str (tx (aV [32] qs))),some (.str (tx u.wr)),some (.int (b:Int)),some (v3),some (v4),some (.ref p),some (nv (spT b [`K] [u])),some (v)]) (fun _=>rfl) (fun v H'=>Same H6 H'/\v=.str (tx (lB b [`K] [u]).wr)) (fun R r=>⟨_,rfl,p,_,_,_,rfl,rfl,hp,rfl,v',_,rfl,tv,htp,fun H7 S7=>r _ _ ⟨S7,rfl⟩⟩) (fun v7 H7 h7=>?_)
  obtain⟨S7,rfl⟩:=h7
  have hwl:(tx (lB b [`K] [u]).wr).length<=7000000:=by rw[bR,T.iK];lia
  refine⟨by rw[m_];lia,_,rfl,_,rfl,`A,by rw[m_,str_len];lia,by rw[m_,str_len,str_len];lia,_,rfl,_,rfl,n1,by rw[m_,str_len,str_len,str_len];show _+(Str.ofString (toString ((spT b [`K] [u]:Nat):Int))).length<=_;lia,by rw[m_,str_len,str_len,str_len];show _+(Str.ofString (toString ((spT b [`K] [u]:Nat):Int))).length<=_;lia,?_⟩
  rw[m_]
  exact q _ (S35.trans S7)
 ·have ew:iz b [`K] [u]=ajC:=by unfold iz;rw[if_neg hw]
  rw[ew]at q|-
  rw[if_neg `D]at q
  refine j4 `D ?_
  refine⟨by rw[m_];lia,_,rfl,_,rfl,n1,by rw[m_,str_len];show _+(Str.ofString (toString ((spT b [`K] [u]:Nat):Int))).length<=_;lia,by rw[m_,str_len];show _+(Str.ofString (toString ((spT b [`K] [u]:Nat):Int))).length<=_;lia,?_⟩
  rw[m_]
  exact q _ S35
end
section
variable{P:Program}{w:World}{K:W.Frag}{mg:`U}{base:Heap}{f:Addr}{fd:FuncData}
def Vh(K:W.Frag)(n:Nat):Sp:=fun vs H Q _=>∃x t,vs=[x]/\TR K H t x/\t.deep<=n/\t.parts<=3500000/\∀H',`L->Q (.str (tx t.wr)) H'
theorem Vc:bootBuiltins "ValueError"=some (.type "ValueError"):=`D
structure Xs8(K:W.Frag)(mg:`U)(cS cT cX:Addr):Prop where
 mS:mg "SelfError"=some (.ref cS)
 mT:mg "NoTree"=some (.ref cT)
 mX:mg "NoText"=some (.ref cX)
 t1:W.typeIn K (.ref cS)=some (.type "type")
 t2:W.subIn K (.ref cS) (.type "BaseException")=some true
 t3:∃cd,W.clsIn K cS=some cd
 sX:W.subIn K (.ref cX) (.ref cS)=some true
 sT:W.subIn K (.ref cT) (.ref cS)=some true
 ZX:Tq K cX
 ZT:Tq K cT
 iXT:W.kitOne K (.ref cX) (.ref cT)=some false
 iXX:W.kitOne K (.ref cX) (.ref cX)=some true
 iXV:W.kitOne K (.ref cX) (.type "ValueError")=some true
 iTT:W.kitOne K (.ref cT) (.ref cT)=some true
 iTX:W.kitOne K (.ref cT) (.ref cX)=some false
 iTV:W.kitOne K (.ref cT) (.type "ValueError")=some true
def yh(K:W.Frag)(H:Hp)(x:V):Prop:=(∃qs,x=.str (tx (aV [32] qs))/\JT qs/\lC qs=none)\/JW K H x
def YG(x:V)(ws:`C):Prop:=∃qs,x=.str (tx (aV [32] qs))/\JT qs/\lC qs=some ws
def JR(K:W.Frag)(H:Hp)(y:V):Prop:=(∃l,y=.str (tx l)/\l.length<=400000/\fQ l=none)\/∀H',`L->acN K H' y
def QB(K:W.Frag)(cX cT:Addr):Sp:=fun vs H Q _=>∃(x y:V)(b:Nat),vs=[x,y,.int (b:Int)]/\
 ((yh K H x/\∀p e H',`L->SqT K H' p [.non,.ref e]->H' e=some (XO e cX)->Q (.ref p) H')\/(∃ws,YG x ws/\JR K H y/\∀p e H',`L->SqT K H' p [.non,.ref e]->H' e=some (XO e cT)->Q (.ref p) H')\/(∃ws u,YG x ws/\y=.str (tx u.wr)/\u.parts<=100000/\acK b `K u/\∀p H',`L->SqT K H' p [.str (Nh b `K u),.non]->Q (.ref p) H'))
def adI(K:W.Frag)(cX cT:Addr):Sp:=fun vs H Q _=>∃(p e C:Addr)(tb:Bool),vs=[.ref p,.bl tb]/\SqT K H p [.non,.ref e]/\H e=some (XO e C)/\((C=cX/\tb=true)\/(C=cT/\tb=false))/\∀H',`L->Q (.bl true) H'
theorem aem
  {a_t:Addr}{d_t:FuncData}(lQ:Fun K "_law_shown" "_law_shown" gY a_t d_t)(tQ:Binds K d_t ["_law_tree_here"] [])(sH:mg "_law_shown"=some (.ref a_t)):
  ∀n:Nat,FnOk P w K mg base CX0 (32+n) a_t d_t ["_law_tree_here"] (Vh K n):=by
 have step:∀n:Nat,∀(sp:Sp),FnOk P w K mg base CX0 (31+n) a_t d_t ["_law_tree_here"] sp->(∀x t H Q E,TR K H t x->t.deep+1<=n->t.parts<=3500000->(∀H',`L->Q (.str (tx t.wr)) H')->sp [x] H Q E)->FnOk P w K mg base CX0 (32+n) a_t d_t ["_law_tree_here"] (Vh K n):=by
  intro n sp tW hsp
  have e32:32+n=(31+n)+1:=`A
  rw[e32]
  refine okQ (k:=31+n) lQ Gg `W `V
  ·obtain⟨x,t,rfl,_⟩:=h
   rfl
  obtain⟨x,t,rfl,ht,hd,hp,q⟩:=h
  refine⟨_,(au (aQ (bD cJ (bD cJ bF (cI PySem.F.plainAttrs_str PySem.F.slot_str_join PySem.F.type_str_join aaJ bF (aj (Jx rfl (uG (fr:=[]) (js:=[]) (sc:=defScope gY) rfl rfl rfl `D `D `D `D (by exact trivial) `D (fun y hy=>cell_has hy)) (ad0 (qv 0)) (fun _ _ _ _ _=>(aO tW hr rfl sH lQ.kp tQ .nil pass0 (aj (qv 0) ak)))) ak))) bF))),?_⟩
  cases t with
  |node ts=>
  obtain⟨a,xs,rfl,ha,ra⟩:=bZ.mp ht
  have hl:=ra.length
  have hlp:=T.cB ts
  have hwl:=T.Qp ts
  rw[T.aM]at hp
  refine⟨rfl,_,rfl,a,rfl,⟨xs,ha⟩,?_⟩
  refine aaM (K:=K) (xs:=xs) (fun D i ys H'=>H D=none/\`L/\H' D=some (.lst ys)/\ys=((ts.take i).map T.wr).map (fun c=>V.str (tx c))/\i<=ts.length) (jR `A) (fun D hD=>⟨hD,same_new hD _,upd_same,rfl,`R⟩) (fun D i ys H' j=>⟨j.2.2.1,?_,eU (.of j.2.1) ha⟩) (fun D i x ys H' R hx j hR=>?_) (fun D ys H' j=>?_)
  ·rw[j.2.2.2.1,List.length_map,List.length_map,List.length_take]
   exact Nat.min_eq_left j.2.2.2.2
  ·obtain⟨hD,S,h1,h2,_⟩:=j
   obtain⟨u,hu,hxu⟩:=ra.get hx
   have hm:=List.mem_of_getElem? hu
   have hud:=T.oV hm
   have hup:=T.vO hm
   rw[T.aY]at hd
   refine⟨_,rfl,hsp x u H' _ _ (hxu.mono (.of S)) `A `A fun H3 S3=>?_⟩
   refine hR _ _ (S3 _ _ h1) ⟨hD,bQ (S.trans S3) hD,upd_same,?_,(List.getElem?_eq_some_iff.mp hu).1⟩
   rw[h2,List.take_succ,hu,List.map_append,List.map_append]
   rfl
  ·obtain⟨hD,S,h1,h2,_⟩:=j
   rw[List.take_of_length_le `A]at h2
   refine⟨D,ts.map T.wr,vG▸rfl,rfl,SqL.of (by rw[h1,h2]),?_,?_⟩
   ·rw[T.KZ];lia
   rw[T.KZ]
   have e8:(Str.ofString "(":Str)=tx [40]:=Vg
   have e9:(Str.ofString ")":Str)=tx [41]:=Ve
   refine⟨_,_,rfl,rfl,?_,?_⟩
   ·rw[e8,bR,bR];exact jR (by simp only[List.length_cons,List.length_nil];lia)
   refine⟨_,_,rfl,rfl,?_,?_⟩
   ·rw[e8,e9,cO,bR,bR];exact jR (by simp only[List.length_cons,List.length_nil,List.length_append];lia)
   have ew:(Str.ofString "("++tx (T.wrL ts)++Str.ofString ")":Str)=tx (T.node ts).wr:=by
    rw[e8,e9,cO,cO,T.mZ];rfl
   rw[ew]
   exact q _ S
 intro n
 induction n with
 |zero=>
  refine step 0 (fun _ _ _ _=>False) ?_ (fun x t H Q E _ h=>absurd h `A)
  refine okQ (k:=30) lQ Gg (fun vs H Q E h=>h.elim) (fun cdv A outer s H vs Q E hr h=>h.elim)
 |succ n ih=>
  refine step (n+1) (Vh K n) ?_ (fun x t H Q E h1 h2 h3 h4=>⟨x,t,rfl,h1,`A,h3,h4⟩)
  have e:31+(n+1)=32+n:=`A
  rw[e]
  exact ih
theorem U5{cS cT cX:Addr}(Z:Xs8 K mg cS cT cX)
  {FZ:Addr}{Fp:FuncData}(ac0:Fun K "answered" "answered" mq FZ Fp)(acU:FnOk P w K mg base (CXE P w) 60 FZ Fp ["signs","tree_signs","budget"] (agY K cX cT))(acD:Binds K Fp ["signs","tree_signs","budget"] [])(ab0:mg "answered"=some (.ref FZ))
  (F:Fun K "_law_asked" "_law_asked" jm f fd):FnOk P w K mg base CX0 61 f fd ["_law_signs","_law_tree_signs","_law_budget"] (QB K cX cT):=by
 refine okQ F mR `W `V
 ·obtain⟨x,y,b,rfl,_⟩:=h
  rfl
 obtain⟨x,y,b,rfl,h⟩:=h
 refine⟨_,(aq (bC (i:=3) mR.nd rfl `O jq)
   (aq (bC (i:=4) mR.nd rfl `O jq)
   (aq (Y_ (i:=3) (j:=5) rfl rfl acU hr rfl ab0 ac0.kp acD (fun _=>(aj (qv 0) (aj (qv 1) (aj (qv 2) ak)))) rfl Z.mS Z.t1 Z.t2 Z.t3 mR.nd rfl rfl rfl rfl (fun _=>(au (bC (i:=4) mR.nd rfl `O (qv 5)))))
   (au (aQ (bA (aj (qv 3) (aj (qv 4) ak)))))))),?_⟩
 refine⟨_,rfl,_,rfl,_,rfl,x,y,b,rfl,?_⟩
 have err:∀(C:Addr)(H':Hp),`L->(∀p e H',`L->SqT K H' p [.non,.ref e]->H' e=some (XO e C)->Q (.ref p) H')->∀a,H' a=none->∃v0,[some x,some y,some (V.int (b:Int)),some V.non,some (V.ref a),none][3]?=some (some v0)/\∃v1,[some x,some y,some (V.int (b:Int)),some V.non,some (V.ref a),none][4]?=some (some v1)/\[v0,v1].length<=sizeLine/\∀p,upd H' a (XO a C) p=none->Q (.ref p) (upd (upd H' a (XO a C)) p (.tup [v0,v1])):=fun C H' S q a ha=>by
  refine⟨_,rfl,_,rfl,(by show 2<=sizeLine;decide),fun p g=>q p a _ (S.trans ((same_new ha _).trans (same_new g _))) (SqT.of upd_same) ?_⟩
  have hne:a≠p:=fun z=>by rw[<-z,upd_same]at g;cases g
  rw[upd_ne hne,upd_same]
 rcases h with⟨hb,q⟩|⟨ws,⟨qs,rfl,hrow,hrd⟩,hb,q⟩|⟨ws,u,⟨qs,rfl,hrow,hrd⟩,rfl,hu,hrun,q⟩
 ·rcases hb with⟨qs,rfl,hrow,hno⟩|hns
  ·exact .inl ⟨qs,rfl,hrow,hno,fun H' S=>⟨cX,rfl,Z.sX,fun a ha=>⟨_,rfl,err cX H' S q a ha⟩⟩⟩
  ·exact .inr (.inl ⟨hns,fun H' S=>⟨cX,rfl,Z.sX,fun a ha=>⟨_,rfl,err cX H' S q a ha⟩⟩⟩)
 ·rcases hb with⟨l,rfl,hl,hno⟩|hns
  ·exact .inr (.inr ⟨qs,ws,rfl,hrow,hrd,.inl ⟨l,rfl,hl,hno,fun H' S=>⟨cT,rfl,Z.sT,fun a ha=>⟨_,rfl,err cT H' S q a ha⟩⟩⟩⟩)
  ·exact .inr (.inr ⟨qs,ws,rfl,hrow,hrd,.inr (.inl ⟨hns,fun H' S=>⟨cT,rfl,Z.sT,fun a ha=>⟨_,rfl,err cT H' S q a ha⟩⟩⟩)⟩)
 ·exact .inr (.inr ⟨qs,ws,rfl,hrow,hrd,.inr (.inr ⟨u,rfl,hu,hrun,fun H' S=>⟨_,rfl,_,rfl,(by show 2<=sizeLine;decide),fun p g=>q p _ (S.trans (same_new g _)) (SqT.of upd_same)⟩⟩)⟩)
theorem Oz{cS cT cX:Addr}(bf:mg "isinstance"=none)(zc:mg "ValueError"=none)(Z:Xs8 K mg cS cT cX)
  (F:Fun K "_law_refused" "_law_refused" gH f fd):FnOk P w K mg base CX0 31 f fd ["_law_pair","_law_text_here"] (adI K cX cT):=by
 refine okQ F rY `W `V
 ·obtain⟨p,e,C,tb,rfl,_⟩:=h
  rfl
 obtain⟨p,e,C,tb,rfl,hp,he,hC,q⟩:=h
 refine⟨_,(aq (Wm (qv 0) (ad1 rfl (yQ (ur (i:=2) rY.nd rfl `O) (yQ (ur (i:=3) rY.nd rfl `O) aaz))))
   (aq (bB (QW.pt (Vi (aR Ow (qv 3) jq `N) (Vi (aR ahZ (qv 2) jq `N) (Wj (yO (dU (bV zG rfl bf cG (aj (qv 3) (aj (Q8 (v:=.ty "ValueError") rfl zc Vc rfl) ak))))))))) (au (aQ pU)) aX)
   (au (aQ (ajn (pR op_eq (bV zG rfl bf cG (aj (qv 3) (aj (aU (v:=.ref cX) rfl Z.mX rfl) ak))) (qv 1) `N) (ad2 (pR op_ne (bV zG rfl bf cG (aj (qv 3) (aj (aU (v:=.ref cT) rfl Z.mT rfl) ak))) (qv 1) `N))))))),?_⟩
 refine⟨_,rfl,p,_,rfl,hp,rfl,_,_,rfl,_,_,rfl,rfl,?_⟩
 dsimp only[gName,ab7]
 obtain⟨b1,b2,z1,z2,z3,z4,e1,e2⟩:∃b1 b2:Bool,Tq K C/\W.kitOne K (.ref C) (.type "ValueError")=some true/\W.kitOne K (.ref C) (.ref cX)=some b1/\W.kitOne K (.ref C) (.ref cT)=some b2/\b1=tb/\b2=!tb:=by
  rcases hC with⟨rfl,rfl⟩|⟨rfl,rfl⟩
  ·exact⟨true,false,Z.ZX,Z.iXV,Z.iXX,Z.iXT,rfl,rfl⟩
  ·exact⟨false,true,Z.ZT,Z.iTV,Z.iTX,Z.iTT,rfl,rfl⟩
 refine⟨_,rfl,rfl,_,rfl,gC (decide_eq_false (by intro z;cases z)) ⟨_,rfl,rfl,_,rfl,gC rfl ?_⟩⟩
 refine⟨_,rfl,e,C,.ty "ValueError",true,rfl,.inr ⟨_,rfl⟩,he,z1,z2,_,rfl,iteF ?_⟩
 refine⟨_,rfl,e,C,.ref cX,b1,rfl,.inl ⟨_,rfl⟩,he,z1,z3,_,rfl,rfl,_,rfl,j4 (decide_eq_true (by rw[e1])) ?_⟩
 refine⟨_,rfl,e,C,.ref cT,b2,rfl,.inl ⟨_,rfl⟩,he,z1,z4,_,rfl,rfl,?_⟩
 rw[decide_eq_false (show¬V.bl b2=V.bl tb from fun z=>by have:=V.bl.inj z;rw[e2]at this;cases tb<;>cases this)]
 exact q _ (Same.refl _)
end
section
variable{P:Program}{w:World}{K:W.Frag}{mg:`U}{base:Heap}{f:Addr}{fd:FuncData}
theorem alN{K:W.Frag}{H:Hp}{Q:VK}{x y:V}{k:Int}{ts:`C}(n:Nat)(hx:TR K H (.node ts) x)(hy:y=.int k)(hk:k=(n:Int))(hn:n<=100)(q:∀z H',`L->TR K H' (.node (List.replicate n ts).flatten) z->Q z H')(hl:ts.length<=100:=by decide):Ol K x y H Q:=by
 obtain⟨a,xs,rfl,ha,ra⟩:=bZ.mp hx
 have hlen:=ra.length
 refine⟨a,k,xs,rfl,hy,ha,`A,`A,small (by rw[hk,Int.toNat_natCast,hlen];exact Nat.le_trans (Nat.mul_le_mul hl hn) `B),fun p H' S hp=>q _ _ S (qM hp ?_)⟩
 have r2:TRs K H' ts xs:=ra.mono (.of S)
 unfold su
 rw[hk,Int.toNat_natCast]
 clear hp hn hk hy q
 induction n with
 |zero=>exact bJ.mpr rfl
 |succ n ih=>
  rw[List.replicate_succ,List.flatten_cons,List.replicate_succ,List.flatten_cons]
  exact TRs.append r2 ih
theorem aaQ{tc:TT}{tb te:TS}{u:TS}{D:Ends}{σ:L2.St}{H:Hp}(P:L2.St->`S)(k:∀σ' H',P σ' H'->u D σ' H')(h:∀N:L2.St->`S,(∀σ' H',P σ' H'->N σ' H')->tIfS tc tb te {D with nx:=N} σ H):tSeq (tIfS tc tb te) u D σ H:=h _ k
theorem Uc(x:`C):∀(n:Nat)(s:`C),∃s',Wlk ([.node (List.replicate n (W 2))],.node x::s) (n+1) (n*(T.node x).parts+1) ([],.node x::s')
 |0,s=>⟨s,(ai0 .nil).to rfl `A⟩
 |n+1,s=>by
  obtain⟨s',g⟩:=Uc x n (.node x::s)
  exact⟨s',(aiZ g).to rfl (by rw[Nat.succ_mul];lia)⟩
def Tz(b:Nat)(ws:`C)(u:T):Prop:=B 100 20000 `K/\B 100 20000 u/\acK b `K u/\(lB b [`K] [u]).deep<=390
theorem ab6{b:Nat}{ws:`C}{u:T}(h1:B 12 18000 `K)(h2:B 10 100 u)(hb:b<=150):Tz b ws u:=by
 have be:Be 0 [`K] [u]:=⟨fun z hz=>by rw[List.mem_singleton.mp hz];exact h1.le `A `A,by show 1<=10;lia,by rw[T.aW,T.fC];have:=h2.1;lia,by rw[T.aD,T.aZ];have:=h2.2;lia⟩
 have hsp:=abp b [`K] [u]
 have bl:=Be.last b _ _ 0 be
 have sd:=bl.sd
 have sp:=bl.sp
 have ht:(lB b [`K] [u]).parts<=3500000/\(lB b [`K] [u]).deep<=390:=by
  unfold lB
  split
  ·cases hs:(goT b [`K] [u]).2.1 with
   |nil=>exact⟨`B,`B⟩
   |cons t ts=>
    rw[hs,T.aW]at sd
    rw[hs,T.aD]at sp
    exact⟨by show t.parts<=_;lia,by show t.deep<=_;lia⟩
  ·exact⟨`B,`B⟩
 exact⟨h1.le `A `A,h2.le `A `A,⟨Be.sane b _ _ 0 be `A,ht.1,`A⟩,ht.2⟩
theorem ab5{n m:Nat}(hn:n<=12)(hm:m<=3000):Tz 200000 (List.replicate n (W 2)) (cQ m):=by
 have bl:=rC m
 obtain⟨l1,l2⟩:=bl
 obtain⟨s',g⟩:=Uc (List.replicate m (.node [])) n []
 have e:cQ m=.node (List.replicate m (.node [])):=rfl
 rw[<-e]at g
 have hp:(cQ m).parts<=3001:=`A
 have hc:n*(cQ m).parts<=12*3001:=Nat.mul_le_mul hn hp
 obtain⟨a1,a2,a3⟩:=ahf g (show n*(cQ m).parts+1<=200000 by lia)
 have b1:B 3 (1+4*n) (.node (List.replicate n (W 2))):=by
  clear g hc a1 a2 a3 hn
  induction n with
  |zero=>exact xg.le `A `A
  |succ n ih=>rw[List.replicate_succ];exact(cP (show B 2 4 (W 2)from⟨`B,`B⟩) ih).le `A `A
 obtain⟨d1,d2⟩:=b1
 have hs:=ahg g rfl 10 `A ⟨by show(T.node [_]).deep<=10;rw[T.aY,T.aW,T.fC];lia,by show(T.node [_]).deep<=10;rw[T.aY,T.aW,T.fC];lia⟩ `A (by
  show T.aG [_]+T.aG [_]+_<=_
  rw[T.aD,T.aZ,T.aD,T.aZ];lia) 200000
 have e2:lB 200000 [.node (List.replicate n (W 2))] [cQ m]=cQ m:=a2
 exact⟨⟨`A,`A⟩,⟨`A,`A⟩,⟨hs,by rw[e2];lia,`A⟩,by rw[e2];lia⟩
theorem ab9(n:Nat):(List.replicate n [W 2]).flatten=List.replicate n (W 2):=by
 induction n with
 |zero=>rfl
 |succ n ih=>rw[List.replicate_succ,List.flatten_cons,ih,List.replicate_succ];rfl
def sgT:`E:=[35,65,32,48,40,41,32,124]
def sgR:`E:=[40,41,32,120]
theorem aja:[V.str (PySem.Str.ofString "#"),V.str (PySem.Str.ofString "A"),V.str (PySem.Str.ofString " "),V.str (PySem.Str.ofString "0"),V.str (PySem.Str.ofString "("),V.str (PySem.Str.ofString ")"),V.str (PySem.Str.ofString " "),V.str (PySem.Str.ofString "|")]=sgT.map fun c=>V.str (tx [c]):=by
 rw[show PySem.Str.ofString "#"=tx [35]by decide+kernel,show PySem.Str.ofString "A"=tx [65]by decide+kernel,show PySem.Str.ofString " "=tx [32]by decide+kernel,show PySem.Str.ofString "0"=tx [48]by decide+kernel,show PySem.Str.ofString "("=tx [40]by decide+kernel,show PySem.Str.ofString ")"=tx [41]by decide+kernel,show PySem.Str.ofString "|"=tx [124]by decide+kernel]
 rfl
theorem ajc:[V.str (PySem.Str.ofString "("),V.str (PySem.Str.ofString ")"),V.str (PySem.Str.ofString " "),V.str (PySem.Str.ofString "x")]=sgR.map fun c=>V.str (tx [c]):=by
 rw[show PySem.Str.ofString " "=tx [32]by decide+kernel,show PySem.Str.ofString "("=tx [40]by decide+kernel,show PySem.Str.ofString ")"=tx [41]by decide+kernel,show PySem.Str.ofString "x"=tx [120]by decide+kernel]
 rfl
theorem ajb:∀s∈sgT,Sg6 s\/s=32:=by unfold Sg6;decide
theorem ajd:∀s∈sgR,s=40\/s=41\/s=32\/s=120:=`B
theorem Np(l:`E)(k:Nat):pB l none (some (k:Int))=l.take k:=by
 unfold pB
 rw[HT.uh]
 show(l.drop 0).take (min k l.length-0)=_
 rw[List.drop_zero,Nat.sub_zero,<-List.take_take,List.take_length]
theorem Fq(l:`E)(k:Nat):pB l (some (k:Int)) none=l.drop k:=by
 unfold pB
 rw[HT.uh]
 show(l.drop (min k l.length)).take (l.length-min k l.length)=_
 rw[List.take_of_length_le (by rw[List.length_drop];lia)]
 by_cases h:k<=l.length
 ·rw[Nat.min_eq_left h]
 ·rw[Nat.min_eq_right `A,List.drop_length,List.drop_of_length_le `A]
theorem K8{ws:`C}{ps:`I}(h:Ts ws ps)(hb:B 100 20000 `K){n s:Nat}(hn:n<=(aV [32] ps).length)(hs:Sg6 s\/s=32)(K:W.Frag)(H:Hp):yh K H (.str (tx ((aV [32] ps).take n++s::(aV [32] ps).drop n))):=by
 obtain⟨qs,e,z,r,no⟩:=afa h hb hn hs
 exact .inl ⟨qs,by rw[e],⟨z,r⟩,no⟩
theorem K6(u:T)(hu:u.parts<=100000)(n:Nat){s:Nat}(hs:s=40\/s=41\/s=32\/s=120)(K:W.Frag)(H:Hp):JR K H (.str (tx (u.wr.take n++s::u.wr.drop n))):=by
 refine .inl ⟨_,rfl,?_,ae8 u n hs⟩
 rw[List.length_append,List.length_cons,List.length_take,List.length_drop,T.iK]
 lia
theorem Pa{K:W.Frag}{H:Hp}:JW K H .non/\∀i,JW K H (.int i):=⟨⟨_,TyOf.non,by rfl⟩,fun i=>⟨_,TyOf.int i,by rfl⟩⟩
theorem adl{K:W.Frag}{H:Hp}{t:T}{v:V}(h:TR K H t v):∀H',`L->acN K H' v:=fun H' S=>by
 obtain⟨a,xs,rfl,ha,_⟩:=vm h
 exact .inr ⟨a,xs,rfl,eU (.of S) ha⟩
theorem ok_law{cX cT:Addr}(pY:mg "str"=none)(cL:mg "len"=none)
  {Br:Addr}{Bd:FuncData}(Z_:Fun K "_law_deck" "_law_deck" i_ Br Bd)(Z6:FnOk P w K mg base CX0 439 Br Bd ["_law_script"] (adM K))(ZQ:Binds K Bd ["_law_script"] [])(Zw:mg "_law_deck"=some (.ref Br))
  {Bq:Addr}{Bc:FuncData}(jf:Fun K "_law_text" "_law_text" iZ Bq Bc)(nY:FnOk P w K mg base CX0 439 Bq Bc `l (adH K 3))(nF:Binds K Bc `l [])(nD:mg "_law_text"=some (.ref Bq))
  {lu:Addr}{kZ:FuncData}(fM:Fun K "_law_tree" "_law_tree" gQ lu kZ)(je:FnOk P w K mg base CX0 439 lu kZ `l (VF K 3))(jd:Binds K kZ `l [])(jc:mg "_law_tree"=some (.ref lu))
  {eG:Addr}{eE:FuncData}(cA:Fun K "_law_next" "_law_next" gR eG eE)(bY:FnOk P w K mg base CX0 439 eG eE ["_law_deck_here","_law_many"] Oe)(cu:Binds K eE ["_law_deck_here","_law_many"] [])(cj:mg "_law_next"=some (.ref eG))
  {Yy:Addr}{X7:FuncData}(alh:Fun K "show" "show" yG Yy X7)(ala:FnOk P w K mg base CX0 439 Yy X7 ["text"] (aai K))(ak1:Binds K X7 ["text"] [])(ajP:mg "show"=some (.ref Yy))
  {zK:Addr}{zu:FuncData}(lQ:Fun K "_law_shown" "_law_shown" gY zK zu)(tW:FnOk P w K mg base CX0 439 zK zu ["_law_tree_here"] (Vh K 392))(tQ:Binds K zu ["_law_tree_here"] [])(sH:mg "_law_shown"=some (.ref zK))
  {FJ:Addr}{Fg:FuncData}(acW:Fun K "run" "run" zR FJ Fg)(acQ:FnOk P w K mg base CX0 439 FJ Fg ["text","tree","budget"] (abr K))(acz:Binds K Fg ["text","tree","budget"] [])(abU:mg "run"=some (.ref FJ))
  {zL:Addr}{zx:FuncData}(pN:Fun K "_law_asked" "_law_asked" jm zL zx)(pL:FnOk P w K mg base CX0 439 zL zx ["_law_signs","_law_tree_signs","_law_budget"] (QB K cX cT))(pF:Binds K zx ["_law_signs","_law_tree_signs","_law_budget"] [])(oW:mg "_law_asked"=some (.ref zL))
  {uT:Addr}{uM:FuncData}(uY:Fun K "_law_refused" "_law_refused" gH uT uM)(uX:FnOk P w K mg base CX0 439 uT uM ["_law_pair","_law_text_here"] (adI K cX cT))(uP:Binds K uM ["_law_pair","_law_text_here"] [])(uE:mg "_law_refused"=some (.ref uT))
  (F:Fun K "law" "law" u6 f fd):FnOk P w K mg base CX0 440 f fd ["_law_script"] (spLaw K):=by
 refine okQ F dZ `W `V
 ·obtain⟨a,ns,rfl,_⟩:=h
  rfl
 obtain⟨a,ns,rfl,hl,h63,q⟩:=h
 have hE:=hr.un
 have hE:(A.deeper (envOfC "law" (defScope u6) s.heap.objs.size f cdv)).units+401<cLine:=`A
 refine⟨_,(aq (bC (i:=1) dZ.nd rfl `O (aO Z6 hr rfl Zw Z_.kp ZQ .nil pass0 (aj (qv 0) ak)))
   (aq (bC (i:=2) dZ.nd rfl `O (aO nY hr rfl nD jf.kp nF .nil pass0 (aj (qv 1) (aj aN ak))))
   (aq (bC (i:=3) dZ.nd rfl `O (aO je hr rfl jc fM.kp jd .nil pass0 (aj (qv 1) (aj aN ak))))
   (aq (bC (i:=4) dZ.nd rfl `O (cH ix_list (d7 (aj (aO bY hr rfl cj cA.kp cu .nil pass0 (aj (qv 1) (aj aN ak))) (aj aN ak))) (aO bY hr rfl cj cA.kp cu .nil pass0 (aj (qv 1) (aj aN ak))) (fun _ _=>rfl)))
   (aq (bB (aR op_eq (aO bY hr rfl cj cA.kp cu .nil pass0 (aj (qv 1) (aj aN ak))) aN `N) (aq (bC (i:=2) dZ.nd rfl `O (bD qP (bA (aj (bA (aj (bD qP (bA (aj (bA ak) ak)) aN) ak)) ak)) (aO bY hr rfl cj cA.kp cu .nil pass0 (aj (qv 1) (aj aN ak)))))
   (aq (bC (i:=3) dZ.nd rfl `O (bD qP (bA (aj (bA ak) ak)) (bD op_add aN (aO bY hr rfl cj cA.kp cu .nil pass0 (aj (qv 1) (aj aN ak))))))
   (au (bC (i:=4) dZ.nd rfl `O aN)))) aX)
   (aq (bC (i:=5) dZ.nd rfl `O (aO ala hr rfl ajP alh.kp ak1 .nil pass0 (aj (qv 2) ak)))
   (aq (bC (i:=6) dZ.nd rfl `O (aO tW hr rfl sH lQ.kp tQ .nil pass0 (aj (qv 3) ak)))
   (aq (Wm (aO acQ hr rfl abU acW.kp acz .nil pass0 (aj (qv 2) (aj (qv 3) (aj (qv 4) ak)))) (ad1 rfl (yQ (ur (i:=7) dZ.nd rfl `O) (yQ (ur (i:=8) dZ.nd rfl `O) (yQ (ur (i:=9) dZ.nd rfl `O) aaz)))))
   (aq (bC (i:=10) dZ.nd rfl `O (bD cJ bF (jY Iz rfl pY I_ (aj (qv 9) ak))))
   (aq (bB (aR op_eq (qv 7) bF `N) (au (bC (i:=10) dZ.nd rfl `O (bD cJ (bD cJ (bD cJ bF (aO tW hr rfl sH lQ.kp tQ .nil pass0 (aj (qv 8) ak))) bF) (jY Iz rfl pY I_ (aj (qv 9) ak))))) aX)
   (aq (bB (aR (ah0 hE) (aO pL hr rfl oW pN.kp pF .nil pass0 (aj (qv 5) (aj (qv 6) (aj (qv 4) ak)))) (bA (aj (qv 10) (aj jq ak))) `N) (au (aQ pU)) aX)
   (aq (bC (i:=11) dZ.nd rfl `O (aO bY hr rfl cj cA.kp cu .nil pass0 (aj (qv 1) (aj (bD op_add (bV IK rfl cL jy (aj (qv 5) ak)) aN) ak))))
   (aq (bC (i:=12) dZ.nd rfl `O (bD cJ (bD cJ (jo Cp (qv 5) nA (jF (qv 11))) (cH ix_list (d7 (aj bF (aj bF (aj bF (aj bF (aj bF (aj bF (aj bF (aj bF ak))))))))) (aO bY hr rfl cj cA.kp cu .nil pass0 (aj (qv 1) (aj aN ak))) (fun _ _=>rfl))) (jo Cp (qv 5) (jF (qv 11)) nA)))
   (aq (bC (i:=13) dZ.nd rfl `O (aO bY hr rfl cj cA.kp cu .nil pass0 (aj (qv 1) (aj (bD op_add (bV IK rfl cL jy (aj (qv 6) ak)) aN) ak))))
   (aq (bC (i:=14) dZ.nd rfl `O (bD cJ (bD cJ (jo Cp (qv 6) nA (jF (qv 13))) (cH ix_list (d7 (aj bF (aj bF (aj bF (aj bF ak))))) (aO bY hr rfl cj cA.kp cu .nil pass0 (aj (qv 1) (aj aN ak))) (fun _ _=>rfl))) (jo Cp (qv 6) (jF (qv 13)) nA)))
   (aq (bB (aR op_eq (aO bY hr rfl cj cA.kp cu .nil pass0 (aj (qv 1) (aj aN ak))) aN `N) (aq (bC (i:=12) dZ.nd rfl `O (cH ix_list (d7 (aj jq (aj aN (aj (bA ak) (aj (bD cJ bF (qv 5)) (aj (bD cJ (qv 5) bF) ak)))))) (aO bY hr rfl cj cA.kp cu .nil pass0 (aj (qv 1) (aj aN ak))) (fun _ _=>rfl)))
   (au (bC (i:=14) dZ.nd rfl `O (cH ix_list (d7 (aj jq (aj aN (aj (qv 3) (aj (bD cJ bF (qv 6)) (aj (bD cJ (qv 6) bF) ak)))))) (aO bY hr rfl cj cA.kp cu .nil pass0 (aj (qv 1) (aj aN ak))) (fun _ _=>rfl))))) aX)
   (aq (bB (yO (dU (aO uX hr rfl uE uY.kp uP .nil pass0 (aj (aO pL hr rfl oW pN.kp pF .nil pass0 (aj (qv 12) (aj (qv 6) (aj (qv 4) ak)))) (aj pU ak))))) (au (aQ pU)) aX)
   (aq (bB (yO (dU (aO uX hr rfl uE uY.kp uP .nil pass0 (aj (aO pL hr rfl oW pN.kp pF .nil pass0 (aj (qv 5) (aj (qv 14) (aj (qv 4) ak)))) (aj pU ak))))) (au (aQ pU)) aX)
   (aq (bB (yO (dU (aO uX hr rfl uE uY.kp uP .nil pass0 (aj (aO pL hr rfl oW pN.kp pF .nil pass0 (aj (qv 12) (aj (qv 14) (aj (qv 4) ak)))) (aj pU ak))))) (au (aQ pU)) aX)
   (au (aQ (pR (ah1 hE) (aO pL hr rfl oW pN.kp pF .nil pass0 (aj (qv 5) (aj (qv 6) (aj (qv 4) ak)))) (bA (aj (qv 10) (aj jq ak))) `N)))))))))))))))))))))),?_⟩
 refine dW (fun v=>[some `G,some (v),none,none,none,none,none,none,none,none,none,none,none,none,none]) (fun _=>rfl) (fun v H'=>∃p,v=.ref p/\BL H' p) (fun R r=>⟨_,rfl,a,ns,rfl,hl,h63,fun p H1 S1 hp0 hk=>r _ _ ⟨p,rfl,hk⟩⟩) (fun v1 H1 h1=>?_)
 obtain⟨p,rfl,hk⟩:=h1
 have D1:=Dr.refl hk
 have w0:pbW 0=60:=rfl
 have w1:pbW 1=542:=rfl
 have w2:pbW 2=4398:=rfl
 have p3':pbT 3=40:=rfl
 refine dW (fun v=>[some `G,some (.ref p),some (v),none,none,none,none,none,none,none,none,none,none,none,none]) (fun _=>rfl) (fun v H'=>∃ws,Dr p H1 H'/\TR K H' `K v/\B 8 17593 `K) (fun R r=>⟨_,rfl,p,2,rfl,`B,hk,fun y t H2 D2 ht hs=>?_⟩) (fun v2 H2 h2=>?_)
 ·cases t with
  |node ws=>exact r _ _ ⟨ws,D2,ht,hs.1.le `A `A⟩
 obtain⟨ws0,D2,t2,b2⟩:=h2
 refine dW (fun v=>[some `G,some (.ref p),some (v2),some (v),none,none,none,none,none,none,none,none,none,none,none]) (fun _=>rfl) (fun v H'=>∃u,Dr p H1 H'/\TR K H' (.node ws0) v2/\TR K H' u v/\B 10 100 u) (fun R r=>⟨_,rfl,p,3,rfl,`B,D2.bW,fun y t H3 D3 ht hs=>r _ _ ⟨t,D2.trans D3,t2.mono (D3.kt D2.bW),ht,hs.b.le `A `A⟩⟩) (fun v3 H3 h3=>?_)
 obtain⟨u0,D3,t23,t3,b3⟩:=h3
 refine dW (fun v=>[some `G,some (.ref p),some (v2),some (v3),some (v),none,none,none,none,none,none,none,none,none,none]) (fun _=>rfl) (fun v H'=>∃b:Nat,v=.int (b:Int)/\b<=150/\Dr p H1 H'/\TR K H' (.node ws0) v2/\TR K H' u0 v3) (fun R r=>⟨_,rfl,p,151,rfl,`B,D3.bW,fun i H4 i0 i1 D4=>⟨(by show 2<=sizeLine;decide),fun l g=>⟨_,rfl,p,2,rfl,`B,(D4.same (same_new g _)).bW,fun j H5 j0 j1 D5=>?_⟩⟩⟩) (fun v4 H4 h4=>?_)
 ·have Dl:=D4.same (same_new g (.lst [.int i,.int 150]))
  have hlp:l≠p:=fun z=>by obtain⟨ms,e⟩:=D4.bW;rw[z,e]at g;cases g
  have hl5:=D5.keep l _ hlp (upd_same (H:=H4) (a:=l) (o:=.lst [.int i,.int 150]))
  have k35:=(Dl.kt D3.bW).trans (D5.kt Dl.bW)
  have hj:j=0\/j=1:=`A
  rcases hj with rfl|rfl
  ·exact⟨l,_,_,_,rfl,rfl,SqL.of hl5,atI_nat (j:=0) rfl,r _ _ ⟨i.toNat,by rw[Int.toNat_of_nonneg i0],`A,(D3.trans Dl).trans D5,t23.mono k35,t3.mono k35⟩⟩
  ·exact⟨l,_,_,_,rfl,rfl,SqL.of hl5,atI_nat (j:=1) rfl,r _ _ ⟨150,rfl,`A,(D3.trans Dl).trans D5,t23.mono k35,t3.mono k35⟩⟩
 obtain⟨b0,rfl,hb0,D4,t24,t34⟩:=h4
 refine aaQ (fun σ' H'=>∃(v2 v3:V)(b:Nat)(ws:`C)(u:T),σ'=[some `G,some (.ref p),some (v2),some (v3),some (.int (b:Int)),none,none,none,none,none,none,none,none,none,none]/\Dr p H1 H'/\TR K H' `K v2/\TR K H' u v3/\Tz b ws u) (fun σ5 H5 h5=>?_) (fun N hN=>?_)
 rotate_left
 ·refine⟨_,rfl,p,16,rfl,`B,D4.bW,fun i H5 i0 i1 D5=>⟨rfl,_,rfl,ite2 (fun _=>?_) (fun _=>?_)⟩⟩
  rotate_left
  ·exact hN _ _ ⟨v2,v3,b0,ws0,u0,rfl,D4.trans D5,t24.mono (D5.kt D4.bW),t34.mono (D5.kt D4.bW),ab6 (b2.le `A `A) b3 hb0⟩
  have D45:=D4.trans D5
  refine dW (fun v=>[some `G,some (.ref p),some (v),some (v3),some (.int (b0:Int)),none,none,none,none,none,none,none,none,none,none]) (fun _=>rfl) (fun v H'=>∃n:Nat,n<=12/\Dr p H1 H'/\TR K H' (.node (List.replicate n (W 2))) v) (fun R r=>⟨`R,fun p1 g1=>⟨`d,fun p2 g2=>?_⟩⟩) (fun v6 H6 h6=>?_)
  ·obtain⟨S1,t1⟩:=dh (K:=K) (ts:=[]) g1 (bJ.mpr rfl)
   obtain⟨S2,t2'⟩:=dh (K:=K) g2 (kh t1)
   refine abQ (k:=2) 2 t2' rfl rfl `B `B (fun z3 H7 S3 t3'=>⟨`d,fun p4 g4=>⟨`d,fun p5 g5=>?_⟩⟩)
   obtain⟨S4,t4'⟩:=dh (K:=K) g4 (kh t3')
   obtain⟨S5,t5'⟩:=dh (K:=K) g5 (kh t4')
   have D6:=D45.same (S1.trans (S2.trans (S3.trans (S4.trans S5))))
   refine⟨_,rfl,p,13,rfl,`B,D6.bW,fun i H8 i0 i1 D7=>?_⟩
   refine alN i.toNat (t5'.mono (D7.kt D6.bW)) rfl `A `A (fun z H9 S9 t9=>r _ _ ⟨i.toNat,`A,(D6.trans D7).same S9,?_⟩)
   rw[<-ab9]
   exact t9
  obtain⟨n,hn,D6,t6⟩:=h6
  refine dW (fun v=>[some `G,some (.ref p),some (v6),some (v),some (.int (b0:Int)),none,none,none,none,none,none,none,none,none,none]) (fun _=>rfl) (fun v H'=>∃m:Nat,m<=3000/\Dr p H1 H'/\TR K H' (.node (List.replicate n (W 2))) v6/\TR K H' (cQ m) v) (fun R r=>⟨`R,fun p1 g1=>⟨`d,fun p2 g2=>?_⟩⟩) (fun v7 H7 h7=>?_)
  ·obtain⟨S1,t1⟩:=dh (K:=K) (ts:=[]) g1 (bJ.mpr rfl)
   obtain⟨S2,t2'⟩:=dh (K:=K) g2 (kh t1)
   have S12:=S1.trans S2
   have D7:=D6.same S12
   refine⟨_,rfl,p,2000,rfl,`B,D7.bW,fun i H8 i0 i1 D8=>⟨_,_,rfl,rfl,?_⟩⟩
   exact af_ (k:=1000+i) (1000+i).toNat (t2'.mono (D8.kt D7.bW)) rfl rfl `A `A (fun z H9 S9 t9=>r _ _ ⟨(1000+i).toNat,`A,(D7.trans D8).same S9,t6.mono (((Kt.of S12).trans (D8.kt D7.bW)).trans (.of S9)),t9⟩)
  obtain⟨m,hm,D7,t67,t7⟩:=h7
  exact hN _ _ ⟨v6,v7,200000,_,_,rfl,D7,t67,t7,ab5 hn hm⟩
 obtain⟨v2,v3,b,ws,u,rfl,D5,t25,t35,bws,bu,hrun,htd⟩:=h5
 obtain⟨ps,hts⟩:=ai1 ws
 have rs:=Ut hts bws
 have hrow:JT ps:=⟨al7 hts,rs⟩
 have tis:YG (.str (tx (aV [32] ps))) ws:=⟨ps,rfl,hrow,Wf hts⟩
 have bwd:=bws.1
 have bwp:=bws.2
 have bud:=bu.1
 have bup:=bu.2
 have hjl:=rs.len
 have hul:u.wr.length<=40000:=by rw[T.iK];lia
 obtain⟨alT,htp,hb6⟩:=id hrun
 have hsp:=abp b [`K] [u]
 obtain⟨n1,n2⟩:=aaI (spT b [`K] [u]) `A
 have z9:(9000000:Nat)<=sizeLine:=`B
 have el:(Str.ofString "out ").length=4/\(Str.ofString "told ").length=5/\(Str.ofString " ").length=1:=`D
 obtain⟨el1,el2,el3⟩:=el
 refine dW (fun v=>[some `G,some (.ref p),some (v2),some (v3),some (.int (b:Int)),some (v),none,none,none,none,none,none,none,none,none]) (fun _=>rfl) (fun v H'=>Same H5 H'/\v=.str (tx (aV [32] ps))) (fun R r=>⟨_,rfl,v2,ws,ps,rfl,t25,hts,bws.le `A `A,fun H6 S6=>r _ _ ⟨S6,rfl⟩⟩) (fun v5 H6 h6=>?_)
 obtain⟨S6,rfl⟩:=h6
 refine dW (fun v=>[some `G,some (.ref p),some (v2),some (v3),some (.int (b:Int)),some (.str (tx (aV [32] ps))),some (v),none,none,none,none,none,none,none,none]) (fun _=>rfl) (fun v H'=>Same H6 H'/\v=.str (tx u.wr)) (fun R r=>⟨_,rfl,v3,u,rfl,t35.mono (.of S6),`A,`A,fun H7 S7=>r _ _ ⟨S7,rfl⟩⟩) (fun v6 H7 h7=>?_)
 obtain⟨S7,rfl⟩:=h7
 have S57:=S6.trans S7
 refine⟨_,rfl,_,rfl,_,rfl,v2,v3,`K,u,b,rfl,t25.mono (.of S57),t35.mono (.of S57),alT,fun p' v' H8 S8 hp tv=>⟨p',_,rfl,hp,rfl,_,_,rfl,_,_,rfl,_,_,rfl,rfl,?_⟩⟩
 dsimp only[gName,ab7]
 have S58:=S57.trans S8
 refine dW (fun v=>[some `G,some (.ref p),some (v2),some (v3),some (.int (b:Int)),some (.str (tx (aV [32] ps))),some (.str (tx u.wr)),some (.str (iz b [`K] [u])),some (v'),some (nv (spT b [`K] [u])),some (v),none,none,none,none]) (fun _=>rfl) (fun v H'=>H'=H8/\v=.str (Str.ofString "out "++Str.ofString (toString ((spT b [`K] [u]:Nat):Int)))) (fun R r=>⟨_,rfl,_,rfl,n1,_,_,rfl,rfl,by show(Str.ofString "out ").length+(Str.ofString (toString ((spT b [`K] [u]:Nat):Int))).length<=_;lia,r _ _ ⟨rfl,rfl⟩⟩) (fun v9 H9 h9=>?_)
 obtain⟨rfl,rfl⟩:=h9
 refine aj2 (fun v=>[some `G,some (.ref p),some (v2),some (v3),some (.int (b:Int)),some (.str (tx (aV [32] ps))),some (.str (tx u.wr)),some (.str (iz b [`K] [u])),some (v'),some (nv (spT b [`K] [u])),some (v),none,none,none,none]) (fun _=>rfl) (fun v H'=>Same H9 H'/\v=.str (Nh b `K u)) _ rfl (fun v10 H10 h10=>?_) (fun A B' hA hB=>⟨_,rfl,rfl,_,rfl,ite2 (fun h=>hA _ fun R r=>?_) (fun h=>hB _ ⟨Same.refl _,?_⟩)⟩)
 rotate_left
 ·have ew:iz b [`K] [u]=Od:=V.str.inj (of_decide_eq_true h)
  have hwl:(tx (lB b [`K] [u]).wr).length<=7000000:=by rw[bR,T.iK];lia
  refine⟨_,rfl,v',_,rfl,tv,`A,htp,fun H10 S10=>⟨_,_,rfl,rfl,`A,_,_,rfl,rfl,by rw[str_len];lia,_,rfl,_,rfl,n1,_,_,rfl,rfl,by rw[str_len,str_len];show _+(Str.ofString (toString ((spT b [`K] [u]:Nat):Int))).length<=_;lia,r _ _ ⟨S10,?_⟩⟩⟩
  unfold Nh
  rw[if_pos ew]
 ·unfold Nh
  rw[if_neg (fun z=>h (by rw[z];exact decide_eq_true rfl))]
 obtain⟨S10,rfl⟩:=h10
 have aq6:=S58.trans S10
 generalize apq:Nh b `K u=due
 have ask:∀{vs:`F}{H:Hp}{Q:VK}{E:XK},vs=[.str (tx (aV [32] ps)),.str (tx u.wr),.int (b:Int)]->(∀q H',`L->SqT K H' q [.str due,.non]->Q (.ref q) H')->QB K cX cT vs H Q E:=fun e k=>⟨_,_,b,e,.inr (.inr ⟨ws,u,tis,rfl,`A,hrun,fun q H' S hq=>k q H' S (by rw[<-apq];exact hq)⟩)⟩
 refine⟨_,rfl,_,rfl,_,rfl,?_⟩
 dsimp only[tNil,List.cons_append,List.nil_append]
 refine(ask rfl fun q1 H11 S11 hq1=>⟨_,rfl,(by show 2<=sizeLine;decide),fun q2 g2=>⟨q1,q2,_,_,rfl,rfl,eU (.new g2) hq1,SqT.of upd_same,_,rfl,gC (by rw[beq_self_eq_true];rfl) ?_⟩⟩)
 dsimp only[tNext]
 have agM:=aq6.trans (S11.trans (same_new g2 (.tup [.str due,.non])))
 have D11:=D5.same agM
 generalize upd H11 q2 (.tup [.str due,.non])=H12 at agM D11
 have amc:=t35.mono (K:=K) (.of agM)
 have hzs:(aV [32] ps).length<=sizeLine:=jR `A
 have hzu:u.wr.length<=sizeLine:=jR `A
 refine dW (fun v=>[some `G,some (.ref p),some (v2),some (v3),some (.int (b:Int)),some (.str (tx (aV [32] ps))),some (.str (tx u.wr)),some (.str (iz b [`K] [u])),some (v'),some (nv (spT b [`K] [u])),some (.str due),some (v),none,none,none]) (fun _=>rfl) (fun v H'=>∃n:Nat,v=.int (n:Int)/\n<=(aV [32] ps).length/\Dr p H12 H') (fun R r=>⟨_,rfl,_,rfl,_,rfl,by rw[bR];exact hzs,_,_,rfl,rfl,p,_,rfl,`A,D11.bW,fun i H13 i0 i1 D13=>r _ _ ⟨i.toNat,by rw[Int.toNat_of_nonneg i0],by rw[bR]at i1;lia,D13⟩⟩) (fun v11 H13 h13=>?_)
 obtain⟨n,rfl,hn,D13⟩:=h13
 have cl:∀lo hi,(pB (aV [32] ps) lo hi).length<=8000000:=fun lo hi=>Nat.le_trans (Nq _ lo hi) hjl
 have clu:∀lo hi,(pB u.wr lo hi).length<=40000:=fun lo hi=>Nat.le_trans (Nq _ lo hi) hul
 refine dW (fun v=>[some `G,some (.ref p),some (v2),some (v3),some (.int (b:Int)),some (.str (tx (aV [32] ps))),some (.str (tx u.wr)),some (.str (iz b [`K] [u])),some (v'),some (nv (spT b [`K] [u])),some (.str due),some (.int (n:Int)),some (v),none,none]) (fun _=>rfl) (fun v H'=>Dr p H12 H'/\∀H,yh K H v) (fun R r=>⟨_,rfl,_,rfl,_,rfl,_,rfl,hzs,(by show 8<=sizeLine;decide),fun l8 g8=>⟨_,rfl,p,8,rfl,`B,(D13.same (same_new g8 _)).bW,fun i H14 i0 i1 D14=>?_⟩⟩) (fun v12 H14 h14=>?_)
 ·have Dl:=D13.same (same_new g8 (.lst [V.str (PySem.Str.ofString "#"),V.str (PySem.Str.ofString "A"),V.str (PySem.Str.ofString " "),V.str (PySem.Str.ofString "0"),V.str (PySem.Str.ofString "("),V.str (PySem.Str.ofString ")"),V.str (PySem.Str.ofString " "),V.str (PySem.Str.ofString "|")]))
  have hlp:l8≠p:=fun z=>by obtain⟨ms,e⟩:=D13.bW;rw[z,e]at g8;cases g8
  have hl8:=D14.keep l8 _ hlp (upd_same (H:=H13) (a:=l8))
  rw[aja]at hl8
  have hlt:i.toNat<sgT.length:=by show i.toNat<8;lia
  have eg:=List.getElem?_eq_getElem hlt
  have hsg:=ajb _ (List.getElem_mem hlt)
  generalize sgT[i.toNat]=s at eg hsg
  refine⟨l8,_,_,_,rfl,rfl,SqL.of hl8,(by rw[show i=((i.toNat:Nat):Int)by lia];exact atI_nat (by rw[List.getElem?_map,eg];rfl)),_,_,rfl,rfl,?_,_,rfl,_,rfl,_,rfl,_,rfl,hzs,_,_,rfl,rfl,?_,r _ _ ⟨Dl.trans D14,fun H=>?_⟩⟩
  ·rw[bR,bR];exact jR (by have:=cl none (some (n:Int));rw[List.length_singleton];lia)
  ·rw[cO,bR,bR];exact jR (by rw[Np,Fq,List.length_append,List.length_take,List.length_drop,List.length_singleton];lia)
  ·rw[cO,cO,Np,Fq,List.append_assoc]
   exact K8 hts bws hn hsg K H
 obtain⟨D14,aqz⟩:=h14
 have D514:=D11.trans D14
 refine dW (fun v=>[some `G,some (.ref p),some (v2),some (v3),some (.int (b:Int)),some (.str (tx (aV [32] ps))),some (.str (tx u.wr)),some (.str (iz b [`K] [u])),some (v'),some (nv (spT b [`K] [u])),some (.str due),some (.int (n:Int)),some (v12),some (v),none]) (fun _=>rfl) (fun v H'=>∃m:Nat,v=.int (m:Int)/\Dr p H12 H') (fun R r=>⟨_,rfl,_,rfl,_,rfl,by rw[bR];exact hzu,_,_,rfl,rfl,p,_,rfl,`A,D14.bW,fun i H15 i0 i1 D15=>r _ _ ⟨i.toNat,by rw[Int.toNat_of_nonneg i0],D14.trans D15⟩⟩) (fun v13 H15 h15=>?_)
 obtain⟨m,rfl,D15⟩:=h15
 refine dW (fun v=>[some `G,some (.ref p),some (v2),some (v3),some (.int (b:Int)),some (.str (tx (aV [32] ps))),some (.str (tx u.wr)),some (.str (iz b [`K] [u])),some (v'),some (nv (spT b [`K] [u])),some (.str due),some (.int (n:Int)),some (v12),some (.int (m:Int)),some (v)]) (fun _=>rfl) (fun v H'=>Dr p H12 H'/\∀H,JR K H v) (fun R r=>⟨_,rfl,_,rfl,_,rfl,_,rfl,hzu,(by show 4<=sizeLine;decide),fun l8 g8=>⟨_,rfl,p,4,rfl,`B,(D15.same (same_new g8 _)).bW,fun i H16 i0 i1 D16=>?_⟩⟩) (fun v14 H16 h16=>?_)
 ·have Dl:=D15.same (same_new g8 (.lst [V.str (PySem.Str.ofString "("),V.str (PySem.Str.ofString ")"),V.str (PySem.Str.ofString " "),V.str (PySem.Str.ofString "x")]))
  have hlp:l8≠p:=fun z=>by obtain⟨ms,e⟩:=D15.bW;rw[z,e]at g8;cases g8
  have hl8:=D16.keep l8 _ hlp (upd_same (H:=H15) (a:=l8))
  rw[ajc]at hl8
  have hlt:i.toNat<sgR.length:=by show i.toNat<4;lia
  have eg:=List.getElem?_eq_getElem hlt
  have hsg:=ajd _ (List.getElem_mem hlt)
  generalize sgR[i.toNat]=s at eg hsg
  refine⟨l8,_,_,_,rfl,rfl,SqL.of hl8,(by rw[show i=((i.toNat:Nat):Int)by lia];exact atI_nat (by rw[List.getElem?_map,eg];rfl)),_,_,rfl,rfl,?_,_,rfl,_,rfl,_,rfl,_,rfl,hzu,_,_,rfl,rfl,?_,r _ _ ⟨Dl.trans D16,fun H=>?_⟩⟩
  ·rw[bR,bR];exact jR (by have:=clu none (some (m:Int));rw[List.length_singleton];lia)
  ·rw[cO,bR,bR];exact jR (by have:=clu none (some (m:Int));have:=clu (some (m:Int)) none;rw[List.length_append,List.length_singleton];lia)
  ·rw[cO,cO,Np,Fq,List.append_assoc]
   exact K6 u `A m hsg K H
 obtain⟨D16,bad2⟩:=h16
 refine aaQ (fun σ' H'=>∃(vb vt:V),σ'=[some `G,some (.ref p),some (v2),some (v3),some (.int (b:Int)),some (.str (tx (aV [32] ps))),some (.str (tx u.wr)),some (.str (iz b [`K] [u])),some (v'),some (nv (spT b [`K] [u])),some (.str due),some (.int (n:Int)),some (vb),some (.int (m:Int)),some (vt)]/\(∀H,Same H' H->yh K H vb)/\∀H,Same H' H->JR K H vt) (fun σ8 H8 h8=>?_) (fun N hN=>?_)
 rotate_left
 ·refine⟨_,rfl,p,4,rfl,`B,D16.bW,fun i H17 i0 i1 D17=>⟨rfl,_,rfl,ite2 (fun _=>?_) (fun _=>hN _ _ ⟨_,_,rfl,fun H _=>aqz H,fun H _=>bad2 H⟩)⟩⟩
  have ac2:=D16.trans D17
  have hone:(Str.ofString " ":Str)=tx [32]:=K1
  refine dW (fun v=>[some `G,some (.ref p),some (v2),some (v3),some (.int (b:Int)),some (.str (tx (aV [32] ps))),some (.str (tx u.wr)),some (.str (iz b [`K] [u])),some (v'),some (nv (spT b [`K] [u])),some (.str due),some (.int (n:Int)),some (v),some (.int (m:Int)),some (v14)]) (fun _=>rfl) (fun v H'=>Dr p H12 H'/\∀H,Dr p H' H->yh K H v) (fun R r=>⟨`R,fun p1 g1=>⟨_,rfl,_,_,rfl,rfl,by rw[hone,bR,bR];exact jR (by rw[List.length_singleton];lia),_,rfl,_,_,rfl,rfl,by rw[hone,bR,bR];exact jR (by rw[List.length_singleton];lia),(by show 5<=sizeLine;decide),fun l5 g5=>⟨_,rfl,p,5,rfl,`B,((ac2.same (same_new g1 _)).same (same_new g5 _)).bW,fun j H18 j0 j1 D18=>?_⟩⟩⟩) (fun vb H18 h18=>?_)
  ·rw[hone,cO,cO]at D18
   have Dp:=ac2.same (same_new g1 (.tup []))
   have hpp:p1≠p:=fun z=>by obtain⟨ms,e⟩:=ac2.bW;rw[z,e]at g1;cases g1
   have hlp:l5≠p:=fun z=>by obtain⟨ms,e⟩:=Dp.bW;rw[z,e]at g5;cases g5
   have hl5:=D18.keep l5 _ hlp (upd_same (a:=l5))
   have hp1:=D18.keep p1 _ hpp ((same_new g5 _) _ _ (upd_same (H:=H17) (a:=p1) (o:=.tup [])))
   have Dl:=Dp.same (same_new g5 (.lst [V.non,V.int 7,V.ref p1,V.str (tx ([32]++aV [32] ps)),V.str (tx (aV [32] ps++[32]))]))
   have DD:=Dl.trans D18
   have b0':=K8 hts bws (n:=0) (s:=32) `R (.inr rfl) K
   have b1':=K8 hts bws (n:=(aV [32] ps).length) (s:=32) `P (.inr rfl) K
   rw[List.take_zero,List.drop_zero,List.nil_append]at b0'
   rw[List.take_length,List.drop_length]at b1'
   have hj5:j=0\/j=1\/j=2\/j=3\/j=4:=`A
   rcases hj5 with rfl|rfl|rfl|rfl|rfl
   ·exact⟨l5,_,_,_,rfl,rfl,SqL.of hl5,atI_nat (j:=0) rfl,r _ _ ⟨DD,fun H _=>.inr Pa.1⟩⟩
   ·exact⟨l5,_,_,_,rfl,rfl,SqL.of hl5,atI_nat (j:=1) rfl,r _ _ ⟨DD,fun H _=>.inr (Pa.2 7)⟩⟩
   ·exact⟨l5,_,_,_,rfl,rfl,SqL.of hl5,atI_nat (j:=2) rfl,r _ _ ⟨DD,fun H D=>.inr ⟨_,TyOf.tup (D.keep p1 _ hpp hp1),by rfl⟩⟩⟩
   ·exact⟨l5,_,_,_,rfl,rfl,SqL.of hl5,atI_nat (j:=3) rfl,r _ _ ⟨DD,fun H _=>b0' H⟩⟩
   ·exact⟨l5,_,_,_,rfl,rfl,SqL.of hl5,atI_nat (j:=4) rfl,r _ _ ⟨DD,fun H _=>b1' H⟩⟩
  obtain⟨D18,bb⟩:=h18
  have amb:=amc.mono (K:=K) (D18.kt D11.bW)
  refine⟨_,rfl,_,rfl,_,_,rfl,rfl,by rw[hone,bR,bR];exact jR (by rw[List.length_singleton];lia),_,rfl,_,_,rfl,rfl,by rw[hone,bR,bR];exact jR (by rw[List.length_singleton];lia),(by show 5<=sizeLine;decide),fun l5 g5=>⟨_,rfl,p,5,rfl,`B,(D18.same (same_new g5 _)).bW,fun j H19 j0 j1 D19=>?_⟩⟩
  have Dl:=(Dr.refl D18.bW).same (same_new g5 (.lst [V.non,V.int 7,v3,V.str (Str.ofString " "++tx u.wr),V.str (tx u.wr++Str.ofString " ")]))
  have hlp:l5≠p:=fun z=>by obtain⟨ms,e⟩:=D18.bW;rw[z,e]at g5;cases g5
  have hl5:=D19.keep l5 _ hlp (upd_same (a:=l5))
  have DD:=Dl.trans D19
  have ama:=amb.mono (K:=K) (DD.kt D18.bW)
  have tbb:∀H,Same H19 H->yh K H vb:=fun H S=>bb H (DD.same S)
  have b0':=K6 u `A 0 (s:=32) (.inr (.inr (.inl rfl))) K
  have b1':=K6 u `A u.wr.length (s:=32) (.inr (.inr (.inl rfl))) K
  rw[List.take_zero,List.drop_zero,List.nil_append]at b0'
  rw[List.take_length,List.drop_length]at b1'
  have hj5:j=0\/j=1\/j=2\/j=3\/j=4:=`A
  rcases hj5 with rfl|rfl|rfl|rfl|rfl
  ·exact⟨l5,_,_,_,rfl,rfl,SqL.of hl5,atI_nat (j:=0) rfl,hN _ _ ⟨_,_,rfl,tbb,fun H _=>.inr fun _ _=>.inl Pa.1⟩⟩
  ·exact⟨l5,_,_,_,rfl,rfl,SqL.of hl5,atI_nat (j:=1) rfl,hN _ _ ⟨_,_,rfl,tbb,fun H _=>.inr fun _ _=>.inl (Pa.2 7)⟩⟩
  ·exact⟨l5,_,_,_,rfl,rfl,SqL.of hl5,atI_nat (j:=2) rfl,hN _ _ ⟨_,_,rfl,tbb,fun H S=>.inr (adl (ama.mono (.of S)))⟩⟩
  ·refine⟨l5,_,_,_,rfl,rfl,SqL.of hl5,atI_nat (j:=3) rfl,hN _ _ ⟨_,_,rfl,tbb,fun H _=>?_⟩⟩
   rw[hone,cO]
   exact b0' H
  ·refine⟨l5,_,_,_,rfl,rfl,SqL.of hl5,atI_nat (j:=4) rfl,hN _ _ ⟨_,_,rfl,tbb,fun H _=>?_⟩⟩
   rw[hone,cO]
   exact b1' H
 obtain⟨vb,vt,rfl,bt,btt⟩:=h8
 refine⟨_,rfl,_,rfl,_,rfl,vb,_,b,rfl,.inl ⟨bt _ (Same.refl _),fun p1 e1 H20 S20 hp1 he1=>⟨p1,e1,cX,true,rfl,hp1,he1,.inl ⟨rfl,rfl⟩,fun H21 S21=>⟨_,rfl,iteF ?_⟩⟩⟩⟩
 dsimp only[tNext]
 have Sa:=S20.trans S21
 refine⟨_,rfl,_,rfl,_,rfl,_,vt,b,rfl,.inr (.inl ⟨ws,tis,btt _ Sa,fun p1 e1 H22 S22 hp1 he1=>⟨p1,e1,cT,false,rfl,hp1,he1,.inr ⟨rfl,rfl⟩,fun H23 S23=>⟨_,rfl,iteF ?_⟩⟩⟩)⟩
 dsimp only[tNext]
 have Sb:=Sa.trans (S22.trans S23)
 refine⟨_,rfl,_,rfl,_,rfl,vb,vt,b,rfl,.inl ⟨bt _ Sb,fun p1 e1 H24 S24 hp1 he1=>⟨p1,e1,cX,true,rfl,hp1,he1,.inl ⟨rfl,rfl⟩,fun H25 S25=>⟨_,rfl,iteF ?_⟩⟩⟩⟩
 dsimp only[tNext]
 refine⟨_,rfl,_,rfl,_,rfl,?_⟩
 dsimp only[tNil,List.cons_append,List.nil_append]
 refine(ask rfl fun q1 H26 S26 hq1=>⟨_,rfl,(by show 2<=sizeLine;decide),fun q2 g2=>⟨q1,q2,_,_,rfl,rfl,eU (.new g2) hq1,SqT.of upd_same,?_⟩⟩)
 rw[beq_self_eq_true]
 exact q _
end
abbrev fj:Stmt:=inClass (top 40) 0
abbrev gJ:Stmt:=inClass (top 41) 0
abbrev iB:Stmt:=inClass (top 65) 0
abbrev gb:Stmt:=inClass (top 65) 1
abbrev iC:Stmt:=inClass (top 66) 0
abbrev jg:Stmt:=inClass (top 66) 1
abbrev gK:Stmt:=inClass (top 67) 0
abbrev fV:Stmt:=inClass (top 68) 0
abbrev jE:Stmt:=inClass (top 68) 1
abbrev pQ:Stmt:=inClass (top 68) 2
abbrev lH:Stmt:=inClass (top 68) 3
abbrev nq:Stmt:=inClass (top 68) 5
abbrev nu:Stmt:=inClass (top 68) 6
theorem Gn:FnScope ["self","item","behind"] ["self","item","behind"] (defScope fj):=`Y
theorem J1:FnScope ["self","tree","place"] ["self","tree","place"] (defScope gJ):=`Y
theorem Le:FnScope ["self","tree"] ["self","tree"] (defScope iB):=`Y
theorem Hi:FnScope ["self"] ["self"] (defScope gb):=`Y
theorem Lg:FnScope ["self","tree"] ["self","tree"] (defScope iC):=`Y
theorem Oj:FnScope ["self","place"] ["self","place"] (defScope jg):=`Y
theorem J2:FnScope ["self","text"] ["self","text"] (defScope gK):=`Y
theorem Lf:FnScope ["self","stand","budget"] ["self","stand","budget"] (defScope fV):=`Y
theorem QZ:FnScope ["self"] ["self"] (defScope jE):=`Y
theorem Y9:FnScope ["self"] ["self"] (defScope pQ):=`Y
theorem U0:FnScope ["self"] ["self"] (defScope lH):=`Y
theorem oE:FnScope ["self","going","word","step","taken"] ["self"] (defScope nq):=`Y
theorem Wa:FnScope ["self","step","going","word"] ["self","step","going","word"] (defScope nu):=`Y
section
variable{P:Program}{w:World}{K:W.Frag}{mg:`U}{base:Heap}{f:Addr}{fd:FuncData}{ao aB aF aH aL aJ:Addr}
theorem Gu(O:`i)
  (F:Fun K "__init__" "Fronted.__init__" fj f fd):FnOk P w K mg base CX0 31 f fd ["self","item","behind"] (VP ao):=by
 refine okQ F Gn `W `V
 ·obtain⟨o,dx,y,z,rfl,_⟩:=h
  rfl
 obtain⟨o,dx,y,z,rfl,ho,q⟩:=h
 refine⟨_,(aq (cM (qv 0) (qv 1) rfl)
   (au (cM (qv 0) (qv 2) rfl))),?_⟩
 refine⟨_,rfl,_,rfl,o,ao,dx,_,rfl,ho,O.rF.cl,O.fi,by show 0<1000;decide,?_⟩
 refine⟨_,rfl,_,rfl,o,ao,dx,_,rfl,upd_same,O.rF.cl,O.fb,by show 1<1000;decide,?_⟩
 have e:upd (upd H o (.ins ao dx (putF "item" y []))) o (.ins ao dx (putF "behind" z (putF "item" y [])))=upd H o (.ins ao dx (fF y z)):=by
  rw[j_,Om `D]
  rfl
 exact e▸q
theorem J5(O:`i)
  (F:Fun K "__init__" "Later.__init__" gJ f fd):FnOk P w K mg base CX0 31 f fd ["self","tree","place"] (VN aB):=by
 refine okQ F J1 `W `V
 ·obtain⟨o,dx,v,p,rfl,_⟩:=h
  rfl
 obtain⟨o,dx,v,p,rfl,ho,q⟩:=h
 refine⟨_,(aq (cM (qv 0) (qv 1) rfl)
   (au (cM (qv 0) (qv 2) rfl))),?_⟩
 refine⟨_,rfl,_,rfl,o,aB,dx,_,rfl,ho,O.rL.cl,O.lt,by show 0<1000;decide,?_⟩
 refine⟨_,rfl,_,rfl,o,aB,dx,_,rfl,upd_same,O.rL.cl,O.lp,by show 1<1000;decide,?_⟩
 have e:upd (upd H o (.ins aB dx (putF "tree" v []))) o (.ins aB dx (putF "place" (.int (p:Int)) (putF "tree" v [])))=upd H o (.ins aB dx (fL v p)):=by
  rw[j_,Om `D]
  rfl
 exact e▸q
theorem J6(O:`i)
  (F:Fun K "__init__" "Going.__init__" gK f fd):FnOk P w K mg base CX0 31 f fd ["self","text"] (K_ aL):=by
 refine okQ F J2 `W `V
 ·obtain⟨o,dx,a,rfl,_⟩:=h
  rfl
 obtain⟨o,dx,a,rfl,ho,q⟩:=h
 refine⟨_,(aq (cM (qv 0) (qv 1) rfl)
   (au (cM (qv 0) aN rfl))),?_⟩
 refine⟨_,rfl,_,rfl,o,aL,dx,_,rfl,ho,O.IW,O.gt,by show 0<1000;decide,?_⟩
 refine⟨_,rfl,o,aL,dx,_,rfl,upd_same,O.IW,O.gp,by show 1<1000;decide,?_⟩
 have e:upd (upd H o (.ins aL dx (putF "text" `G []))) o (.ins aL dx (putF "place" (.int 0) (putF "text" `G [])))=upd H o (.ins aL dx (fG a 0)):=by
  rw[j_,Om `D]
  rfl
 exact e▸q
theorem LK(O:`i)
  (F:Fun K "__init__" "Text.__init__" iC f fd):FnOk P w K mg base CX0 31 f fd ["self","tree"] (K9 aH):=by
 refine okQ F Lg `W `V
 ·obtain⟨o,dx,v,rfl,_⟩:=h
  rfl
 obtain⟨o,dx,v,rfl,ho,q⟩:=h
 refine⟨_,(aq (cM (qv 0) (qv 1) rfl)
   (au (cM (qv 0) (d7 ak) rfl))),?_⟩
 refine⟨_,rfl,_,rfl,o,aH,dx,_,rfl,ho,O.cText,O.tt,by show 0<1000;decide,?_⟩
 refine⟨`R,fun W g=>⟨_,rfl,o,aH,dx,putF "tree" v [],rfl,?_,O.cText,O.tw,by show 1<1000;decide,?_⟩⟩
 ·have nW:o≠W:=ne_of_none (h:=upd_same) g
  rw[upd_ne nW,upd_same]
 ·have nW:o≠W:=ne_of_none (h:=upd_same) g
  have hW:H W=none:=by rw[upd_ne (Ne.symm nW)]at g;exact g
  have e:upd (upd (upd H o (.ins aH dx (putF "tree" v []))) W (.lst [])) o (.ins aH dx (putF "words" (.ref W) (putF "tree" v [])))=upd (upd H W (.lst [])) o (.ins aH dx (fT v W)):=by
   rw[al2 nW (H:=H),j_,Om `D]
   rfl
  exact e▸q W hW
theorem Zg(O:`i)(bf:mg "isinstance"=none)
  {dO:Addr}{dM:FuncData}(qw:Fun K "first" "first" jD dO dM)(qu:FnOk P w K mg base CX0 31 dO dM ["tree"] (xG K))(qj:Binds K dM ["tree"] [])(pZ:mg "first"=some (.ref dO))
  (dF:mg "Fronted"=some (.ref ao))
  (jJ:mg "Later"=some (.ref aB))
  (F:Fun K "first_of" "first_of" mj f fd):FnOk P w K mg base CX0 32 f fd ["row"] (T9 K ao aB aF aH):=by
 refine okQ F Y6 `W `V
 ·obtain⟨x,t,M,H₀,rfl,_⟩:=h
  rfl
 obtain⟨x,t,M,H₀,rfl,g,hx,hd,q⟩:=h
 refine⟨_,(aq (bB (dU (bV jx rfl bf cG (aj (qv 0) (aj (aU (v:=.ref ao) rfl dF rfl) ak)))) (au (aQ `Z)) aX)
   (aq (bB (dU (bV jx rfl bf cG (aj (qv 0) (aj (aU (v:=.ref aB) rfl jJ rfl) ak)))) (au (aQ (cH g_ `Z `Z (fun _ _=>rfl)))) aX)
   (au (aQ (aO qu hr rfl pZ qw.kp qj .nil pass0 (aj (qv 0) ak)))))),?_⟩
 rcases hx.cases g with hu|⟨a,dx,y,z,u,ts,rfl,ha,rfl,hy,hz⟩
 ·rcases hu with ht|⟨a,dx,v,ts,p,rfl,ha,hv,hp,hl,rfl⟩
  ·obtain⟨b,ys,rfl,hb,_⟩:=uV ht
   refine⟨_,rfl,_,ao,false,rfl,.inr ⟨b,ys,rfl,hb,O.iTF⟩,_,rfl,iteF ?_⟩
   refine⟨_,rfl,_,aB,false,rfl,.inr ⟨b,ys,rfl,hb,O.iTL⟩,_,rfl,iteF ?_⟩
   exact⟨_,rfl,_,t,rfl,ht,hd,fun y H' S h=>q y H' S (.inl h)⟩
  ·refine⟨_,rfl,_,ao,false,rfl,.inl ⟨_,O.rL.ty ha,O.iLF⟩,_,rfl,iteF ?_⟩
   refine⟨_,rfl,_,aB,true,rfl,.inl ⟨_,O.rL.ty ha,O.iLL⟩,_,rfl,iteT ?_⟩
   obtain⟨b,ys,rfl,hb,hys⟩:=bZ.mp hv
   obtain⟨w',ew⟩:∃w',ts[p]?=some w':=⟨_,List.getElem?_eq_getElem hp⟩
   obtain⟨x',ex,tx'⟩:=hys.at ew
   refine⟨_,rfl,a,aB,dx,_,_,rfl,ha,O.rL.cl,O.lt,dJ _ _ _,_,rfl,a,aB,dx,_,_,rfl,ha,O.rL.cl,O.lp,(cg `D _ _).trans (dJ _ _ _),b,ys,p,x',rfl,rfl,hb,atI_nat ex,q _ _ (Same.refl _) (.inl ?_)⟩
   have:ats (T.node (ts.drop p)).kids 0=w':=by
    show((ts.drop p)[0]?).getD leaf=w'
    rw[List.getElem?_drop,Nat.add_zero,ew]
    rfl
   rw[this]
   exact tx'
 ·refine⟨_,rfl,_,ao,true,rfl,.inl ⟨_,O.rF.ty ha,O.iFF⟩,_,rfl,iteT ?_⟩
  exact⟨_,rfl,a,ao,dx,_,_,rfl,ha,O.rF.cl,O.fi,dJ _ _ _,q _ _ (Same.refl _) hy⟩
theorem afV(O:`i)(cL:mg "len"=none)
  (jJ:mg "Later"=some (.ref aB))
  {gP:Addr}{zy:FuncData}(N7:Mk K aB gP)(N8:FnOk P w K mg base CX0 31 gP zy ["self","tree","place"] (VN aB))(rA:Binds K zy ["self","tree","place"] [])
  (F:Fun K "later" "later" uf f fd):FnOk P w K mg base CX0 33 f fd ["tree","place"] (aan K ao aB aF aH):=by
 refine okQ F afo `W `V
 ·obtain⟨x,ts,p,M,H₀,rfl,_⟩:=h
  rfl
 obtain⟨x,ts,p,M,H₀,rfl,g,ht,hl,q⟩:=h
 refine⟨_,(au (aQ (oN (aR Vj (qv 1) (bV call_len_seq rfl cL jy (aj (qv 0) ak)) `N) (jG N7 N8 hr rfl jJ rA .nil pass0 (aj (qv 0) (aj (qv 1) ak))) (bA ak)))),?_⟩
 obtain⟨b,ys,rfl,hb,hys⟩:=bZ.mp ht
 have hyl:=hys.length
 refine⟨_,rfl,_,rfl,b,ys,rfl,.inr hb,_,_,rfl,rfl,_,rfl,ite2 (fun h=>?_) (fun h=>?_)⟩
 ·have hp:p<ts.length:=by have:=of_decide_eq_true h;lia
  refine⟨_,rfl,_,rfl,fun o dx ho hd ne=>⟨o,dx,_,p,rfl,iD,?_⟩⟩
  have S:=jh (C:=aB) (fs:=fL (.ref b) p) ho hd ne
  have e:upd (mkO H o dx aB []) o (.ins aB dx (fL (.ref b) p))=mkO H o dx aB (fL (.ref b) p):=aep
  have fin:Q (.ref o) (mkO H o dx aB (fL (.ref b) p)):=q _ (setM M o (.row (.node (ts.drop p)))) _ S (.role g S ho ⟨_,iD⟩ (.inr ⟨dx,_,ts,p,iD,ht.mono (.of S),hp,hl,rfl⟩)) (.inr ⟨o,rfl,dD⟩)
  exact⟨rfl,e▸fin⟩
 ·have hp:ts.length<=p:=by
   have:¬((p:Int)<(ys.length:Int)):=fun z=>h (decide_eq_true z)
   lia
  refine⟨`R,fun p1 g1=>?_⟩
  obtain⟨S1,t1⟩:=dh (K:=K) (ts:=[]) g1 (bJ.mpr rfl)
  refine q _ M _ S1 (.grow g S1) (.inl ?_)
  rw[List.drop_eq_nil_of_le hp]
  exact t1
theorem abM(O:`i)(bf:mg "isinstance"=none)
  {Tg:Addr}{Sv:FuncData}(aa6:Fun K "later" "later" uf Tg Sv)(aa2:FnOk P w K mg base CX0 33 Tg Sv ["tree","place"] (aan K ao aB aF aH))(aaZ:Binds K Sv ["tree","place"] [])(aaL:mg "later"=some (.ref Tg))
  (dF:mg "Fronted"=some (.ref ao))
  (jJ:mg "Later"=some (.ref aB))
  (F:Fun K "rest_of" "rest_of" oJ f fd):FnOk P w K mg base CX0 34 f fd ["row"] (VG K ao aB aF aH):=by
 refine okQ F abw `W `V
 ·obtain⟨x,t,M,H₀,rfl,_⟩:=h
  rfl
 obtain⟨x,t,M,H₀,rfl,g,hx,hd,hk,q⟩:=h
 refine⟨_,(aq (bB (dU (bV jx rfl bf cG (aj (qv 0) (aj (aU (v:=.ref ao) rfl dF rfl) ak)))) (au (aQ `Z)) aX)
   (aq (bB (dU (bV jx rfl bf cG (aj (qv 0) (aj (aU (v:=.ref aB) rfl jJ rfl) ak)))) (au (aQ (aO aa2 hr rfl aaL aa6.kp aaZ .nil pass0 (aj `Z (aj (bD op_add `Z aN) ak))))) aX)
   (au (aQ (aO aa2 hr rfl aaL aa6.kp aaZ .nil pass0 (aj (qv 0) (aj aN ak))))))),?_⟩
 rcases hx.cases g with hu|⟨a,dx,y,z,u,ts,rfl,ha,rfl,hy,hz⟩
 ·rcases hu with ht|⟨a,dx,v,ts,p,rfl,ha,hv,hp,hl,rfl⟩
  ·obtain⟨b,ys,rfl,hb,_⟩:=uV ht
   refine⟨_,rfl,_,ao,false,rfl,.inr ⟨b,ys,rfl,hb,O.iTF⟩,_,rfl,iteF ?_⟩
   refine⟨_,rfl,_,aB,false,rfl,.inr ⟨b,ys,rfl,hb,O.iTL⟩,_,rfl,iteF ?_⟩
   exact⟨_,rfl,_,t.kids,1,M,H₀,rfl,g,nU ht,hk,fun y M' H' S G h=>q y M' H' S G h⟩
  ·refine⟨_,rfl,_,ao,false,rfl,.inl ⟨_,O.rL.ty ha,O.iLF⟩,_,rfl,iteF ?_⟩
   refine⟨_,rfl,_,aB,true,rfl,.inl ⟨_,O.rL.ty ha,O.iLL⟩,_,rfl,iteT ?_⟩
   refine⟨_,rfl,a,aB,dx,_,_,rfl,ha,O.rL.cl,O.lt,dJ _ _ _,_,rfl,a,aB,dx,_,_,rfl,ha,O.rL.cl,O.lp,(cg `D _ _).trans (dJ _ _ _),_,_,rfl,rfl,v,ts,p+1,M,H₀,rfl,g,hv,hl,fun y M' H' S G h=>q y M' H' S G ?_⟩
   have:aK (T.node (ts.drop p))=.node (ts.drop (p+1)):=by
    show T.node ((ts.drop p).drop 1)=_
    rw[List.drop_drop]
   rw[this]
   exact h
 ·refine⟨_,rfl,_,ao,true,rfl,.inl ⟨_,O.rF.ty ha,O.iFF⟩,_,rfl,iteT ?_⟩
  exact⟨_,rfl,a,ao,dx,_,_,rfl,ha,O.rF.cl,O.fb,(cg `D _ _).trans (dJ _ _ _),q _ M _ (Same.refl _) (.refl g) hz⟩
theorem WT(O:`i)(bf:mg "isinstance"=none)
  (jJ:mg "Later"=some (.ref aB))
  (F:Fun K "unfronted" "unfronted" iV f fd):FnOk P w K mg base CX0 31 f fd ["row"] (VD K aB):=by
 refine okQ F V7 `W `V
 ·obtain⟨x,t,rfl,_⟩:=h
  rfl
 obtain⟨x,t,rfl,hu,q⟩:=h
 refine⟨_,(aq (bB (dU (bV jx rfl bf cG (aj (qv 0) (aj (aU (v:=.ref aB) rfl jJ rfl) ak)))) (au (aQ (jo Jv `Z (jF `Z) nA))) aX)
   (au (aQ (qv 0)))),?_⟩
 rcases hu with ht|⟨a,dx,v,ts,p,rfl,ha,hv,hp,hl,rfl⟩
 ·obtain⟨b,ys,rfl,hb,_⟩:=uV ht
  refine⟨_,rfl,_,aB,false,rfl,.inr ⟨b,ys,rfl,hb,O.iTL⟩,_,rfl,iteF ?_⟩
  exact⟨_,rfl,q _ _ (Same.refl _) ht⟩
 ·refine⟨_,rfl,_,aB,true,rfl,.inl ⟨_,O.rL.ty ha,O.iLL⟩,_,rfl,iteT ?_⟩
  obtain⟨b,ys,rfl,hb,hys⟩:=bZ.mp hv
  refine⟨_,rfl,a,aB,dx,_,_,rfl,ha,O.rL.cl,O.lt,dJ _ _ _,_,rfl,a,aB,dx,_,_,rfl,ha,O.rL.cl,O.lp,(cg `D _ _).trans (dJ _ _ _),(p:Int),rfl,b,ys,rfl,hb,fun p1 H1 S1 h1=>q _ _ S1 (qM h1 ?_)⟩
  rw[Ye]
  exact(hys.drop p).mono (.of S1)
theorem Ox(O:`i)(bf:mg "isinstance"=none)
  {k_:Addr}{kO:FuncData}(Bx:Fun K "unfronted" "unfronted" iV k_ kO)(Bv:FnOk P w K mg base CX0 31 k_ kO ["row"] (VD K aB))(Bj:Binds K kO ["row"] [])(Ar:mg "unfronted"=some (.ref k_))
  (dF:mg "Fronted"=some (.ref ao))
  (F:Fun K "parts_within" "parts_within" gG f fd):FnOk P w K mg base CX0 32 f fd ["row","most"] (VH K ao aB aF aH):=by
 refine okQ F jT `W `V
 ·obtain⟨x,t,M,H₀,m,rfl,_⟩:=h
  rfl
 obtain⟨x,t,M,H₀,m,rfl,g,hx,hz,q⟩:=h
 refine⟨_,(aq (bC (i:=2) jT.nd rfl `O (d7 (aj (qv 0) ak)))
   (aq (bC (i:=3) jT.nd rfl `O aN)
   (aq (uq PassesOwn.never (QW.pt (Cv (yN (qv 2) (fun _=>rfl)) (xP (aR alM (qv 3) (qv 1) `N)))) (aq (bC (i:=4) jT.nd rfl `O (mV PySem.F.plainAttrs_list PySem.F.slot_list_pop PySem.F.type_list_pop jZ (qv 2)))
   (au (bB (dU (bV jx rfl bf cG (aj (qv 4) (aj (aU (v:=.ref ao) rfl dF rfl) ak)))) (aq (bO (cI PySem.F.plainAttrs_list PySem.F.slot_list_append PySem.F.type_list_append bN (qv 2) (aj (bh (qv 4) rfl) ak)))
   (au (bO (cI PySem.F.plainAttrs_list PySem.F.slot_list_append PySem.F.type_list_append bN (qv 2) (aj (bh (qv 4) rfl) ak))))) (aq (adZ (i:=3) jT.nd rfl `O aN HX)
   (au (bO (cI PySem.F.plainAttrs_list PySem.F.slot_list_extend PySem.F.type_list_extend aaK (qv 2) (aj (aO Bv hr rfl Ar Bx.kp Bj .nil pass0 (aj (qv 4) ak)) ak)))))))))
   (au (aQ (qv 3)))))),?_⟩
 refine⟨_,rfl,`d,fun p hp=>?_⟩
 refine⟨WPW K M H x m t.parts p,⟨_,[x],[t],0,none,rfl,same_new hp _,upd_same,aP.one (hx.mono (Kt.new hp) fun _ _ z=>z),by rw[T.aD,T.aZ];lia,rfl⟩,?_⟩
 rintro μ σ H'⟨ys,ts,c,o,rfl,S,hl,ha,hc,rfl⟩
 refine⟨_,rfl,!ys.isEmpty,.inl ⟨ys,SqL.of hl,rfl⟩,ite2 (fun hb=>?_) (fun hb=>?_)⟩
 ·refine⟨_,rfl,_,rfl,_,_,rfl,rfl,_,rfl,ite2 (fun hle=>?_) (fun hle=>?_)⟩
  ·have hne:ys≠[]:=by rintro rfl;exact absurd hb `B
   obtain⟨u,ts0,y,rfl,hy,ha0,hu⟩:=aeR ha hne
   have hyl:=ha0.length
   rw[List.length_reverse]at hyl
   have hpp:=T.aD u ts0
   have hlp:=T.cB ts0
   have hup:=T.cZ u
   refine⟨fun σ' H'=>∃m',m'<2*T.aG (u::ts0)-(u::ts0).length/\WPW K M H x m t.parts p m' σ' H',fun _ _ h=>h,?_⟩
   refine⟨_,rfl,.inl ⟨rfl,_,SqL.of hl⟩,p,ys,y,rfl,rfl,hl,hy,?_⟩
   have k1:=Ki.lst (o:=.lst ys.dropLast) hl
   have g1:=g.grow S
   rcases hu.cases g1 with hu|⟨a,dx,y1,z1,u1,ts1,rfl,ha1,rfl,hy1,hz1⟩
   ·have hu1:=hu.mono k1
    refine⟨_,rfl,y,ao,false,rfl,hu1.ajJ O,_,rfl,iteF ?_⟩
    refine⟨_,rfl,_,_,rfl,rfl,?_⟩
    refine⟨_,rfl,.inl ⟨rfl,_,SqL.of upd_same⟩,_,rfl,y,u,rfl,hu1,fun y2 H2 S2 t2=>?_⟩
    obtain⟨b2,zs2,rfl,hb2,hz2⟩:=uV t2
    have hzl:=hz2.length
    have hk:=T.cU u
    have hlk:=T.cB u.kids
    have h2:=S2 _ _ (upd_same (H:=H') (a:=p) (o:=.lst ys.dropLast))
    refine⟨p,b2,ys.dropLast,zs2,rfl,rfl,h2,hb2,Cm `A,?_⟩
    refine⟨_,?_,ys.dropLast++zs2,u.kids.reverse++ts0,c+1,_,rfl,?_,upd_same,?_,?_,rfl⟩
    ·rw[T.bM,Ec,List.length_append,List.length_reverse,hpp]
     show _<2*_-(ts0.length+1)
     lia
    ·exact bQ ((bQ S hp).trans S2) hp
    ·rw[List.reverse_append,List.reverse_reverse]
     exact aP.append (gj (k1.kt.trans ((Kt.of S2).trans (Kt.lst h2))) ha0) (gj (Kt.lst h2) (Qt hz2))
    ·rw[T.bM,Ec]
     lia
   ·refine⟨_,rfl,_,ao,true,rfl,.inl ⟨_,O.rF.ty (k1.ins _ _ _ _ ha1),O.iFF⟩,_,rfl,iteT ?_⟩
    refine⟨_,rfl,.inl ⟨rfl,_,SqL.of upd_same⟩,_,rfl,a,ao,dx,_,_,rfl,k1.ins _ _ _ _ ha1,O.rF.cl,O.fi,dJ _ _ _,p,_,_,rfl,rfl,upd_same,eZ `A,?_⟩
    rw[j_]
    have k2:=Ki.lst (o:=.lst (ys.dropLast++[y1])) hl
    refine⟨_,rfl,.inl ⟨rfl,_,SqL.of upd_same⟩,_,rfl,a,ao,dx,_,_,rfl,k2.ins _ _ _ _ ha1,O.rF.cl,O.fb,(cg `D _ _).trans (dJ _ _ _),p,_,_,rfl,rfl,upd_same,eZ (by rw[List.length_append,List.length_singleton];lia),?_⟩
    rw[j_]
    have k3:=Ki.lst (o:=.lst (ys.dropLast++[y1]++[z1])) hl
    have e1:=T.aM (u1::ts1)
    have e2:=T.aD u1 ts1
    have e3:=T.aM ts1
    refine⟨_,?_,ys.dropLast++[y1]++[z1],.node ts1::u1::ts0,c,_,rfl,bQ S hp,upd_same,?_,?_,rfl⟩
    ·rw[T.aD,T.aD,hpp]
     show _-(ts0.length+1+1)<_-(ts0.length+1)
     lia
    ·rw[List.reverse_cons,List.reverse_cons]
     exact aP.append (aP.append (gj k3.kt ha0) (aP.one (hy1.mono k3.kt fun _ _ z=>z))) (aP.one (hz1.mono k3.kt fun _ _ z=>z))
    ·rw[T.aD,T.aD]
     lia
  ·have hle':m<c:=by
    have:¬((c:Int)<=(m:Int)):=fun z=>hle (decide_eq_true z)
    lia
   exact⟨_,rfl,q c _ S (fun z=>`A) (fun _=>hle')⟩
 ·have hys:ys=[]:=by
   cases ys with
   |nil=>rfl
   |cons _ _=>exact absurd rfl hb
  subst hys
  have hts:=all_nil ha
  subst hts
  rw[T.aZ]at hc
  exact iteF ⟨_,rfl,q c _ S (fun _=>`A) (fun _=>`A)⟩
theorem abO(O:`i)(bf:mg "isinstance"=none)(cN:mg "tuple"=none)
  {k_:Addr}{kO:FuncData}(Bx:Fun K "unfronted" "unfronted" iV k_ kO)(Bv:FnOk P w K mg base CX0 31 k_ kO ["row"] (VD K aB))(Bj:Binds K kO ["row"] [])(Ar:mg "unfronted"=some (.ref k_))
  (dF:mg "Fronted"=some (.ref ao))
  (F:Fun K "as_tree" "as_tree" oK f fd):FnOk P w K mg base CX0 32 f fd ["row"] (V0 K ao aB aF aH):=by
 refine okQ F rW `W `V
 ·obtain⟨x,t,M,H₀,rfl,_⟩:=h
  rfl
 obtain⟨x,t,M,H₀,rfl,g,hx,hz,q⟩:=h
 refine⟨_,(aq (bC (i:=1) rW.nd rfl `O (d7 (aj (qv 0) ak)))
   (aq (bC (i:=2) rW.nd rfl `O (d7 (aj (d7 ak) ak)))
   (au (uq PassesOwn.never (dU pU) (aq (bC (i:=3) rW.nd rfl `O (cH ix_list (qv 1) (qK lF aN) (fun _ _=>rfl)))
   (aq (bB (dU (bV jx rfl bf cG (aj (qv 3) (aj (aU (v:=.ref ao) rfl dF rfl) ak)))) (aq (Wm (bh (qv 3) rfl) (ajm (qv 1) (qK lF aN) set_list))
   (aq (bO (cI PySem.F.plainAttrs_list PySem.F.slot_list_append PySem.F.type_list_append bN (qv 1) (aj (bh (qv 3) rfl) ak)))
   (aq (bO (cI PySem.F.plainAttrs_list PySem.F.slot_list_append PySem.F.type_list_append bN (qv 2) (aj (d7 ak) ak)))
   (au Za)))) aX)
   (aq (bO (mV PySem.F.plainAttrs_list PySem.F.slot_list_pop PySem.F.type_list_pop jZ (qv 1)))
   (aq (bC (i:=4) rW.nd rfl `O (bD eV (jY gw rfl cN pD (aj (mV PySem.F.plainAttrs_list PySem.F.slot_list_pop PySem.F.type_list_pop jZ (qv 2)) ak)) (aO Bv hr rfl Ar Bx.kp Bj .nil pass0 (aj (qv 3) ak))))
   (aq (bB (yO (yN (qv 1) (fun _=>rfl))) (au (aQ (qv 4))) aX)
   (au (bO (cI PySem.F.plainAttrs_list PySem.F.slot_list_append PySem.F.type_list_append bN (cH ix_list (qv 2) (qK lF aN) (fun _ _=>rfl)) (aj (qv 4) ak))))))))))))),?_⟩
 refine⟨_,rfl,`d,fun pa ga=>?_⟩
 refine⟨`R,fun pq gq=>⟨`d,fun pt gt=>?_⟩⟩
 have Sa:=same_new ga (.lst [x])
 have Sq:=same_new gq (.lst [])
 have St:=same_new gt (.lst [V.ref pq])
 have n1:pa≠pq:=ne_of_none (h:=upd_same) gq
 have hpa:upd (upd H pa (.lst [x])) pq (.lst []) pa=some (.lst [x]):=by rw[upd_ne n1,upd_same]
 have n2:pa≠pt:=ne_of_none hpa gt
 have n3:pq≠pt:=ne_of_none (h:=upd_same) gt
 have a0:AsT K H (upd (upd (upd H pa (.lst [x])) pq (.lst [])) pt (.lst [V.ref pq])) pt pa [V.ref pq] [[]] [x]:=by
  have hq0:H pq=none:=Sa.free gq
  have ht0:H pt=none:=(Sa.trans Sq).free gt
  refine⟨⟨ht0,(Sa.trans Sq).trans St,upd_same,aP.one ⟨pq,[],rfl,hq0,by rw[upd_ne n3,upd_same],bJ.mpr rfl⟩,?_⟩,ga,by rw[upd_ne n2];exact hpa,?_⟩
  ·simp[Ne.symm n3]
  ·simp[n1,n2]
 have S0:=(Sa.trans Sq).trans St
 generalize upd (upd (upd H pa (.lst [x])) pq (.lst [])) pt (.lst [V.ref pq])=Hs at a0 S0
 refine⟨fun μ σ H'=>∃(ys zs:`F)(st:List `C)(as:`C)(o3 o4:Option V),σ=[some x,some (.ref pa),some (.ref pt),o3,o4]/\AsT K H H' pt pa ys st zs/\aP (RV K M H') as.reverse zs/\as≠[]/\st.length=as.length/\Dv st as=t/\T.aG as+(st.map List.length).sum<=t.parts/\μ=2*T.aG as-as.length,⟨_,[.ref pq],[x],[[]],[t],none,none,rfl,a0,aP.one (hx.mono (.of S0) fun _ _ z=>z),`H,rfl,by show T.node ([]++t.kids)=t;cases t;rfl,by rw[T.aD,T.aZ];show _+0<=_;lia,rfl⟩,?_⟩
 rintro μ σ H1⟨ys,zs,st,as,o3,o4,rfl,A1,ha,hne,hlen,hval,hsum,rfl⟩
 refine⟨_,rfl,iteT ?_⟩
 have apg:zs≠[]:=by
  rintro rfl
  exact hne (all_nil ha)
 obtain⟨u,as0,zs0,y,rfl,rfl,ha0,hu⟩:=mO ha apg
 have hzl:=ha0.length
 rw[List.length_reverse]at hzl
 have hpp:=T.aD u as0
 have hlp:=T.cB as0
 have hup:=T.cZ u
 have g1:=g.grow A1.rows.same
 refine⟨fun σ' H'=>∃m',m'<2*T.aG (u::as0)-(u::as0).length/\∃(ys zs:`F)(st:List `C)(as:`C)(o3 o4:Option V),σ'=[some x,some (.ref pa),some (.ref pt),o3,o4]/\AsT K H H' pt pa ys st zs/\aP (RV K M H') as.reverse zs/\as≠[]/\st.length=as.length/\Dv st as=t/\T.aG as+(st.map List.length).sum<=t.parts/\m'=2*T.aG as-as.length,fun _ _ h=>h,?_⟩
 refine⟨_,rfl,1,rfl,pa,_,_,_,rfl,rfl,SqL.of A1.at_,ji,?_⟩
 rcases hu.cases g1 with hu|⟨a,dx,y1,z1,u1,ts1,rfl,ha1,rfl,hy1,hz1⟩
 ·refine⟨_,rfl,y,ao,false,rfl,hu.ajJ O,_,rfl,iteF ?_⟩
  have hk:=T.cU u
  refine⟨_,rfl,.inl ⟨rfl,_,SqL.of A1.at_⟩,pa,_,_,rfl,rfl,A1.at_,lW _ _,?_⟩
  rw[lY]
  have k1:=Ki.lst (o:=.lst zs0) A1.at_
  have A2:AsT K H (upd H1 pa (.lst zs0)) pt pa ys st zs0:=A1.place
  generalize upd H1 pa (.lst zs0)=H2 at k1 A2
  have hu2:=hu.mono k1
  have ha2:=gj k1.kt ha0
  obtain⟨l,st0,rfl⟩:∃l st0,st=l::st0:=by
   cases st with
   |nil=>exact absurd hlen `H
   |cons l st0=>exact⟨l,st0,rfl⟩
  obtain⟨ys0,b,xs,rfl,nRb,hb,hxs,A3⟩:=A2.shut
  refine⟨_,rfl,.inl ⟨rfl,_,SqL.of A2.rows.at_⟩,pt,_,_,rfl,rfl,A2.rows.at_,lW _ _,?_⟩
  rw[lY]
  have k3:=Ki.lst (o:=.lst ys0) A2.rows.at_
  have hb3:upd H2 pt (.lst ys0) b=some (.lst xs):=by rw[upd_ne (Ne.symm nRb)];exact hb
  have aj4:=hxs.mono k3.kt
  generalize upd H2 pt (.lst ys0)=H3 at k3 A3 hb3 aj4
  refine⟨b,xs,rfl,.inl ⟨SqL.of hb3,fun p4 g4=>?_⟩⟩
  obtain⟨S4,t4⟩:=dh (K:=K) g4 aj4
  have hu4:=(hu2.mono k3).mono (Ki.of S4)
  have hsl:(List.map List.length (l::st0)).sum=l.length+(List.map List.length st0).sum:=rfl
  refine⟨_,rfl,y,u,rfl,hu4,fun y5 H5 S5 t5=>?_⟩
  have t5':TR K H5 (.node u.kids) y5:=nU t5
  have hlk:=T.cB u.kids
  refine El (t4.mono (.of S5)) t5' (Cm `A) (fun z6 H6 S6 t6=>?_)
  have S36:=S4.trans (S5.trans S6)
  have A6:=A3.grow S36
  refine⟨_,rfl,!zs0.isEmpty,.inl ⟨zs0,SqL.of A6.at_,rfl⟩,ite2 (fun he=>?_) (fun he=>?_)⟩
  ·have hz0:zs0=[]:=by
    cases zs0 with
    |nil=>rfl
    |cons _ _=>exact absurd he `H
   subst hz0
   have:=all_nil ha0
   subst this
   have hs0:st0=[]:=by
    have:st0.length+1=0+1:=hlen
    exact List.length_eq_zero_iff.mp `A
   subst hs0
   refine⟨_,rfl,q _ _ A6.rows.same ?_⟩
   rw[<-hval]
   exact t6
  ·have hz0:zs0≠[]:=by rintro rfl;exact he rfl
   have agr:as0≠[]:=by
    rintro rfl
    cases ha0
    exact hz0 rfl
   obtain⟨l',st1,rfl⟩:∃l' st1,st0=l'::st1:=by
    cases st0 with
    |nil=>
     have h1:0+1=as0.length+1:=hlen
     exact absurd (List.length_eq_zero_iff.mp `A) agr
    |cons l' st1=>exact⟨l',st1,rfl⟩
   obtain⟨ys1,c,ws,rfl,hc,hwl,A7⟩:=A6.add t6
   have aq_:(List.map List.length (l'::st1)).sum=l'.length+(List.map List.length st1).sum:=rfl
   refine⟨_,rfl,1,rfl,pt,_,_,_,rfl,rfl,SqL.of A6.rows.at_,ji,.inl ⟨rfl,_,SqL.of hc⟩,_,rfl,c,_,_,rfl,rfl,hc,eZ `A,?_⟩
   refine⟨_,?_,_,zs0,_,as0,_,_,rfl,A7,?_,agr,?_,?_,?_,rfl⟩
   ·rw[hpp]
    show _<_-(as0.length+1)
    lia
   ·exact gj (k3.kt.trans ((Kt.of S36).trans (Kt.lst hc))) ha2
   ·have h1:st1.length+1+1=as0.length+1:=hlen
    show st1.length+1=as0.length
    lia
   ·rw[<-hval]
    cases as0 with
    |nil=>exact absurd rfl agr
    |cons _ _=>rw[Dv]
   ·show _+((l'++[_]).length+(List.map List.length st1).sum)<=_
    rw[List.length_append,List.length_singleton]
    lia
 ·have e1:=T.aM (u1::ts1)
  have e2:=T.aD u1 ts1
  have e3:=T.aM ts1
  refine⟨_,rfl,_,ao,true,rfl,.inl ⟨_,O.rF.ty ha1,O.iFF⟩,_,rfl,iteT ?_⟩
  refine⟨_,rfl,a,ao,dx,_,_,rfl,ha1,O.rF.cl,O.fb,(cg `D _ _).trans (dJ _ _ _),_,rfl,1,rfl,pa,_,-1,_,rfl,rfl,A1.at_,ais _ _,?_⟩
  rw[afj]
  have k1:=Ki.lst (o:=.lst (zs0++[z1])) A1.at_
  have A2:AsT K H (upd H1 pa (.lst (zs0++[z1]))) pt pa ys st (zs0++[z1]):=A1.place
  generalize upd H1 pa (.lst (zs0++[z1]))=H2 at k1 A2
  refine⟨_,rfl,.inl ⟨rfl,_,SqL.of A2.at_⟩,_,rfl,a,ao,dx,_,_,rfl,k1.ins _ _ _ _ ha1,O.rF.cl,O.fi,dJ _ _ _,pa,_,_,rfl,rfl,A2.at_,eZ (by rw[List.length_append,List.length_singleton];lia),?_⟩
  have k2:=Ki.lst (o:=.lst (zs0++[z1]++[y1])) A2.at_
  have A3:AsT K H (upd H2 pa (.lst (zs0++[z1]++[y1]))) pt pa ys st (zs0++[z1]++[y1]):=A2.place
  generalize upd H2 pa (.lst (zs0++[z1]++[y1]))=H3 at k2 A3
  refine⟨_,rfl,.inl ⟨rfl,_,SqL.of A3.rows.at_⟩,`R,fun pn gn=>⟨pt,_,_,rfl,rfl,same_new gn _ _ _ A3.rows.at_,?_,?_⟩⟩
  ·have hyl:=A3.rows.rows.length
   rw[List.length_reverse]at hyl
   exact eZ (by
    have h1:st.length=as0.length+1:=hlen
    lia)
  ·have A4:=A3.enter gn
   have k4:Kt H3 (upd (upd H3 pn (.lst [])) pt (.lst (ys++[.ref pn]))):=(Kt.new gn).trans (Kt.lst (same_new gn _ _ _ A3.rows.at_))
   have k:=k1.kt.trans (k2.kt.trans k4)
   obtain⟨l,st0,rfl⟩:∃l st0,st=l::st0:=by
    cases st with
    |nil=>exact absurd hlen `H
    |cons l st0=>exact⟨l,st0,rfl⟩
   refine⟨_,?_,_,_,_,u1::.node ts1::as0,_,_,rfl,A4,?_,`H,?_,?_,?_,rfl⟩
   ·rw[T.aD,T.aD,hpp]
    show _-(as0.length+1+1)<_-(as0.length+1)
    lia
   ·rw[List.reverse_cons,List.reverse_cons]
    exact aP.append (aP.append (gj k ha0) (aP.one (hz1.mono k fun _ _ z=>z))) (aP.one (hy1.mono k fun _ _ z=>z))
   ·have h1:(l::st0).length=as0.length+1:=hlen
    show(l::st0).length+1=as0.length+1+1
    rw[h1]
   ·rw[ae6]
    exact hval
   ·have e9:(List.map List.length ([]::l::st0)).sum=(List.map List.length (l::st0)).sum:=`H
    rw[T.aD,T.aD,e9]
    lia
end
section
variable{P:Program}{w:World}{K:W.Frag}{mg:`U}{base:Heap}{f:Addr}{fd:FuncData}{ao aB aF aH aL aJ:Addr}
theorem Zf(O:`i){eY:Value}(fB:mg "FORK"=some eY)(dR:RelV (.int 7) eY){lU:Value}(rG:mg "FORK_NO"=some lU)(lV:RelV (.int 8) lU){jQ:Value}(p8:mg "FORK_YES"=some jQ)(jX:RelV (.int 7) jQ){dB:Value}(dI:mg "WHILE"=some dB)(cY:RelV (.int 8) dB){oh:Value}(yZ:mg "WHILE_PAST"=some oh)(oM:RelV (.int 10) oh){gW:Value}(lM:mg "WHILE_INTO"=some gW)(gZ:RelV (.int 9) gW){fO:Value}(iQ:mg "NAMELESS"=some fO)(fX:RelV (.int 9) fO){vC:Value}(HN:mg "NO_WORD"=some vC)(vL:RelV (.int 11) vC)
  (F:Fun K "place_of" "place_of" jV f fd):FnOk P w K mg base CX0 31 f fd ["sort","top"] (aal K ao aB aF aH):=by
 refine okQ F Y5 `W `V
 ·obtain⟨k,x,t,M,H₀,rfl,_⟩:=h
  rfl
 obtain⟨k,x,t,M,H₀,rfl,g,hx,hd,q⟩:=h
 have hE:=hr.un
 have hE:(A.deeper (envOfC "place_of" (defScope jV) s.heap.objs.size f cdv)).units+401<cLine:=`A
 refine⟨_,(aq (bB (aR op_eq (qv 0) (aU (v:=.int 7) rfl fB dR) `N) (au (aQ (oN (aR (WM hE) (qv 1) (bA ak) `N) (aU (v:=.int 8) rfl rG lV) (aU (v:=.int 7) rfl p8 jX)))) aX)
   (aq (bB (aR op_eq (qv 0) (aU (v:=.int 8) rfl dI cY) `N) (au (aQ (oN (aR (WM hE) (qv 1) (bA ak) `N) (aU (v:=.int 10) rfl yZ oM) (aU (v:=.int 9) rfl lM gZ)))) aX)
   (au (aQ (oN (aR op_eq (qv 0) (aU (v:=.int 9) rfl iQ fX) `N) (aU (v:=.int 11) rfl HN vL) (qv 0)))))),?_⟩
 refine⟨_,rfl,rfl,_,rfl,ite2 (fun h7=>?_) (fun h7=>?_)⟩
 ·have h7:k=7:=by have:=V.int.inj (of_decide_eq_true h7);lia
  refine⟨_,rfl,`R,fun p gp=>aaR O g hx `A gp ⟨_,rfl,ite2 (fun he=>?_) (fun he=>?_)⟩⟩
  ·have:=q _ (same_new gp (.tup []))
   rw[sE,if_pos h7,if_pos (of_decide_eq_true he)]at this
   exact this
  ·have:=q _ (same_new gp (.tup []))
   rw[sE,if_pos h7,if_neg (fun z=>he (decide_eq_true z))]at this
   exact this
 have h7:¬k=7:=fun z=>h7 (decide_eq_true (by rw[z];rfl))
 refine⟨_,rfl,rfl,_,rfl,ite2 (fun h8=>?_) (fun h8=>?_)⟩
 ·have h8:k=8:=by have:=V.int.inj (of_decide_eq_true h8);lia
  refine⟨_,rfl,`R,fun p gp=>aaR O g hx `A gp ⟨_,rfl,ite2 (fun he=>?_) (fun he=>?_)⟩⟩
  ·have:=q _ (same_new gp (.tup []))
   rw[sE,if_neg h7,if_pos h8,if_pos (of_decide_eq_true he)]at this
   exact this
  ·have:=q _ (same_new gp (.tup []))
   rw[sE,if_neg h7,if_pos h8,if_neg (fun z=>he (decide_eq_true z))]at this
   exact this
 have h8:¬k=8:=fun z=>h8 (decide_eq_true (by rw[z];rfl))
 refine⟨_,rfl,rfl,_,rfl,ite2 (fun h9=>?_) (fun h9=>?_)⟩
 ·have h9:k=9:=by have:=V.int.inj (of_decide_eq_true h9);lia
  have:=q _ (Same.refl H)
  rw[sE,if_neg h7,if_neg h8,if_pos h9]at this
  exact this
 ·have h9:¬k=9:=fun z=>h9 (decide_eq_true (by rw[z];rfl))
  have:=q _ (Same.refl H)
  rw[sE,if_neg h7,if_neg h8,if_neg h9]at this
  exact⟨_,rfl,this⟩
theorem Lz(O:`i){eY:Value}(fB:mg "FORK"=some eY)(dR:RelV (.int 7) eY){dB:Value}(dI:mg "WHILE"=some dB)(cY:RelV (.int 8) dB)
  {iw:Addr}{ig:FuncData}(vZ:Fun K "sort_of" "sort_of" jU iw ig)(vY:FnOk P w K mg base CX0 33 iw ig ["word"] (Ju K))(vX:Binds K ig ["word"] [])(vP:mg "sort_of"=some (.ref iw))
  {iy:Addr}{iu:FuncData}(rO:Fun K "load_of" "load_of" jW iy iu)(rN:FnOk P w K mg base CX0 33 iy iu ["word"] (vH K))(rK:Binds K iu ["word"] [])(rD:mg "load_of"=some (.ref iy))
  {dO:Addr}{dM:FuncData}(qw:Fun K "first" "first" jD dO dM)(qu:FnOk P w K mg base CX0 33 dO dM ["tree"] (xG K))(qj:Binds K dM ["tree"] [])(pZ:mg "first"=some (.ref dO))
  {pH:Addr}{pA:FuncData}(Jm:Fun K "rest" "rest" rZ pH pA)(Jk:FnOk P w K mg base CX0 33 pH pA ["tree"] (vH K))(Ja:Binds K pA ["tree"] [])(HF:mg "rest"=some (.ref pH))
  (vQ:mg "Text"=some (.ref aH))
  {dj:Addr}{j8:FuncData}(rM:Mk K aH dj)(j9:FnOk P w K mg base CX0 32 dj j8 ["self","tree"] (K9 aH))(dY:Binds K j8 ["self","tree"] [])
  (F:Fun K "__init__" "Word.__init__" iB f fd):FnOk P w K mg base CX0 34 f fd ["self","tree"] (Vz K ao aB aF aH):=by
 refine okQ F Le `W `V
 ·obtain⟨o,dx,x,w',M,H₀,rfl,_⟩:=h
  rfl
 obtain⟨o,dx,x,w',M,H₀,rfl,g,hm,ho,hx,hd,q⟩:=h
 refine⟨_,(aq (cM (qv 0) (aO vY hr rfl vP vZ.kp vX .nil pass0 (aj (qv 1) ak)) rfl)
   (aq (cM (qv 0) (aO rN hr rfl rD rO.kp rK .nil pass0 (aj (qv 1) ak)) rfl)
   (aq (cM (qv 0) jq rfl)
   (aq (cM (qv 0) jq rfl)
   (aq (cM (qv 0) jq rfl)
   (aq (cM (qv 0) jq rfl)
   (aq (bB (aR op_eq `Z (aU (v:=.int 7) rfl fB dR) `N) (aq (cM (qv 0) (jG rM j9 hr rfl vQ dY .nil pass0 (aj (aO qu hr rfl pZ qw.kp qj .nil pass0 (aj `Z ak)) ak)) rfl)
   (au (cM (qv 0) (jG rM j9 hr rfl vQ dY .nil pass0 (aj (aO Jk hr rfl HF Jm.kp Ja .nil pass0 (aj `Z ak)) ak)) rfl))) aX)
   (au (bB (aR op_eq `Z (aU (v:=.int 8) rfl dI cY) `N) (au (cM (qv 0) (jG rM j9 hr rfl vQ dY .nil pass0 (aj `Z ak)) rfl)) aX))))))))),?_⟩
 refine⟨_,rfl,x,w',rfl,hx,hd,fun H1 S1=>⟨_,rfl,o,aF,dx,[],rfl,S1 _ _ ho,O.fJ,O.wk,by show 0<1000;decide,?_⟩⟩
 rw[pd1]
 have kt{u:HO}{Ha:Hp}{fs:`c}(h:Ha o=some (.ins aF dx fs)):Kt Ha (upd Ha o u):=Kt.ins h
 have G1:Go K ao aB aF aH (fun a=>a=o) M M H₀ H (upd H1 o (.ins aF dx (d1 (.int (aA w':Nat))))):=Go.oU (.grow g S1) hm rfl (kt (S1 _ _ ho))
 have O1:∀c u,H c=some u->c≠o->upd H1 o (.ins aF dx (d1 (.int (aA w':Nat)))) c=some u:=fun c u h n=>by rw[upd_ne n];exact S1 _ _ h
 have h1:upd H1 o (.ins aF dx (d1 (.int (aA w':Nat)))) o=some (.ins aF dx (d1 (.int (aA w':Nat)))):=upd_same
 generalize upd H1 o (.ins aF dx (d1 (.int (aA w':Nat))))=H2 at G1 O1 h1
 refine⟨_,rfl,x,w',rfl,hx.mono G1.kt,fun v H3 S3 tv=>⟨_,rfl,o,aF,dx,_,rfl,S3 _ _ h1,O.fJ,O.wl,by show 1<1000;decide,?_⟩⟩
 rw[pd2]
 have G3:Go K ao aB aF aH (fun a=>a=o) M M H₀ H (upd H3 o (.ins aF dx (d2 (.int (aA w':Nat)) v))):=Go.oU (G1.trans (.grow G1.gh S3)) hm rfl (kt (S3 _ _ h1))
 have O3:∀c u,H c=some u->c≠o->upd H3 o (.ins aF dx (d2 (.int (aA w':Nat)) v)) c=some u:=fun c u h n=>by rw[upd_ne n];exact S3 _ _ (O1 c u h n)
 have tv3:TR K (upd H3 o (.ins aF dx (d2 (.int (aA w':Nat)) v))) (aK w') v:=tv.mono (kt (S3 _ _ h1))
 have h3:upd H3 o (.ins aF dx (d2 (.int (aA w':Nat)) v)) o=some (.ins aF dx (d2 (.int (aA w':Nat)) v)):=upd_same
 generalize upd H3 o (.ins aF dx (d2 (.int (aA w':Nat)) v))=H4 at G3 O3 tv3 h3
 refine⟨_,rfl,o,aF,dx,_,rfl,h3,O.fJ,O.wy,by show 2<1000;decide,?_⟩
 rw[pd3]
 refine⟨_,rfl,o,aF,dx,_,rfl,upd_same,O.fJ,O.wn,by show 3<1000;decide,?_⟩
 rw[pd4,j_]
 refine⟨_,rfl,o,aF,dx,_,rfl,upd_same,O.fJ,O.wb,by show 4<1000;decide,?_⟩
 rw[pd5,j_]
 refine⟨_,rfl,o,aF,dx,_,rfl,upd_same,O.fJ,O.ws,by show 5<1000;decide,?_⟩
 rw[pd6,j_]
 have G5:Go K ao aB aF aH (fun a=>a=o) M M H₀ H (upd H4 o (.ins aF dx (fD (aA w') v .non .non .non .non))):=Go.oU G3 hm rfl (kt h3)
 have O5:∀c u,H c=some u->c≠o->upd H4 o (.ins aF dx (fD (aA w') v .non .non .non .non)) c=some u:=fun c u h n=>by rw[upd_ne n];exact O3 c u h n
 have tv5:TR K (upd H4 o (.ins aF dx (fD (aA w') v .non .non .non .non))) (aK w') v:=tv3.mono (kt h3)
 have h5:upd H4 o (.ins aF dx (fD (aA w') v .non .non .non .non)) o=some (.ins aF dx (fD (aA w') v .non .non .non .non)):=upd_same
 generalize upd H4 o (.ins aF dx (fD (aA w') v .non .non .non .non))=H5 at G5 O5 tv5 h5
 have hdl:(aK w').deep<=400:=Nat.le_trans (aeE w') hd
 dsimp only
 refine ab2 (fun σ' H'=>σ'=[some (.ref o),some x]/\∃M' y n,Go K ao aB aF aH (fun a=>a=o) M M' H₀ H H'/\(∀c u,H c=some u->c≠o->H' c=some u)/\H' o=some (.ins aF dx (fD (aA w') v y n .non .non))/\TR K H' (aK w') v/\W7 M' w' y n) (fun σ' H6 h6=>?_) (fun A' B' hA hB=>⟨_,rfl,o,aF,dx,_,_,rfl,h5,O.fJ,O.wk,ldK,rfl,_,rfl,ite2 (fun h=>hA _ fun N hN=>?_) (fun h=>hB _ ⟨rfl,M,.non,.non,G5,O5,h5,tv5,fun z=>absurd (decide_eq_true (by rw[z];rfl)) h⟩)⟩)
 rotate_left
 ·refine⟨_,rfl,o,aF,dx,_,_,rfl,h5,O.fJ,O.wl,ldL,v,aK w',rfl,tv5,hdl,fun y1 H6 S6 t6=>fun a da ha hda ne=>⟨a,da,y1,rfl,iD,fun W hW=>⟨rfl,_,rfl,o,aF,dx,fD (aA w') v .non .non .non .non,rfl,?_,O.fJ,O.wy,by show 6<1000;decide,?_⟩⟩⟩
  ·obtain⟨_,S7,_⟩:=Go.newText (X:=fun a=>a=o) (G5.trans (.grow G5.gh S6)).gh t6 ha hda ne hW
   exact S7 _ _ (S6 _ _ h5)
  obtain⟨G7,S7,tx7⟩:=Go.newText (X:=fun a=>a=o) (G5.trans (.grow G5.gh S6)).gh t6 ha hda ne hW
  have h7:=S7 _ _ (S6 _ _ h5)
  have tv7:=tv5.mono (.of (S6.trans S7))
  have O7:∀c u,H c=some u->c≠o->_:=fun c u h n=>S7 _ _ (S6 _ _ (O5 c u h n))
  have G7':=(G5.trans (.grow G5.gh S6)).trans G7
  generalize setM (setM M W (.words (ats (aK w').kids 0))) a (.text (ats (aK w').kids 0) W)=M7 at G7' tx7
  generalize upd (upd (mkO H6 a da aH []) W (.lst [])) a (.ins aH da (fT y1 W))=H7 at S7 h7 tv7 O7 G7'
  rw[pdY]
  have hm7:=G7'.ext _ _ hm
  have G8:=G7'.oU (u:=.ins aF dx (fD (aA w') v `G .non .non .non)) hm7 rfl (kt h7)
  have O8:∀c u,H c=some u->c≠o->upd H7 o (.ins aF dx (fD (aA w') v `G .non .non .non)) c=some u:=fun c u h n=>by rw[upd_ne n];exact O7 c u h n
  have tv8:=tv7.mono (kt (u:=.ins aF dx (fD (aA w') v `G .non .non .non)) h7)
  have h8:upd H7 o (.ins aF dx (fD (aA w') v `G .non .non .non)) o=some (.ins aF dx (fD (aA w') v `G .non .non .non)):=upd_same
  generalize upd H7 o (.ins aF dx (fD (aA w') v `G .non .non .non))=H8 at G8 O8 tv8 h8
  refine⟨_,rfl,o,aF,dx,_,_,rfl,h8,O.fJ,O.wl,ldL,v,aK w',rfl,tv8,fun y9 H9 S9 t9=>fun c dc hc hdc ne9=>⟨c,dc,y9,rfl,iD,fun W9 hW9=>⟨rfl,_,rfl,o,aF,dx,fD (aA w') v `G .non .non .non,rfl,?_,O.fJ,O.wn,by show 6<1000;decide,?_⟩⟩⟩
  ·obtain⟨_,S10,_⟩:=Go.newText (X:=fun a=>a=o) (G8.trans (.grow G8.gh S9)).gh t9 hc hdc ne9 hW9
   exact S10 _ _ (S9 _ _ h8)
  obtain⟨G10,S10,al5⟩:=Go.newText (X:=fun a=>a=o) (G8.trans (.grow G8.gh S9)).gh t9 hc hdc ne9 hW9
  have h10:=S10 _ _ (S9 _ _ h8)
  have al6:=tv8.mono (.of (S9.trans S10))
  have alf:=(G8.trans (.grow G8.gh S9)).trans G10
  have al4:=tx7.ext G10
  rw[pdN]
  refine hN _ _ ⟨rfl,_,`G,.ref c,alf.oU (alf.ext _ _ hm) rfl (kt h10),fun c u h n=>by rw[upd_ne n];exact S10 _ _ (S9 _ _ (O8 c u h n)),upd_same,al6.mono (kt h10),fun _=>⟨a,c,rfl,rfl,al4,al5⟩⟩
 obtain⟨rfl,M6,y6,n6,G6,O6,h6,tv6,w7⟩:=h6
 refine⟨_,rfl,o,aF,dx,_,_,rfl,h6,O.fJ,O.wk,ldK,rfl,_,rfl,ite2 (fun h=>?_) (fun h=>?_)⟩
 ·refine⟨_,rfl,o,aF,dx,_,_,rfl,h6,O.fJ,O.wl,ldL,fun a da ha hda ne=>⟨a,da,v,rfl,iD,fun W hW=>⟨rfl,_,rfl,o,aF,dx,fD (aA w') v y6 n6 .non .non,rfl,?_,O.fJ,O.wb,by show 6<1000;decide,?_⟩⟩⟩
  ·obtain⟨_,S7,_⟩:=Go.newText (X:=fun a=>a=o) G6.gh tv6 ha hda ne hW
   exact S7 _ _ h6
  obtain⟨G7,S7,tx7⟩:=Go.newText (X:=fun a=>a=o) G6.gh tv6 ha hda ne hW
  have h7:=S7 _ _ h6
  have G7':=G6.trans G7
  rw[pdB]
  exact q _ _ v y6 n6 `G (G7'.oU (G7'.ext _ _ hm) rfl (kt h7)) (fun c u h n=>by rw[upd_ne n];exact S7 _ _ (O6 c u h n)) upd_same ((tv6.mono (.of S7)).mono (kt h7)) (fun z=>by
   obtain⟨ay,an,e1,e2,e3,e4⟩:=w7 z
   exact⟨ay,an,e1,e2,e3.ext G7,e4.ext G7⟩) (fun _=>⟨a,rfl,tx7⟩)
 ·exact q M6 H6 v y6 n6 .non G6 O6 h6 tv6 w7 (fun z=>absurd (decide_eq_true (by rw[z];rfl)) h)
theorem Hx(O:`i)
  {Tf:Addr}{Ss:FuncData}(aiV:Fun K "parts" "parts" ud Tf Ss)(aiS:FnOk P w K mg base CX0 32 Tf Ss ["tree"] (VJ K))(aiG:Binds K Ss ["tree"] [])(aii:mg "parts"=some (.ref Tf))
  (F:Fun K "body_parts" "Word.body_parts" gb f fd):FnOk P w K mg base CX0 33 f fd ["self"] (aap K ao aB aF aH):=by
 refine okQ F Hi `W `V
 ·obtain⟨b,w',M,H₀,rfl,_⟩:=h
  rfl
 obtain⟨b,w',M,H₀,rfl,g,hm,hz,q⟩:=h
 refine⟨_,(aq (bB (aR Ow `Z jq `N) (au (cM (qv 0) (aO aiS hr rfl aii aiV.kp aiG .nil pass0 (aj `Z ak)) rfl)) aX)
   (au (aQ `Z))),?_⟩
 obtain⟨dx,v,y,n,bd,sz,hb,tv,c7,c8,hs⟩:=g.ok b _ hm
 have fin:∀H' sz',Go K ao aB aF aH (fun _=>False) M M H₀ H H'->H' b=some (.ins aF dx (fD (aA w') v y n bd sz'))->sz'=.int ((aK w').parts:Nat)->tRet (tFld K (tVar 0) "size") {nx:=fun x H'=>Q .non H',rt:=Q,bk:=fun _ _=>False,ct:=fun _ _=>False} [some (.ref b)] H':=fun H' sz' G hb' e=>by
  subst e
  exact⟨_,rfl,b,aF,dx,_,_,rfl,hb',O.fJ,O.ws,ldS,q _ G⟩
 refine⟨_,rfl,b,aF,dx,_,_,rfl,hb,O.fJ,O.ws,ldS,rfl,_,rfl,ite2 (fun h=>?_) (fun h=>?_)⟩
 ·refine⟨_,rfl,b,aF,dx,_,_,rfl,hb,O.fJ,O.wl,ldL,v,aK w',rfl,tv,hz,fun H1 S1=>⟨_,rfl,b,aF,dx,_,rfl,S1 _ _ hb,O.fJ,O.ws,by show 6<1000;decide,?_⟩⟩
  rw[pdS]
  have k1:Kt H1 (upd H1 b (.ins aF dx (fD (aA w') v y n bd (.int ((aK w').parts:Nat))))):=Kt.ins (S1 _ _ hb)
  have g1:=g.grow S1
  have g2:=g1.put hm k1 ⟨dx,v,y,n,bd,_,upd_same,(tv.mono (.of S1)).mono k1,c7,c8,.inr rfl⟩
  refine fin _ _ ⟨fun _ _ z=>z,fun a ha _=>?_,(Kt.of S1).trans k1,g2,fun W t ws h1 h2=>⟨ws,?_,`P⟩⟩ upd_same rfl
  ·have:a≠b:=fun z=>by rw[z,hm]at ha;cases ha
   rw[upd_ne this]
   obtain⟨u,e⟩:=g.has a _ ha
   exact(S1 _ _ e).trans e.symm
  ·have:W≠b:=fun z=>by rw[z,hm]at h1;cases h1
   rw[upd_ne this]
   exact S1 _ _ h2
 ·rcases hs with hs|hs
  ·exact absurd (by rw[hs];rfl) h
  ·exact fin _ _ (.refl g) hb hs
theorem OD(O:`i)(cL:mg "len"=none)
  (Xh:mg "Word"=some (.ref aF))
  {iH:Addr}{z_:FuncData}(Tv:Mk K aF iH)(Qe:FnOk P w K mg base CX0 34 iH z_ ["self","tree"] (Vz K ao aB aF aH))(tR:Binds K z_ ["self","tree"] [])
  (F:Fun K "word_at" "Text.word_at" jg f fd):FnOk P w K mg base CX0 36 f fd ["self","place"] (Vw K ao aB aF aH):=by
 refine okQ F Oj `W `V
 ·obtain⟨a,t,W,p,M,H₀,ws,rfl,_⟩:=h
  rfl
 obtain⟨a,t,W,p,M,H₀,ws,rfl,g,hm,hW,hpw,arb,hd,hkl,q0,q⟩:=h
 refine⟨_,(aq (bB (aR op_eq (qv 1) (bV call_len_seq rfl cL jy (aj `Z ak)) `N) (au (aQ jq)) aX)
   (aq (bB (aR op_eq (qv 1) (bV call_len_seq rfl cL jy (aj `Z ak)) `N) (au (bO (cI PySem.F.plainAttrs_list PySem.F.slot_list_append PySem.F.type_list_append bN `Z (aj (jG Tv Qe hr rfl Xh tR .nil pass0 (aj (cH g_ `Z (qv 1) (fun _ _=>rfl)) ak)) ak)))) aX)
   (au (aQ (cH ix_list `Z (qv 1) (fun _ _=>rfl)))))),?_⟩
 obtain⟨dx,v,ha,tv,hMW⟩:=g.ok a _ hm
 obtain⟨bt,ys,rfl,hbt,hys⟩:=uV tv
 have hyl:=hys.length
 obtain⟨xs0,hW0,hl0,hit⟩:=g.ok W _ hMW
 have e0:xs0=ws:=by rw[hW]at hW0;cases hW0;rfl
 subst e0
 refine⟨_,rfl,_,rfl,a,aH,dx,_,_,rfl,ha,O.cText,O.tt,dJ _ _ _,bt,ys,rfl,.inr hbt,rfl,_,rfl,ite2 (fun h=>?_) (fun h=>?_)⟩
 ·have h:=V.int.inj (of_decide_eq_true h)
  exact q0 `A
 have hpk:p≠t.kids.length:=fun z=>h (decide_eq_true (by rw[z,<-hyl]))
 obtain⟨w',ew⟩:∃w',t.kids[p]?=some w':=⟨_,List.getElem?_eq_getElem `A⟩
 obtain⟨x',ex,tx'⟩:=hys.at ew
 have lw:List.lookup ("words":Str) (fT (.ref bt) W)=some (.ref W):=(cg `D _ _).trans (dJ _ _ _)
 dsimp only[tNext]
 refine ab2 (fun σ' H'=>σ'=[some `G,some (.int (p:Int))]/\∃M' b ws',Go K ao aB aF aH (fun _=>False) M M' H₀ H H'/\M' b=some (.word w')/\H' a=some (.ins aH dx (fT (.ref bt) W))/\H' W=some (.lst ws')/\ws'[p]?=some (.ref b)) (fun σ' H6 h6=>?_) (fun A' B' hA hB=>⟨_,rfl,_,rfl,a,aH,dx,_,_,rfl,ha,O.cText,O.tw,lw,W,xs0,rfl,.inl (SqL.of hW),rfl,_,rfl,ite2 (fun h=>hA _ fun N hN=>?_) (fun h=>hB _ ⟨rfl,?_⟩)⟩)
 ·obtain⟨rfl,M',b,ws',G,hb,ha',hW',hb'⟩:=h6
  refine⟨_,rfl,a,aH,dx,_,_,rfl,ha',O.cText,O.tw,lw,_,rfl,W,ws',p,.ref b,rfl,rfl,SqL.of hW',atI_nat hb',q w' ew b M' H6 G hb fun ws2 e2=>?_⟩
  rw[hW']at e2
  cases e2
  exact(List.getElem?_eq_some_iff.mp hb').1
 ·have hpl:p=xs0.length:=by have:=V.int.inj (of_decide_eq_true h);lia
  have dw':w'.deep<=400:=by have:=agw ew;lia
  refine⟨_,rfl,a,aH,dx,_,_,rfl,ha,O.cText,O.tw,lw,.inl ⟨rfl,_,SqL.of hW⟩,_,rfl,a,aH,dx,_,_,rfl,ha,O.cText,O.tt,dJ _ _ _,_,rfl,bt,ys,p,x',rfl,rfl,hbt,atI_nat ex,fun b db hb hdb ne=>?_⟩
  have G1:=Go.made (X:=fun _=>False) (C:=aF) (fs:=[]) g hb hdb ne
  have S1:=jh (C:=aF) (fs:=[]) hb hdb ne
  refine⟨b,db,x',w',setM M b .mine,H₀,rfl,G1.gh,dD,iD,tx'.mono (.of S1),dw',fun M' H' v1 y n bd G2 O2 h2 tv2 c7 c8=>⟨rfl,W,xs0,_,rfl,rfl,?_,eZ `A,?_⟩⟩
  ·exact O2 W _ (S1 _ _ hW) (ne_of_none hW hb)
  have hbM:M' b=some .mine:=G2.ext _ _ dD
  have nbW:W≠b:=ne_of_none hW hb
  have hW2:=O2 W _ (S1 _ _ hW) nbW
  have ha2:=O2 a _ (S1 _ _ ha) (ne_of_none ha hb)
  have apr:M' W=some (.words t):=G2.ext _ _ (G1.ext _ _ hMW)
  have nba:∀c r,M c=some r->c≠b:=fun c r hc z=>by
   obtain⟨u,e⟩:=g.has c r hc
   rw[z,hb]at e
   cases e
  have ext':∀c r,r≠.mine->M' c=some r->setM M' b (.word w') c=some r:=fun c r hr hc=>by
   rw[gF (fun z=>by rw[z,hbM]at hc;cases hc;exact hr rfl)]
   exact hc
  have g3:Gh K ao aB aF aH (setM M' b (.word w')) H₀ H':=G2.gh.role (.inr hbM) (G2.gh.new _ _ hbM) ⟨_,h2⟩ ⟨db,v1,y,n,bd,.non,h2,tv2,fun z=>by
   obtain⟨ay,an,e1,e2,⟨W1,e3⟩,W2,e4⟩:=c7 z
   exact⟨ay,an,e1,e2,⟨W1,ext' _ _ `H e3⟩,W2,ext' _ _ `H e4⟩,fun z=>by
   obtain⟨ab,e1,W1,e2⟩:=c8 z
   exact⟨ab,e1,W1,ext' _ _ `H e2⟩,.inl rfl⟩
  have k4:Kt H' (upd H' W (.lst (xs0++[.ref b]))):=Kt.lst hW2
  have g4:=g3.put (ext' _ _ `H apr) k4 ⟨xs0++[.ref b],upd_same,by rw[List.length_append,List.length_singleton];lia,fun j z hz=>by
   by_cases hj:j<xs0.length
   ·rw[List.getElem?_append_left hj]at hz
    obtain⟨c,w2,e1,e2,e3⟩:=hit j z hz
    exact⟨c,w2,e1,e2,ext' _ _ `H (G2.ext _ _ (G1.ext _ _ e3))⟩
   ·have hj2:j<(xs0++[V.ref b]).length:=(List.getElem?_eq_some_iff.mp hz).1
    rw[List.length_append,List.length_singleton]at hj2
    have hj3:j=xs0.length:=`A
    subst hj3
    rw[List.getElem?_append_right `P,Nat.sub_self]at hz
    cases hz
    exact⟨b,w',rfl,by rw[<-hpl];exact ew,dD⟩⟩
  refine hN _ _ ⟨rfl,setM M' b (.word w'),b,xs0++[.ref b],⟨fun c r hc=>?_,fun c hc _=>?_,(Kt.of S1).trans (G2.kt.trans k4),g4,fun W' t' ws' e1 e2=>?_⟩,dD,by rw[upd_ne (fun z=>by rw[z,hW]at ha;cases ha)];exact ha2,upd_same,by rw[hpl];simp⟩
  ·rw[gF (nba c r hc)]
   exact G2.ext _ _ (G1.ext _ _ hc)
  ·obtain⟨u,e⟩:=g.has c _ hc
   have ncW:c≠W:=fun z=>by rw[z,hMW]at hc;cases hc
   rw[upd_ne ncW,O2 c u (S1 _ _ e) (nba c _ hc)]
   exact e.symm
  ·have e3:=O2 W' _ (S1 _ _ e2) (nba W' _ e1)
   by_cases hWW:W'=W
   ·subst hWW
    rw[hW]at e2
    cases e2
    exact⟨_,upd_same,by rw[List.length_append,List.length_singleton];lia⟩
   ·exact⟨ws',by rw[upd_ne hWW];exact e3,`P⟩
 ·have hpl:p≠xs0.length:=fun z=>h (decide_eq_true (by rw[z]))
  obtain⟨z,ez⟩:∃z,xs0[p]?=some z:=⟨_,List.getElem?_eq_getElem `A⟩
  obtain⟨b,w2,rfl,e2,e3⟩:=hit p z ez
  rw[ew]at e2
  cases e2
  exact⟨M,b,xs0,.refl g,e3,ha,hW,ez⟩
end
section
variable{P:Program}{w:World}{K:W.Frag}{mg:`U}{base:Heap}{f:Addr}{fd:FuncData}{ao aB aF aH aL aJ:Addr}
theorem ah3(O:`i){rQ:Value}(wN:mg "LAY"=some rQ)(sy:RelV (.int 0) rQ){vD:Value}(CQ:mg "DROP"=some vD)(vM:RelV (.int 1) vD){ou:Value}(qG:mg "TWIN"=some ou)(mU:RelV (.int 2) ou){GK:Value}(Xj:mg "SWAP"=some GK)(Ho:RelV (.int 3) GK){BW:Value}(Rz:mg "FRONT"=some BW)(Cu:RelV (.int 4) BW){GQ:Value}(Xk:mg "PART"=some GQ)(Hq:RelV (.int 5) GQ){vA:Value}(CN:mg "TURN"=some vA)(vJ:RelV (.int 6) vA)
  {Jg:Addr}{Ij:FuncData}(ae1:Fun K "rest_of" "rest_of" oJ Jg Ij)(aeW:FnOk P w K mg base CX0 35 Jg Ij ["row"] (VG K ao aB aF aH))(aeO:Binds K Ij ["row"] [])(aeu:mg "rest_of"=some (.ref Jg))
  {FW:Addr}{Fo:FuncData}(acZ:Fun K "first_of" "first_of" mj FW Fo)(acT:FnOk P w K mg base CX0 35 FW Fo ["row"] (T9 K ao aB aF aH))(acC:Binds K Fo ["row"] [])(abY:mg "first_of"=some (.ref FW))
  (dF:mg "Fronted"=some (.ref ao))
  {fH:Addr}{vV:FuncData}(Gb:Mk K ao fH)(Jl:FnOk P w K mg base CX0 34 fH vV ["self","item","behind"] (VP ao))(pG:Binds K vV ["self","item","behind"] [])
  (F:Fun K "work" "work" yF f fd):FnOk P w K mg base CX0 36 f fd ["step","load","stack"] (adE K ao aB aF aH):=by
 refine okQ F QM `W `V
 ·obtain⟨k,y,S,l,sk,rows,M,H₀,rfl,_⟩:=h
  rfl
 obtain⟨k,y,S,l,sk,rows,M,H₀,rfl,g,hm,hS,hrs,hy,hlk,hb,hkl,q⟩:=h
 refine⟨_,(au (bB (aR op_eq (qv 0) (aU (v:=.int 0) rfl wN sy) `N) (au (bO (cI PySem.F.plainAttrs_list PySem.F.slot_list_append PySem.F.type_list_append bN (qv 2) (aj (qv 1) ak)))) (au (bB (aR op_eq (qv 0) (aU (v:=.int 1) rfl CQ vM) `N) (au (bO (mV PySem.F.plainAttrs_list PySem.F.slot_list_pop PySem.F.type_list_pop jZ (qv 2)))) (au (bB (aR op_eq (qv 0) (aU (v:=.int 2) rfl qG mU) `N) (au (bO (cI PySem.F.plainAttrs_list PySem.F.slot_list_append PySem.F.type_list_append bN (qv 2) (aj (cH ix_list (qv 2) (qK lF aN) (fun _ _=>rfl)) ak)))) (au (bB (aR op_eq (qv 0) (aU (v:=.int 3) rfl Xj Ho) `N) (au (bO (cI PySem.F.plainAttrs_list PySem.F.slot_list_append PySem.F.type_list_append bN (qv 2) (aj (cI PySem.F.plainAttrs_list PySem.F.slot_list_pop PySem.F.type_list_pop Ms (qv 2) (aj (qK lF aN) ak)) ak)))) (au (bB (aR op_eq (qv 0) (aU (v:=.int 4) rfl Rz Cu) `N) (aq (bC (i:=3) QM.nd rfl `O (mV PySem.F.plainAttrs_list PySem.F.slot_list_pop PySem.F.type_list_pop jZ (qv 2)))
   (au (bO (cI PySem.F.plainAttrs_list PySem.F.slot_list_append PySem.F.type_list_append bN (qv 2) (aj (jG Gb Jl hr rfl dF pG .nil pass0 (aj (qv 3) (aj (mV PySem.F.plainAttrs_list PySem.F.slot_list_pop PySem.F.type_list_pop jZ (qv 2)) ak))) ak))))) (au (bB (aR op_eq (qv 0) (aU (v:=.int 5) rfl Xk Hq) `N) (aq (bC (i:=4) QM.nd rfl `O (mV PySem.F.plainAttrs_list PySem.F.slot_list_pop PySem.F.type_list_pop jZ (qv 2)))
   (aq (bO (cI PySem.F.plainAttrs_list PySem.F.slot_list_append PySem.F.type_list_append bN (qv 2) (aj (aO aeW hr rfl aeu ae1.kp aeO .nil pass0 (aj (qv 4) ak)) ak)))
   (au (bO (cI PySem.F.plainAttrs_list PySem.F.slot_list_append PySem.F.type_list_append bN (qv 2) (aj (aO acT hr rfl abY acZ.kp acC .nil pass0 (aj (qv 4) ak)) ak)))))) (au (bB (aR op_eq (qv 0) (aU (v:=.int 6) rfl CN vJ) `N) (au (bO (cI PySem.F.plainAttrs_list PySem.F.slot_list_append PySem.F.type_list_append bN (qv 2) (aj (cI PySem.F.plainAttrs_list PySem.F.slot_list_pop PySem.F.type_list_pop Ms (qv 2) (aj (qK lF aN) ak)) ak)))) aX)))))))))))))),?_⟩
 have hrl:=hrs.length
 rw[List.length_reverse]at hrl
 have hsl:sk.length<=8000010:=by
  have h1:=hb.2
  rw[T.aM]at h1
  have:=T.cB sk
  lia
 refine⟨_,rfl,rfl,_,rfl,ite2 (fun h=>?_) (fun h0=>?_)⟩
 ·have h:k=0:=by have:=V.int.inj (of_decide_eq_true h);lia
  subst h
  refine⟨_,rfl,.inl ⟨rfl,_,SqL.of hS⟩,_,rfl,S,rows,y,rfl,rfl,hS,eZ `A,q M _ _ (Go.list g hm hS) upd_same ?_⟩
  show aP _ (l::sk).reverse _
  rw[List.reverse_cons]
  exact aP.append (gj (Kt.lst hS) hrs) (aP.one (.inl (hy.mono (Kt.lst hS))))
 have h0:¬k=0:=fun z=>h0 (decide_eq_true (by rw[z];rfl))
 refine⟨_,rfl,rfl,_,rfl,ite2 (fun h=>?_) (fun h1=>?_)⟩
 ·have h:k=1:=by have:=V.int.inj (of_decide_eq_true h);lia
  subst h
  obtain⟨a,sk0,r0,ya,rfl,rfl,h0,ha⟩:=mO hrs (by rintro rfl;have h1:1<=sk.length:=hlk;simp at hrl;lia)
  refine⟨_,rfl,.inl ⟨rfl,_,SqL.of hS⟩,S,_,_,rfl,rfl,hS,lW _ _,?_⟩
  rw[lY]
  exact q M _ _ (Go.list g hm hS) upd_same (gj (Kt.lst hS) h0)
 have h1:¬k=1:=fun z=>h1 (decide_eq_true (by rw[z];rfl))
 refine⟨_,rfl,rfl,_,rfl,ite2 (fun h=>?_) (fun h2=>?_)⟩
 ·have h:k=2:=by have:=V.int.inj (of_decide_eq_true h);lia
  subst h
  obtain⟨a,sk0,r0,ya,rfl,rfl,h0,ha⟩:=mO hrs (by rintro rfl;have h1:1<=sk.length:=hlk;simp at hrl;lia)
  refine⟨_,rfl,.inl ⟨rfl,_,SqL.of hS⟩,_,rfl,1,rfl,S,_,_,_,rfl,rfl,SqL.of hS,ji,S,_,ya,rfl,rfl,hS,eZ `A,q M _ _ (Go.list g hm hS) upd_same ?_⟩
  show aP _ (a::a::sk0).reverse _
  rw[List.reverse_cons]
  exact aP.append (gj (Kt.lst hS) hrs) (aP.one (ha.mono (Kt.lst hS) fun _ _ z=>z))
 have h2:¬k=2:=fun z=>h2 (decide_eq_true (by rw[z];rfl))
 refine⟨_,rfl,rfl,_,rfl,ite2 (fun h=>?_) (fun h3=>?_)⟩
 ·have h:k=3:=by have:=V.int.inj (of_decide_eq_true h);lia
  subst h
  obtain⟨a,c,sk0,r0,ya,yc,rfl,rfl,h0,ha,hc⟩:=Jc hrs hlk
  refine⟨_,rfl,.inl ⟨rfl,_,SqL.of hS⟩,_,rfl,.inl ⟨rfl,_,SqL.of hS⟩,2,rfl,S,_,-2,_,_,rfl,rfl,hS,`B,`B,si2 _ _ _,gt2 _ _ _,?_⟩
  rw[er2]
  refine⟨S,_,yc,rfl,rfl,upd_same,eZ (by simp only[List.length_append,List.length_singleton]at hrl|-;lia),?_⟩
  rw[j_]
  refine q M _ _ (Go.list g hm hS) upd_same ?_
  have k:=Kt.lst (o:=.lst (r0++[ya]++[yc])) hS
  show aP _ (c::a::sk0).reverse _
  rw[List.reverse_cons,List.reverse_cons]
  exact aP.append (aP.append (gj k h0) (aP.one (ha.mono k fun _ _ z=>z))) (aP.one (hc.mono k fun _ _ z=>z))
 have h3:¬k=3:=fun z=>h3 (decide_eq_true (by rw[z];rfl))
 refine⟨_,rfl,rfl,_,rfl,ite2 (fun h=>?_) (fun h4=>?_)⟩
 ·have h:k=4:=by have:=V.int.inj (of_decide_eq_true h);lia
  subst h
  obtain⟨a,c,sk0,r0,ya,yc,rfl,rfl,h0,ha,hc⟩:=Jc hrs hlk
  refine⟨_,rfl,.inl ⟨rfl,_,SqL.of hS⟩,S,_,_,rfl,rfl,hS,lW _ _,?_⟩
  rw[lY]
  refine⟨_,rfl,.inl ⟨rfl,_,SqL.of upd_same⟩,_,rfl,_,rfl,.inl ⟨rfl,_,SqL.of upd_same⟩,S,_,_,rfl,rfl,upd_same,lW _ _,?_⟩
  rw[lY,j_]
  have G1:=Go.list (ys:=r0) g hm hS
  have k1:=Kt.lst (o:=.lst r0) hS
  have hS1:upd H S (.lst r0) S=some (.lst r0):=upd_same
  have h01:=gj k1 h0
  have ha1:=ha.mono (M':=M) k1 fun _ _ z=>z
  have hc1:=hc.mono (M':=M) k1 fun _ _ z=>z
  generalize upd H S (.lst r0)=H1 at G1 k1 hS1 h01 ha1 hc1
  refine fun o dx ho hd ne=>⟨o,dx,ya,yc,rfl,iD,⟨rfl,S,r0,_,rfl,rfl,?_,eZ (by simp only[List.length_append,List.length_singleton]at hrl;lia),?_⟩⟩
  ·rw[upd_ne (ne_of_none hS1 ho)]
   exact jh (C:=ao) (fs:=[]) ho hd ne _ _ hS1
  rw[aep]
  have S2:=jh (C:=ao) (fs:=fF ya yc) ho hd ne
  have nSo:S≠o:=ne_of_none hS1 ho
  have ro:∀p t,M p=some (.row t)->setM M o (.row (.node (a::c.kids))) p=some (.row t):=fun p t e=>by
   rw[gF (fun z=>by rw[z,G1.gh.fresh ho]at e;cases e)]
   exact e
  have G2:Go K ao aB aF aH (fun a=>a=S) M (setM M o (.row (.node (a::c.kids)))) H₀ H1 (mkO H1 o dx ao (fF ya yc)):=
   Go.role G1.gh S2 ho ⟨_,iD⟩ (.inl ⟨dx,ya,yc,a,c.kids,iD,rfl,ha1.mono (.of S2) ro,by cases c;exact hc1.mono (.of S2) ro⟩)
  have hS2:=S2 _ _ hS1
  have h02:=h01.imp fun _ _ z=>z.mono (.of S2) ro
  have hm2:setM M o (.row (.node (a::c.kids))) S=some .mine:=by rw[gF nSo];exact hm
  have hMo:setM M o (.row (.node (a::c.kids))) o=some (.row (.node (a::c.kids))):=dD
  generalize setM M o (.row (.node (a::c.kids)))=M2 at G2 h02 hm2 hMo
  generalize mkO H1 o dx ao (fF ya yc)=H2 at G2 hS2 h02
  refine q M2 _ _ ((G1.trans G2).oU hm2 rfl (Kt.lst hS2)) upd_same ?_
  show aP _ (T.node (a::c.kids)::sk0).reverse _
  rw[List.reverse_cons]
  exact aP.append (gj (Kt.lst hS2) h02) (aP.one (.inr ⟨o,rfl,hMo⟩))
 have h4:¬k=4:=fun z=>h4 (decide_eq_true (by rw[z];rfl))
 refine⟨_,rfl,rfl,_,rfl,ite2 (fun h=>?_) (fun h5=>?_)⟩
 ·have h:k=5:=by have:=V.int.inj (of_decide_eq_true h);lia
  subst h
  obtain⟨a,sk0,r0,ya,rfl,rfl,h0,ha⟩:=mO hrs (by rintro rfl;have h1:1<=sk.length:=hlk;simp at hrl;lia)
  have da:a.deep<=400:=by
   have h1:=hb.1
   rw[T.aY,T.aW]at h1
   lia
  have ka:a.kids.length<=8000000:=hkl a `H
  refine⟨_,rfl,.inl ⟨rfl,_,SqL.of hS⟩,S,_,_,rfl,rfl,hS,lW _ _,?_⟩
  rw[lY]
  have G1:=Go.list (ys:=r0) g hm hS
  have k1:=Kt.lst (o:=.lst r0) hS
  have hS1:upd H S (.lst r0) S=some (.lst r0):=upd_same
  have h01:=gj k1 h0
  have ha1:=ha.mono (M':=M) k1 fun _ _ z=>z
  generalize upd H S (.lst r0)=H1 at G1 k1 hS1 h01 ha1
  refine⟨_,rfl,.inl ⟨rfl,_,SqL.of hS1⟩,_,rfl,ya,a,M,H₀,rfl,G1.gh,ha1,da,ka,fun y2 M2 H2 S2 G2 r2=>?_⟩
  have hS2:=S2 _ _ hS1
  have hm2:=G2.ext _ _ hm
  have h02:=h01.imp fun _ _ z=>G2.rv z
  have ha2:=G2.rv ha1
  have G2':=G1.trans (G2.weak fun _ z=>z.elim)
  refine⟨S,r0,y2,rfl,rfl,hS2,eZ (by simp only[List.length_append,List.length_singleton]at hrl;lia),?_⟩
  have G3:=G2'.oU (u:=.lst (r0++[y2])) hm2 rfl (Kt.lst hS2)
  have k3:=Kt.lst (o:=.lst (r0++[y2])) hS2
  have hS3:upd H2 S (.lst (r0++[y2])) S=some (.lst (r0++[y2])):=upd_same
  have h03:=gj k3 h02
  have ha3:=ha2.mono (M':=M2) k3 fun _ _ z=>z
  have r3:=r2.mono (M':=M2) k3 fun _ _ z=>z
  generalize upd H2 S (.lst (r0++[y2]))=H3 at G3 k3 hS3 h03 ha3 r3
  refine⟨_,rfl,.inl ⟨rfl,_,SqL.of hS3⟩,_,rfl,ya,a,M2,H₀,rfl,G3.gh,ha3,da,fun y4 H4 S4 r4=>?_⟩
  have hS4:=S4 _ _ hS3
  refine⟨S,_,y4,rfl,rfl,hS4,eZ (by simp only[List.length_append,List.length_singleton]at hrl|-;lia),?_⟩
  have G4:=G3.trans (.grow G3.gh S4)
  have k5:=Kt.lst (o:=.lst (r0++[y2]++[y4])) hS4
  refine q M2 _ _ (G4.oU hm2 rfl (Kt.lst hS4)) upd_same ?_
  show aP _ (ats a.kids 0::aK a::sk0).reverse _
  rw[List.reverse_cons,List.reverse_cons]
  exact aP.append (aP.append (gj ((Kt.of S4).trans k5) h03) (aP.one (r3.mono ((Kt.of S4).trans k5) fun _ _ z=>z))) (aP.one (r4.mono k5 fun _ _ z=>z))
 have h5:¬k=5:=fun z=>h5 (decide_eq_true (by rw[z];rfl))
 refine⟨_,rfl,rfl,_,rfl,ite2 (fun h=>?_) (fun h6=>?_)⟩
 ·have h:k=6:=by have:=V.int.inj (of_decide_eq_true h);lia
  subst h
  obtain⟨a,c,e,sk0,r0,ya,yc,ye,rfl,rfl,h0,ha,hc,he⟩:=aeS hrs hlk
  refine⟨_,rfl,.inl ⟨rfl,_,SqL.of hS⟩,_,rfl,.inl ⟨rfl,_,SqL.of hS⟩,3,rfl,S,_,-3,_,_,rfl,rfl,hS,`B,`B,si3 _ _ _ _,gt3 _ _ _ _,?_⟩
  rw[er3]
  refine⟨S,_,ye,rfl,rfl,upd_same,eZ (by simp only[List.length_append,List.length_singleton]at hrl|-;lia),?_⟩
  rw[j_]
  refine q M _ _ (Go.list g hm hS) upd_same ?_
  have k:=Kt.lst (o:=.lst (r0++[yc]++[ya]++[ye])) hS
  show aP _ (e::a::c::sk0).reverse _
  rw[List.reverse_cons,List.reverse_cons,List.reverse_cons]
  exact aP.append (aP.append (aP.append (gj k h0) (aP.one (hc.mono k fun _ _ z=>z))) (aP.one (ha.mono k fun _ _ z=>z))) (aP.one (he.mono k fun _ _ z=>z))
 have h6:¬k=6:=fun z=>h6 (decide_eq_true (by rw[z];rfl))
 refine q M H rows (.refl g) hS ?_
 rw[BR (show 7<=k by lia)]
 exact hrs
end
section
variable{P:Program}{w:World}{K:W.Frag}{mg:`U}{base:Heap}{f:Addr}{fd:FuncData}{ao aB aF aH aL aJ:Addr}
theorem Ro(O:`i)
  (F:Fun K "at_end" "Walk.at_end" jE f fd):FnOk P w K mg base CX0 31 f fd ["self"] (Qz K ao aB aF aH aL aJ):=by
 refine okQ F QZ `W `V
 ·obtain⟨o,M,H₀,tx,sk,num,b,rfl,_⟩:=h
  rfl
 obtain⟨o,M,H₀,tx,sk,num,b,rfl,w',q⟩:=h
 refine⟨_,(au (aQ (ahG `Z))),?_⟩
 obtain⟨dx,G,S,N,gs,rows,w'⟩:=w'
 have hgl:=w'.gos.length
 rw[List.length_reverse]at hgl
 refine⟨_,rfl,o,aJ,dx,_,_,rfl,w'.ob,O.cW,O.kg,lwG,!gs.isEmpty,.inl ⟨gs,SqL.of w'.hG,rfl⟩,?_⟩
 have e:(!(!gs.isEmpty))=decide (tx=[]):=by
  rw[Bool.not_not]
  cases tx with
  |nil=>
   have:gs=[]:=List.length_eq_zero_iff.mp (by simpa using hgl)
   rw[this]
   rfl
  |cons t r=>
   cases gs with
   |nil=>simp at hgl
   |cons _ _=>rfl
 rw[e]
 exact q
theorem Zk(O:`i)
  (F:Fun K "top" "Walk.top" pQ f fd):FnOk P w K mg base CX0 31 f fd ["self"] (abq K ao aB aF aH aL aJ):=by
 refine okQ F Y9 `W `V
 ·obtain⟨o,M,H₀,tx,sk,num,b,rfl,_⟩:=h
  rfl
 obtain⟨o,M,H₀,tx,sk,num,b,rfl,w',q⟩:=h
 refine⟨_,(au (aQ (oN (yN `Z (fun _=>rfl)) (cH ix_list `Z (qK lF aN) (fun _ _=>rfl)) (bA ak)))),?_⟩
 obtain⟨dx,G,S,N,gs,rows,w'⟩:=w'
 refine⟨_,rfl,o,aJ,dx,_,_,rfl,w'.ob,O.cW,O.ks,lwS,!rows.isEmpty,.inl ⟨rows,SqL.of w'.hS,rfl⟩,ite2 (fun h=>?_) (fun h=>?_)⟩
 ·have hne:rows≠[]:=by rintro rfl;exact absurd h `B
  obtain⟨a,sk0,r0,ya,rfl,rfl,h0,ha⟩:=mO w'.sts hne
  exact⟨_,rfl,o,aJ,dx,_,_,rfl,w'.ob,O.cW,O.ks,lwS,1,rfl,S,_,_,_,rfl,rfl,SqL.of w'.hS,ji,q _ _ (Same.refl _) ha⟩
 ·have hr:rows=[]:=by
   cases rows with
   |nil=>rfl
   |cons _ _=>exact absurd rfl h
  subst hr
  have:=all_nil w'.sts
  subst this
  refine⟨`R,fun p1 g1=>?_⟩
  obtain⟨S1,t1⟩:=dh (K:=K) (ts:=[]) g1 (bJ.mpr rfl)
  exact q _ _ S1 (.inl t1)
theorem U6(O:`i)(cN:mg "tuple"=none)
  (F:Fun K "tally" "Walk.tally" lH f fd):FnOk P w K mg base CX0 31 f fd ["self"] (aaf K ao aB aF aH aL aJ):=by
 refine okQ F U0 `W `V
 ·obtain⟨o,M,H₀,tx,sk,num,b,rfl,_⟩:=h
  rfl
 obtain⟨o,M,H₀,tx,sk,num,b,rfl,w',q⟩:=h
 refine⟨_,(au (aQ (jY gw rfl cN pD (aj `Z ak)))),?_⟩
 obtain⟨dx,G,S,N,gs,rows,w'⟩:=w'
 exact⟨_,rfl,o,aJ,dx,_,_,rfl,w'.ob,O.cW,O.kn,lwN,N,_,rfl,.inl ⟨SqL.of w'.hN,fun l hl=>q _ _ (same_new hl _) (SqT.of upd_same)⟩⟩
end
section
variable{P:Program}{w:World}{K:W.Frag}{mg:`U}{base:Heap}{f:Addr}{fd:FuncData}{ao aB aF aH aL aJ:Addr}
theorem LC(O:`i)(fY:mg "reversed"=none)(qF:mg "list"=none){yt:Value}(Mv:mg "PLACES"=some yt)(yL:RelV (.int 15) yt)
  (rE:mg "Going"=some (.ref aL))
  (vQ:mg "Text"=some (.ref aH))
  {cV:Addr}{jw:FuncData}(pJ:Mk K aL cV)(jz:FnOk P w K mg base CX0 31 cV jw ["self","text"] (K_ aL))(dG:Binds K jw ["self","text"] [])
  {dj:Addr}{j8:FuncData}(rM:Mk K aH dj)(j9:FnOk P w K mg base CX0 31 dj j8 ["self","tree"] (K9 aH))(dY:Binds K j8 ["self","tree"] [])
  (F:Fun K "__init__" "Walk.__init__" fV f fd):FnOk P w K mg base CX0 33 f fd ["self","stand","budget"] (Vx K ao aB aF aH aL aJ):=by
 refine okQ F Lf `W `V
 ·obtain⟨o,dx,x,tx,sk,b,M,H₀,rfl,_⟩:=h
  rfl
 obtain⟨o,dx,x,tx,sk,b,M,H₀,rfl,g,hm,ho,hx,bx,bs,q⟩:=h
 refine⟨_,(aq (cM (qv 0) (Jx rfl (uG (fr:=[]) (js:=[]) (sc:=defScope fV) rfl rfl rfl `D `D `D `D (by exact trivial) `D (fun y hy=>cell_has hy)) (ahF rfl fY (cH g_ (qv 1) aN (fun _ _=>rfl))) (fun _ _ _ _ _=>(jG pJ jz hr rfl rE dG .nil pass0 (aj (jG rM j9 hr rfl vQ dY .nil pass0 (aj (qv 0) ak)) ak)))) rfl)
   (aq (cM (qv 0) (D_ rfl rfl qF fY rfl (cH g_ (qv 1) aN (fun _ _=>rfl))) rfl)
   (aq (cM (qv 0) (bD ajD (d7 (aj aN ak)) (aU (v:=.int 15) rfl Mv yL)) rfl)
   (au (cM (qv 0) (qv 2) rfl))))),?_⟩
 obtain⟨ax,xs,rfl,hax,hxs⟩:=bZ.mp hx
 obtain⟨x0,r0,rfl,t0,hr⟩:=b_.mp hxs
 obtain⟨x1,r1,rfl,t1,hr1⟩:=b_.mp hr
 obtain⟨a0,ys0,rfl,h0,hy0⟩:=bZ.mp t0
 obtain⟨a1,ys1,rfl,h1,hy1⟩:=bZ.mp t1
 have l0:=hy0.length
 have l1:=hy1.length
 have hsl:sk.length<=8000000:=by
  have h1:=bs.2
  rw[T.aM]at h1
  have:=T.cB sk
  lia
 refine⟨_,rfl,ax,_,0,_,rfl,rfl,hax,atI_nat (j:=0) rfl,a0,ys0,rfl,h0,aik (fun D i ys H'=>H D=none/\∃M',Go K ao aB aF aH (fun _=>False) M M' H₀ H H'/\M' D=some .mine/\H' D=some (.lst ys)/\ys.length=i/\aP (pK aL M' H') (tx.reverse.take i) ys/\ys.Nodup) (Cm (by have:=bx.1;lia)) (fun D hD=>⟨hD,setM M D .mine,Go.Rw g hD,dD,upd_same,rfl,by rw[List.take_zero];exact .nil,List.nodup_nil⟩) (fun D i ys H' j=>⟨j.2.choose_spec.2.2.1,j.2.choose_spec.2.2.2.1,eU j.2.choose_spec.1.kt h0⟩) (fun D i x ys H1 R hxi j hR=>?_) (fun D gs H1 j=>?_)⟩
 ·obtain⟨hD,M1,G1,mD,h1D,hyl,hgo,nd⟩:=j
  obtain⟨t,et,ht⟩:=ahw hy0 hxi
  have hbt:B 389 8000000 t:=bx.2 t (by have:=List.mem_of_getElem? et;rw[List.mem_reverse]at this;exact this)
  refine⟨_,rfl,fun a da ha hda ne=>⟨a,da,x,rfl,iD,fun W hW=>⟨rfl,fun gg dg hg hdg ne2=>⟨gg,dg,a,rfl,iD,⟨rfl,?_⟩⟩⟩⟩⟩
  obtain⟨G2,S2,tx2⟩:=Go.newText (X:=fun _=>False) G1.gh (ht.mono G1.kt) ha hda ne hW
  generalize setM (setM M1 W (.words t)) a (.text t W)=M2 at G2 tx2
  generalize upd (upd (mkO H1 a da aH []) W (.lst [])) a (.ins aH da (fT x W))=H2 at G2 S2 hg hdg
  rw[j_,<-(show mkO H2 gg dg aL (fG a 0)=upd (upd H2 dg (.own gg)) gg (.ins aL dg (fG a 0))from rfl)]
  have G3:Go K ao aB aF aH (fun _=>False) M2 (setM M2 gg .mine) H₀ H2 (mkO H2 gg dg aL (fG a 0)):=Go.made G2.gh hg hdg ne2
  have S3:=jh (C:=aL) (fs:=fG a 0) hg hdg ne2
  have gn:=pK.new (CG:=aL) G2.gh tx2 hbt hg hdg ne2
  have hD3:=S3 _ _ (S2 _ _ h1D)
  have mD3:=G3.ext _ _ (G2.ext _ _ mD)
  have hnew:(.ref gg:V)∉ys:=fun z=>by
   obtain⟨k,hk⟩:=List.mem_iff_getElem?.mp z
   obtain⟨t',_,g',_,_,_,_,_,e,_,h2,_⟩:=hgo.get hk
   cases e
   have:=S2 _ _ h2
   rw[hg]at this
   cases this
  generalize mkO H2 gg dg aL (fG a 0)=H3 at G3 S3 gn hD3
  generalize setM M2 gg .mine=M3 at G3 gn mD3
  have Gl:Go K ao aB aF aH (fun c=>c=D) M3 M3 H₀ H3 (upd H3 D (.lst (ys++[.ref gg]))):=.list G3.gh mD3 hD3
  have Gs:Go K ao aB aF aH (fun c=>c=D) M1 M3 H₀ H1 (upd H3 D (.lst (ys++[.ref gg]))):=((G2.trans G3).weak fun _ z=>z.elim).trans Gl
  refine hR _ _ hD3 ⟨hD,M3,((G1.trans G2).trans G3).aoH mD3 (by rw[g.fresh hD];simp) (Kt.lst hD3),mD3,upd_same,by rw[List.length_append,hyl];rfl,?_,?_⟩
  ·rw[afb et]
   exact aP.append (hgo.imp fun _ _ z=>z.go Gs (z.nl h1D) G1.gh) (aP.one (gn.go Gl (gn.nl hD3) G3.gh))
  ·refine List.nodup_append.mpr ⟨nd,`H,fun c hc e he=>?_⟩
   rw[List.mem_singleton.mp he]
   exact fun z=>hnew (z▸hc)
 obtain⟨hD,M1,G1,mD,h1D,hyl,hgo,nd⟩:=j
 rw[List.take_of_length_le (by rw[List.length_reverse];lia)]at hgo
 have ho1:H1 o=some (.ins aJ dx []):=(G1.mine o hm id).trans ho
 have noD:o≠D:=ne_of_none ho hD
 have kt{u:HO}{Ha:Hp}{fs:`c}(h:Ha o=some (.ins aJ dx fs)):Kt Ha (upd Ha o u):=Kt.ins h
 refine⟨_,rfl,o,aJ,dx,[],rfl,ho1,O.cW,O.kg,by show 0<1000;decide,?_⟩
 rw[pw1]
 have G2:=(G1.weak (Y:=fun c=>c=o) fun _ z=>z.elim).oU (u:=.ins aJ dx (w1 D)) (G1.ext _ _ hm) rfl (kt ho1)
 have Gq:Go K ao aB aF aH (fun c=>c=o) M1 M1 H₀ H1 (upd H1 o (.ins aJ dx (w1 D))):=Go.oU (.refl G1.gh) (G1.ext _ _ hm) rfl (kt ho1)
 have aj9:=hgo.imp fun t x z=>z.go Gq (fun gx e z2=>by
  obtain⟨g',_,_,_,_,_,e',_,h2,_⟩:=z
  rw[e]at e'
  cases e'
  rw[z2,ho1]at h2
  have h3:=(HO.ins.inj (Option.some.inj h2)).2.2
  exact absurd (congrArg List.length h3) (by simp[fG])) G1.gh
 have h2D:upd H1 o (.ins aJ dx (w1 D)) D=some (.lst gs):=by rw[upd_ne (Ne.symm noD)];exact h1D
 have h2o:upd H1 o (.ins aJ dx (w1 D)) o=some (.ins aJ dx (w1 D)):=upd_same
 generalize upd H1 o (.ins aJ dx (w1 D))=H2 at G2 aj9 h2D h2o
 have hm1:=G1.ext _ _ hm
 refine⟨_,rfl,ax,_,1,_,rfl,rfl,eU G2.kt hax,atI_nat (j:=1) rfl,a1,ys1,rfl,eU G2.kt h1,fun l hl=>⟨_,rfl,o,aJ,dx,w1 D,rfl,?_,O.cW,O.ks,by show 1<1000;decide,?_⟩⟩
 ·rw[upd_ne (ne_of_none h2o hl)];exact h2o
 rw[pw2]
 have apl:aP (RV K M1 H2) sk.reverse ys1.reverse:=(Qt (hy1.mono G2.kt)).rev
 have G3a:Go K ao aB aF aH (fun c=>c=o) M1 (setM M1 l .mine) H₀ H2 (upd H2 l (.lst ys1.reverse)):=Go.Rw G2.gh hl
 have h3o:upd H2 l (.lst ys1.reverse) o=some (.ins aJ dx (w1 D)):=by rw[upd_ne (ne_of_none h2o hl)];exact h2o
 have h3D:upd H2 l (.lst ys1.reverse) D=some (.lst gs):=by rw[upd_ne (ne_of_none h2D hl)];exact h2D
 have nDl:D≠l:=ne_of_none h2D hl
 have h3l:upd H2 l (.lst ys1.reverse) l=some (.lst ys1.reverse):=upd_same
 have m3l:setM M1 l .mine l=some .mine:=dD
 generalize upd H2 l (.lst ys1.reverse)=H3 at G3a h3o h3D h3l
 generalize setM M1 l .mine=M3 at G3a m3l
 have hm3:=G3a.ext _ _ hm1
 have G3:=G3a.oU (u:=.ins aJ dx (w2 D l)) hm3 rfl (kt h3o)
 have nlo:l≠o:=fun z=>by rw[z,h3o]at h3l;cases h3l
 have nog:∀{Ma:Mp}{Ha:Hp}{fs:`c}{t:T}{x:V},Ha o=some (.ins aJ dx fs)->(∀a p,fs≠fG a p)->pK aL Ma Ha t x->∀gx,x=.ref gx->¬gx=o:=fun hh hne z gx e z2=>by
  obtain⟨g',_,_,_,_,_,e',_,h2,_⟩:=z
  rw[e]at e'
  cases e'
  rw[z2,hh]at h2
  exact hne _ _ (HO.ins.inj (Option.some.inj h2)).2.2
 have n1:∀a p,w1 D≠fG a p:=fun a p z=>absurd (congrArg List.length z) (by simp[fG,w1])
 have aj8:=aj9.imp fun t x z=>z.go G3 (nog h2o n1 z) G2.gh
 have ag7:=apl.imp fun _ _ z=>G3.rv z
 have h4D:upd H3 o (.ins aJ dx (w2 D l)) D=some (.lst gs):=by rw[upd_ne (Ne.symm noD)];exact h3D
 have h4l:upd H3 o (.ins aJ dx (w2 D l)) l=some (.lst ys1.reverse):=by rw[upd_ne nlo];exact h3l
 have h4o:upd H3 o (.ins aJ dx (w2 D l)) o=some (.ins aJ dx (w2 D l)):=upd_same
 generalize upd H3 o (.ins aJ dx (w2 D l))=H4 at G3 aj8 ag7 h4D h4l h4o
 have z63:(2:Int)^63=9223372036854775808:=`B
 refine⟨`d,fun p5 g5=>⟨p5,15,[.int 0],rfl,rfl,upd_same,`A,`A,(by show 1*15<=sizeLine;decide),fun n g6=>?_⟩⟩
 have e0:(List.replicate (15:Int).toNat [V.int 0]).flatten=gU.map nv:=rfl
 rw[e0]
 have S5:=same_new g5 (.lst [V.int 0])
 have G5:Go K ao aB aF aH (fun c=>c=o) M3 M3 H₀ H4 (upd H4 p5 (.lst [V.int 0])):=.grow G3.gh S5
 have G6a:Go K ao aB aF aH (fun c=>c=o) M3 (setM M3 n .mine) H₀ (upd H4 p5 (.lst [V.int 0])) (upd (upd H4 p5 (.lst [V.int 0])) n (.lst (gU.map nv))):=Go.Rw G5.gh g6
 have S6:=S5.trans (same_new g6 (.lst (gU.map nv)))
 have h6n:upd (upd H4 p5 (.lst [V.int 0])) n (.lst (gU.map nv)) n=some (.lst (gU.map nv)):=upd_same
 have m6n:setM M3 n .mine n=some .mine:=dD
 have n4:H4 n=none:=S5.free g6
 have G6:=G5.trans G6a
 generalize upd (upd H4 p5 (.lst [V.int 0])) n (.lst (gU.map nv))=H6 at G6 G6a S6 h6n
 generalize setM M3 n .mine=M6 at G6 G6a m6n
 have h6o:=S6 _ _ h4o
 refine⟨_,rfl,o,aJ,dx,w2 D l,rfl,h6o,O.cW,O.kn,by show 2<1000;decide,?_⟩
 rw[pw3]
 refine⟨_,rfl,_,rfl,o,aJ,dx,w3 D l n,rfl,upd_same,O.cW,O.kl,by show 3<1000;decide,?_⟩
 rw[pw4,j_]
 have hm6:=G6.ext _ _ hm3
 have G7:=G6.oU (u:=.ins aJ dx (fW D l n b)) hm6 rfl (kt h6o)
 have n2:∀a p,w2 D l≠fG a p:=fun a p z=>by
  have h1:((Str.ofString "goings",V.ref D):Str×V)=(Str.ofString "text",V.ref a):=(List.cons.inj z).1
  have h2:Str.ofString "goings"=Str.ofString "text":=congrArg Prod.fst h1
  exact absurd h2 `D
 have apo:=aj8.imp fun t x z=>z.go G7 (nog h4o n2 z) G3.gh
 have alS:=ag7.imp fun _ _ z=>G7.rv z
 have nno:n≠o:=fun z=>by rw[z,h6o]at h6n;cases h6n
 have mD6:=G6.ext _ _ (G3a.ext _ _ mD)
 exact q M6 _ ⟨dx,D,l,n,gs,ys1.reverse,G7.gh,upd_same,hm6,mD6,G6.ext _ _ m3l,m6n,by rw[upd_ne (Ne.symm noD)];exact S6 _ _ h4D,by rw[upd_ne nlo];exact S6 _ _ h4l,by rw[upd_ne nno];exact h6n,apo,alS,rfl,nDl,ne_of_none h4D n4,ne_of_none h4l n4,nd⟩
end
section
variable{P:Program}{w:World}{K:W.Frag}{mg:`U}{base:Heap}{f:Addr}{fd:FuncData}{ao aB aF aH aL aJ:Addr}
theorem W6(O:`i){vB:Value}(CP:mg "SHUT"=some vB)(vK:RelV (.int 12) vB){gW:Value}(lM:mg "WHILE_INTO"=some gW)(gZ:RelV (.int 9) gW){yu:Value}(Mw:mg "BODIES"=some yu)(yM:RelV (.int 14) yu){jQ:Value}(p8:mg "FORK_YES"=some jQ)(jX:RelV (.int 7) jQ){lU:Value}(rG:mg "FORK_NO"=some lU)(lV:RelV (.int 8) lU)
  {Yx:Addr}{X6:FuncData}(alg:Fun K "work" "work" yF Yx X6)(ak9:FnOk P w K mg base CX0 36 Yx X6 ["step","load","stack"] (adE K ao aB aF aH))(ak0:Binds K X6 ["step","load","stack"] [])(ajO:mg "work"=some (.ref Yx))
  (rE:mg "Going"=some (.ref aL))
  {gk:Addr}{wJ:FuncData}(qD:Meth K aF "body_parts" gk)(Kp:FnOk P w K mg base CX0 36 gk wJ ["self"] (aap K ao aB aF aH))(qC:Binds K wJ ["self"] [])
  {cV:Addr}{jw:FuncData}(pJ:Mk K aL cV)(jz:FnOk P w K mg base CX0 35 cV jw ["self","text"] (K_ aL))(dG:Binds K jw ["self","text"] [])
  (F:Fun K "move" "Walk.move" nu f fd):FnOk P w K mg base CX0 37 f fd ["self","step","going","word"] (adJ K ao aB aF aH aL aJ):=by
 refine okQ F Wa `W `V
 ·obtain⟨o,dx,G,S,N,gs0,g,rows,p,rest,sp,num,b,k,wv,M,H₀,rfl,_⟩:=h
  rfl
 obtain⟨o,dx,G,S,N,gs0,g,rows,p,rest,sp,num,b,k,wv,M,H₀,rfl,w0,hlk,hb,hkl,hrest,h⟩:=h
 refine⟨_,(aq (bB (aR op_eq (qv 1) (aU (v:=.int 12) rfl CP vK) `N) (aq (bO (mV PySem.F.plainAttrs_list PySem.F.slot_list_pop PySem.F.type_list_pop jZ `Z))
   (au aax)) aX)
   (aq (bB (aR op_eq (qv 1) (aU (v:=.int 9) rfl lM gZ) `N) (aq (Q7 `Z (aU (v:=.int 14) rfl Mw yM) M8 (gM (qv 3) O.fJ qD Kp hr qC .nil pass0) HX set_list)
   (aq (bO (cI PySem.F.plainAttrs_list PySem.F.slot_list_append PySem.F.type_list_append bN `Z (aj (jG pJ jz hr rfl rE dG .nil pass0 (aj (bh (qv 3) rfl) ak)) ak)))
   (au aax))) aX)
   (aq (Ue (qv 2) aN aj1)
   (au (bB (aR op_eq (qv 1) (aU (v:=.int 7) rfl p8 jX) `N) (au (bO (cI PySem.F.plainAttrs_list PySem.F.slot_list_append PySem.F.type_list_append bN `Z (aj (jG pJ jz hr rfl rE dG .nil pass0 (aj (bh (qv 3) rfl) ak)) ak)))) (au (bB (aR op_eq (qv 1) (aU (v:=.int 8) rfl rG lV) `N) (au (bO (cI PySem.F.plainAttrs_list PySem.F.slot_list_append PySem.F.type_list_append bN `Z (aj (jG pJ jz hr rfl rE dG .nil pass0 (aj (bh (qv 3) rfl) ak)) ak)))) (au (bO (aO ak9 hr rfl ajO alg.kp ak0 .nil pass0 (aj (qv 1) (aj (bh (qv 3) rfl) (aj `Z ak))))))))))))),?_⟩
 have hgl:=w0.gos.length
 rw[List.length_reverse,List.length_cons,List.length_append,List.length_singleton]at hgl
 rcases h with⟨rfl,q⟩|⟨w',ws,bw,tx',s',lJ,rfl,rfl,hbw,rdy,mv,bx',hz,q⟩
 ·refine⟨_,rfl,rfl,_,rfl,ite2 (fun _=>?_) (fun h=>absurd `B h)⟩
  have hgo:=w0.gos
  rw[List.reverse_cons]at hgo
  obtain⟨gs1,y,e1,hg0,_⟩:=aP.snoc hgo
  obtain⟨rfl,_⟩:=List.append_inj' e1 rfl
  refine⟨_,rfl,o,aJ,dx,_,_,rfl,w0.ob,O.cW,O.kg,lwG,.inl ⟨rfl,_,SqL.of w0.hG⟩,G,_,_,rfl,rfl,w0.hG,lW _ _,?_⟩
  rw[lY]
  exact q M _ ⟨dx,G,S,N,gs0,rows,w0.setG hg0 (List.nodup_append.mp w0.nd).1⟩
 have hw:=w0.gh.ok bw _ hbw
 have n12:¬k=12:=fun z=>by
  rcases mv with⟨h,_⟩|⟨h,_⟩|⟨h,_⟩|⟨h,_⟩<;>lia
 refine⟨_,rfl,rfl,_,rfl,ite2 (fun h=>absurd (by have:=V.int.inj (of_decide_eq_true h);lia) n12) (fun _=>?_)⟩
 dsimp only[tNext]
 rcases mv with⟨rfl,s8,rfl,rfl,rfl⟩|mv
 ·refine⟨_,rfl,rfl,_,rfl,ite2 (fun _=>?_) (fun h=>absurd `B h)⟩
  obtain⟨dw,v,y,n,bd,sz,hw1,tv,c7,c8,hs⟩:=hw
  refine⟨_,rfl,o,aJ,dx,_,_,rfl,w0.ob,O.cW,O.kn,lwN,N,_,_,_,rfl,rfl,SqL.of w0.hN,acE (k:=14) w0.n15 `A,_,rfl,bw,dw,_,rfl,hw1,aoJ `D `D `D `D `D `D,bw,w',M,H₀,rfl,w0.gh,hbw,hz,fun H1 G1=>⟨_,_,rfl,rfl,N,_,_,14,rfl,rfl,(w0.go G1).hN,RT (j:=14) (by rw[List.length_map,w0.n15];lia),?_⟩⟩
  rw[QL]
  have w1:=(w0.go G1).afk (lJ:=num.set 14 (num.getD 14 0+(aK w').parts)) (by rw[List.length_set];exact w0.n15)
  generalize upd H1 N (.lst ((num.set 14 (num.getD 14 0+(aK w').parts)).map nv))=H2 at w1
  obtain⟨dw,v,y,n,bd,sz,hw1,tv,c7,c8,hs⟩:=w1.gh.ok bw _ hbw
  obtain⟨ab,rfl,htx⟩:=c8 s8
  refine⟨_,rfl,o,aJ,dx,_,_,rfl,w1.ob,O.cW,O.kg,lwG,.inl ⟨rfl,_,SqL.of w1.hG⟩,_,rfl,bw,aF,dw,_,_,rfl,hw1,O.fJ,O.wb,ldB,fun gg dg hg hdg ne=>⟨gg,dg,ab,rfl,iD,⟨rfl,G,gs0++[.ref g],_,rfl,rfl,?_,?_,?_⟩⟩⟩
  ·rw[j_]
   exact jh (C:=aL) (fs:=fG ab 0) hg hdg ne _ _ w1.hG
  ·exact eZ (by simp only[List.length_append,List.length_singleton];lia)
  rw[j_,<-(show mkO H2 gg dg aL (fG ab 0)=upd (upd H2 dg (.own gg)) gg (.ins aL dg (fG ab 0))from rfl)]
  obtain⟨k1,k2,k3⟩:=w1.newG htx (bx'.2 _ `H) hg hdg ne
  exact q _ _ ⟨dx,G,S,N,_,rows,k1.push k2 k3⟩
 have n9:¬k=9:=fun z=>by
  rcases mv with⟨h,_⟩|⟨h,_⟩|⟨h,_⟩<;>lia
 refine⟨_,rfl,rfl,_,rfl,ite2 (fun h=>absurd (by have:=V.int.inj (of_decide_eq_true h);lia) n9) (fun _=>?_)⟩
 dsimp only[tNext]
 obtain⟨dg,a,W,j,tt,wl,mg,hg,ma,hW,hj,hdr,hbt⟩:=rdy
 refine⟨_,rfl,g,aL,dg,_,_,rfl,hg,O.IW,O.gp,lgP,_,_,rfl,rfl,dg,_,hg,by show 2<1000;decide,?_⟩
 rw[show putF "place" (.int ((j:Int)+1)) (fG a j)=fG a (j+1)from pgP (q:=j+1)]
 have w1:=w0.onto mg hg ma hW hj hdr hbt
 generalize upd H g (.ins aL dg (fG a (j+1)))=H1 at w1
 obtain⟨dw,v,y,n,bd,sz,hw1,tv,c7,c8,hs⟩:=w1.gh.ok bw _ hbw
 rcases mv with⟨rfl,s7,rfl,rfl,rfl⟩|⟨rfl,s7,rfl,rfl,rfl⟩|⟨hk,rfl,rfl,rfl⟩
 ·refine⟨_,rfl,rfl,_,rfl,ite2 (fun _=>?_) (fun h=>absurd `B h)⟩
  obtain⟨ay,an,rfl,rfl,hty,htn⟩:=c7 s7
  refine⟨_,rfl,o,aJ,dx,_,_,rfl,w1.ob,O.cW,O.kg,lwG,.inl ⟨rfl,_,SqL.of w1.hG⟩,_,rfl,bw,aF,dw,_,_,rfl,hw1,O.fJ,O.wy,ldY,fun gg dg hg hdg ne=>⟨gg,dg,ay,rfl,iD,⟨rfl,G,gs0++[.ref g],_,rfl,rfl,?_,?_,?_⟩⟩⟩
  ·rw[j_]
   exact jh (C:=aL) (fs:=fG ay 0) hg hdg ne _ _ w1.hG
  ·exact eZ (by simp only[List.length_append,List.length_singleton];lia)
  rw[j_,<-(show mkO H1 gg dg aL (fG ay 0)=upd (upd H1 dg (.own gg)) gg (.ins aL dg (fG ay 0))from rfl)]
  obtain⟨k1,k2,k3⟩:=w1.newG hty (bx'.2 _ `H) hg hdg ne
  exact q _ _ ⟨dx,G,S,N,_,rows,k1.push k2 k3⟩
 ·refine⟨_,rfl,rfl,_,rfl,ite2 (fun h=>absurd h `B) (fun _=>?_)⟩
  refine⟨_,rfl,rfl,_,rfl,ite2 (fun _=>?_) (fun h=>absurd `B h)⟩
  obtain⟨ay,an,rfl,rfl,hty,htn⟩:=c7 s7
  refine⟨_,rfl,o,aJ,dx,_,_,rfl,w1.ob,O.cW,O.kg,lwG,.inl ⟨rfl,_,SqL.of w1.hG⟩,_,rfl,bw,aF,dw,_,_,rfl,hw1,O.fJ,O.wn,ldN,fun gg dg hg hdg ne=>⟨gg,dg,an,rfl,iD,⟨rfl,G,gs0++[.ref g],_,rfl,rfl,?_,?_,?_⟩⟩⟩
  ·rw[j_]
   exact jh (C:=aL) (fs:=fG an 0) hg hdg ne _ _ w1.hG
  ·exact eZ (by simp only[List.length_append,List.length_singleton];lia)
  rw[j_,<-(show mkO H1 gg dg aL (fG an 0)=upd (upd H1 dg (.own gg)) gg (.ins aL dg (fG an 0))from rfl)]
  obtain⟨k1,k2,k3⟩:=w1.newG htn (bx'.2 _ `H) hg hdg ne
  exact q _ _ ⟨dx,G,S,N,_,rows,k1.push k2 k3⟩
 ·refine⟨_,rfl,rfl,_,rfl,ite2 (fun h=>absurd (show k=7 by have:=V.int.inj (of_decide_eq_true h);lia) `A) (fun _=>?_)⟩
  refine⟨_,rfl,rfl,_,rfl,ite2 (fun h=>absurd (show k=8 by have:=V.int.inj (of_decide_eq_true h);lia) `A) (fun _=>?_)⟩
  exact⟨_,rfl,_,rfl,bw,aF,dw,_,_,rfl,hw1,O.fJ,O.wl,ldL,_,rfl,o,aJ,dx,_,_,rfl,w1.ob,O.cW,O.ks,lwS,k,v,S,aK w',sp,rows,M,H₀,rfl,w1.gh,w1.mS,w1.hS,w1.sts,tv,hlk,hb,hkl,fun M' H' rows' G' hS' hr'=>q M' H' ⟨dx,G,S,N,_,rows',w1.aje G' hS' hr'⟩⟩
end
section
variable{P:Program}{w:World}{K:W.Frag}{mg:`U}{base:Heap}{f:Addr}{fd:FuncData}{ao aB aF aH aL aJ:Addr}
theorem W5(O:`i)(cL:mg "len"=none){vB:Value}(CP:mg "SHUT"=some vB)(vK:RelV (.int 12) vB){ou:Value}(qG:mg "TWIN"=some ou)(mU:RelV (.int 2) ou){oA:Value}(qR:mg "COPIED"=some oA)(mC:RelV (.int 13) oA){uU:Addr}(Ry:mg "LOOKS"=some (.ref uU))(Q9:∀H,SqT K H uU [.int 0,.int 1,.int 1,.int 2,.int 2,.int 1,.int 3,.int 1,.int 1,.int 1,.int 1,.int 0,.int 0])
  {FN:Addr}{Fi:FuncData}(acX:Fun K "place_of" "place_of" jV FN Fi)(acR:FnOk P w K mg base CX0 37 FN Fi ["sort","top"] (aal K ao aB aF aH))(acA:Binds K Fi ["sort","top"] [])(abV:mg "place_of"=some (.ref FN))
  {uR:Addr}{uL:FuncData}(TY:Fun K "parts_within" "parts_within" gG uR uL)(TF:FnOk P w K mg base CX0 37 uR uL ["row","most"] (VH K ao aB aF aH))(S_:Binds K uL ["row","most"] [])(Rx:mg "parts_within"=some (.ref uR))
  {jj:Addr}{Dg:FuncData}(uW:Meth K aH "word_at" jj)(TV:FnOk P w K mg base CX0 37 jj Dg ["self","place"] (Vw K ao aB aF aH))(uQ:Binds K Dg ["self","place"] [])
  {iT:Addr}{tK:FuncData}(mQ:Meth K aJ "top" iT)(wZ:FnOk P w K mg base CX0 37 iT tK ["self"] (abq K ao aB aF aH aL aJ))(mK:Binds K tK ["self"] [])
  {nQ:Addr}{Kw:FuncData}(Bu:Meth K aJ "move" nQ)(Z8:FnOk P w K mg base CX0 37 nQ Kw ["self","step","going","word"] (adJ K ao aB aF aH aL aJ))(Bo:Binds K Kw ["self","step","going","word"] [])
  (F:Fun K "step" "Walk.step" nq f fd):FnOk P w K mg base CX0 38 f fd ["self"] (aah K ao aB aF aH aL aJ):=by
 refine okQ F oE `W `V
 ·obtain⟨o,M,H₀,tx,sk,num,b,rfl,_⟩:=h
  rfl
 obtain⟨o,M,H₀,tx,sk,num,b,rfl,w0,hne,bx,bs,hnx,qf,qt⟩:=h
 refine⟨_,(aq (bC (i:=1) oE.nd rfl `O (cH ix_list `Z (qK lF aN) (fun _ _=>rfl)))
   (aq (bC (i:=2) oE.nd rfl `O (uw (bh (qv 1) rfl) O.cText uW TV hr uQ .nil pass0 (aj (bh (qv 1) rfl) ak)))
   (aq (bC (i:=3) oE.nd rfl `O (oN (aR Ow (qv 2) jq `N) (aU (v:=.int 12) rfl CP vK) (aO acR hr rfl abV acX.kp acA .nil pass0 (aj (bh (qv 2) rfl) (aj (gM (qv 0) O.cW mQ wZ hr mK .nil pass0) ak)))))
   (aq (bC (i:=4) oE.nd rfl `O (oN (aR op_eq (qv 3) (aU (v:=.int 2) rfl qG mU) `N) (aO TF hr rfl Rx TY.kp S_ .nil pass0 (aj (gM (qv 0) O.cW mQ wZ hr mK .nil pass0) (aj `Z ak))) aN))
   (aq (bB (aR JC (qv 4) `Z `N) (au (aQ pU)) aX)
   (aq (Ue (qv 0) (qv 4) ajZ)
   (aq (Q7 `Z (qv 3) M8 aN HX set_list)
   (aq (bB (aR op_eq (qv 3) (aU (v:=.int 2) rfl qG mU) `N) (au (Q7 `Z (aU (v:=.int 13) rfl qR mC) M8 (qv 4) HX set_list)) aX)
   (aq (uq PassesOwn.never (aR Vj (bV call_len_seq rfl cL jy (aj `Z ak)) (cH g_ (aU (v:=.ref uU) rfl Ry rfl) (qv 3) (fun _ _=>rfl)) `N) (au (bO (cI PySem.F.plainAttrs_list PySem.F.slot_list_insert PySem.F.type_list_insert abR `Z (aj aN (aj (bA ak) ak))))))
   (aq (bO (uw (qv 0) O.cW Bu Z8 hr Bo .nil pass0 (aj (qv 3) (aj (qv 1) (aj (qv 2) ak)))))
   (au (aQ pU)))))))))))),?_⟩
 obtain⟨dx,G,S,N,gs,rows,w0⟩:=w0
 obtain⟨p,rest,rfl⟩:∃p rest,tx=p::rest:=by
  cases tx with
  |nil=>exact absurd rfl hne
  |cons p rest=>exact⟨p,rest,rfl⟩
 have hgo:=w0.gos
 rw[List.reverse_cons]at hgo
 obtain⟨gs0,y,rfl,hg0,hgp⟩:=aP.snoc hgo
 obtain⟨g,dg,a,W,j,tt,rfl,mg,hg,ma,hjk,⟨wl,hW,hjw⟩,rfl,hbt⟩:=hgp
 have h12:=Qx (tx:=`j) (s:=sk)
 have htl:tt.kids.length<=8000000:=by
  have h1:=hbt.2
  have h2:=T.cU tt
  have h3:=T.cB tt.kids
  lia
 have hsp:T.aG sk<=7999999:=by
  have h1:=bs.2
  rw[T.aM]at h1
  lia
 have hsl:=T.cB sk
 have ara:rest.length+1<=8000000:=bx.1
 have bt0:=iU bs 0
 refine dW (fun v=>[some (.ref o),some v,none,none,none]) (fun _=>rfl) (fun v H'=>v=.ref g/\H'=H) (fun R r=>⟨_,rfl,o,aJ,dx,_,_,rfl,w0.ob,O.cW,O.kg,lwG,1,rfl,G,_,_,_,rfl,rfl,SqL.of w0.hG,ji,r _ _ ⟨rfl,rfl⟩⟩) (fun v1 H1 h1=>?_)
 obtain⟨rfl,rfl⟩:=h1
 refine dW (fun v=>[some (.ref o),some (.ref g),some v,none,none]) (fun _=>rfl) (fun v H'=>∃M',WkX K ao aB aF aH aL aJ M' H₀ H' o dx G S N (gs0++[.ref g]) rows `j sk num b/\((v=.non/\tt.kids.drop j=[])\/∃w' ws' bw,v=.ref bw/\M' bw=some (.word w')/\Rdy aL M' H' g w' ws'/\tt.kids.drop j=w'::ws')) (fun R r=>?_) (fun v2 H2 h2=>?_)
 ·obtain⟨da,va,ha,_,_⟩:=w0.gh.ok a _ ma
  refine⟨_,rfl,g,aL,dg,_,_,rfl,hg,O.IW,O.gt,lgT,a,da,_,rfl,ha,aoI `D `D,_,rfl,g,aL,dg,_,_,rfl,hg,O.IW,O.gp,lgP,a,tt,W,j,M,H₀,wl,rfl,w0.gh,ma,hW,hjw,hjk,by have:=hbt.1;lia,htl,fun e=>r _ _ ⟨M,w0,.inl ⟨rfl,by rw[e];exact List.drop_length⟩⟩,fun w' ew bw M' H' G' hb' hl'=>?_⟩
  obtain⟨_,_,_,_,hMW⟩:=w0.gh.ok a _ ma
  obtain⟨wl',e1,e2⟩:=G'.wds W _ wl hMW hW
  exact r _ _ ⟨M',w0.go G',.inr ⟨w',tt.kids.drop (j+1),bw,rfl,hb',⟨dg,a,W,j,tt,wl',G'.ext _ _ mg,(G'.mine g mg id).trans hg,G'.ext _ _ ma,e1,hl' wl' e1,drop_cons ew,hbt⟩,drop_cons ew⟩⟩
 obtain⟨M2,w2,hv⟩:=h2
 refine dW (fun v=>[some (.ref o),some (.ref g),some v2,some v,none]) (fun _=>rfl) (fun v H'=>v=.int (stepT `j sk:Nat)/\Same H2 H') (fun R r=>?_) (fun v3 H3 h3=>?_)
 ·rcases hv with⟨rfl,he⟩|⟨w',ws',bw,rfl,hbw,rdy,he⟩
  ·refine⟨_,rfl,rfl,_,rfl,iteT (r _ _ ⟨?_,Same.refl _⟩)⟩
   rw[Vv (show(ats `j 0).kids=[]from he)]
   rfl
  ·obtain⟨dw,v,y,n,bd,sz,hw1,tv,c7,c8,hs⟩:=w2.gh.ok bw _ hbw
   refine⟨_,rfl,rfl,_,rfl,iteF ⟨_,rfl,bw,aF,dw,_,_,rfl,hw1,O.fJ,O.wk,ldK,_,rfl,o,dx,_,rfl,w2.ob,HS `D `D `D `D,o,M2,H₀,_,_,_,_,rfl,⟨dx,G,S,N,_,_,w2⟩,fun x H3 S3 hx=>⟨_,x,ats sk 0,M2,H₀,rfl,w2.gh.grow S3,hx,by have:=bt0.1;lia,fun H4 S4=>r _ _ ⟨?_,S3.trans S4⟩⟩⟩⟩
   rw[abn (show(T.node (tt.kids.drop j)).kids=w'::ws' from he)]
 obtain⟨rfl,S3⟩:=h3
 have w3:=w2.grow S3
 have hv3:(v2=.non/\tt.kids.drop j=[])\/∃w' ws' bw,v2=.ref bw/\M2 bw=some (.word w')/\Rdy aL M2 H3 g w' ws'/\tt.kids.drop j=w'::ws':=by
  rcases hv with hv|⟨w',ws',bw,e1,e2,e3,e4⟩
  ·exact .inl hv
  ·exact .inr ⟨w',ws',bw,e1,e2,e3.go (.grow w2.gh S3:Go K ao aB aF aH (fun _=>False) M2 M2 H₀ H2 H3) id w2.gh,e4⟩
 refine dW (fun v=>[some (.ref o),some (.ref g),some v2,some (.int (stepT `j sk:Nat)),some v]) (fun _=>rfl) (fun v H'=>Same H3 H'/\∃c:Nat,v=.int (c:Int)/\(bH `j sk<=b->c=bH `j sk)/\(b<bH `j sk->b<c)) (fun R r=>?_) (fun v4 H4 h4=>?_)
 ·refine⟨_,rfl,rfl,_,rfl,ite2 (fun h=>?_) (fun h=>?_)⟩
  ·have h2:stepT `j sk=2:=by have:=V.int.inj (of_decide_eq_true h);lia
   have hc:bH `j sk=(ats sk 0).parts:=by unfold bH;rw[if_pos h2]
   refine⟨_,rfl,o,dx,_,rfl,w3.ob,HS `D `D `D `D,o,M2,H₀,_,_,_,_,rfl,⟨dx,G,S,N,_,_,w3⟩,fun x H4 S4 hx=>⟨_,rfl,o,aJ,dx,_,_,rfl,(w3.grow S4).ob,O.cW,O.kl,lwL,x,ats sk 0,M2,H₀,b,rfl,w3.gh.grow S4,hx,by have:=bt0.2;lia,fun c H5 S5 c1 c2=>r _ _ ⟨S4.trans S5,c,rfl,by rw[hc];exact c1,by rw[hc];exact c2⟩⟩⟩
  ·have h2:¬stepT `j sk=2:=fun z=>h (decide_eq_true (by rw[z];rfl))
   have hc:bH `j sk=1:=by unfold bH;rw[if_neg h2]
   exact r _ _ ⟨Same.refl _,1,rfl,fun _=>hc.symm,fun z=>by rw[hc]at z;exact z⟩
 obtain⟨S4,c,rfl,c1,c2⟩:=h4
 have w4:=w3.grow S4
 have hv4:(v2=.non/\tt.kids.drop j=[])\/∃w' ws' bw,v2=.ref bw/\M2 bw=some (.word w')/\Rdy aL M2 H4 g w' ws'/\tt.kids.drop j=w'::ws':=by
  rcases hv3 with hv|⟨w',ws',bw,e1,e2,e3,e4⟩
  ·exact .inl hv
  ·exact .inr ⟨w',ws',bw,e1,e2,e3.go (.grow w3.gh S4:Go K ao aB aF aH (fun _=>False) M2 M2 H₀ H3 H4) id w3.gh,e4⟩
 refine⟨_,rfl,_,rfl,o,aJ,dx,_,_,rfl,w4.ob,O.cW,O.kl,lwL,_,_,rfl,rfl,_,rfl,ite2 (fun h=>?_) (fun h=>?_)⟩
 ·have hbc:b<c:=by have:=of_decide_eq_true h;lia
  have hb:b<bH `j sk:=by
   rcases Nat.lt_or_ge b (bH `j sk)with z|z
   ·exact z
   ·have:=c1 z;lia
  exact qf hb M2 H4 ⟨dx,G,S,N,_,_,w4⟩
 have hcb:c<=b:=by
  have:¬((b:Int)<(c:Int)):=fun z=>h (decide_eq_true z)
  lia
 have ab4:bH `j sk<=b:=by
  rcases Nat.lt_or_ge b (bH `j sk)with z|z
  ·have:=c2 z;lia
  ·exact z
 have hc:=c1 ab4
 obtain⟨bx2,bs2⟩:=hnx ab4
 have q:=qt ab4
 have ags:∀{Ma:Mp}{Ha:Hp}{lJ:`E}{rows':`F}{s':`C}{b':Nat},WkX K ao aB aF aH aL aJ Ma H₀ Ha o dx G S N (gs0++[.ref g]) rows' `j s' lJ b'->pK aL Ma Ha (T.node (tt.kids.drop j)) (.ref g):=fun wa=>by
  have hgo:=wa.gos
  rw[List.reverse_cons]at hgo
  obtain⟨gs1,y,e1,_,hy⟩:=aP.snoc hgo
  have:=(List.append_inj' e1 rfl).2
  cases this
  exact hy
 dsimp only[tNext]
 refine⟨_,rfl,o,aJ,dx,_,_,rfl,w4.ob,O.cW,O.kl,lwL,_,rfl,_,_,rfl,rfl,dx,_,w4.ob,by show 4<1000;decide,?_⟩
 rw[show(V.int ((b:Int)-(c:Int)):V)=.int ((b-c:Nat):Int)by congr 1;lia,pwL]
 have w5:=w4.amN (b-c)
 have G5:Go K ao aB aF aH (fun a=>a=o) M2 M2 H₀ H4 (upd H4 o (.ins aJ dx (fW G S N (b-c)))):=Go.oU (.refl w4.gh) w4.mo rfl (Kt.ins w4.ob)
 have ngo:¬g=o:=by
  obtain⟨g',_,_,_,_,_,e,_,h2,_⟩:=ags w4
  cases e
  intro z
  rw[z,w4.ob]at h2
  have h3:=(HO.ins.inj (Option.some.inj h2)).2.2
  exact absurd (congrArg List.length h3) (by simp[fG,fW])
 have hv5:(v2=.non/\tt.kids.drop j=[])\/∃w' ws' bw,v2=.ref bw/\M2 bw=some (.word w')/\Rdy aL M2 (upd H4 o (.ins aJ dx (fW G S N (b-c)))) g w' ws'/\tt.kids.drop j=w'::ws':=by
  rcases hv4 with hv|⟨w',ws',bw,e1,e2,e3,e4⟩
  ·exact .inl hv
  ·exact .inr ⟨w',ws',bw,e1,e2,e3.go G5 ngo w4.gh,e4⟩
 generalize upd H4 o (.ins aJ dx (fW G S N (b-c)))=H5 at w5 hv5
 have mgg:M2 g=some .mine:=by
  obtain⟨g',_,_,_,_,_,e,h2,_⟩:=ags w4
  cases e
  exact h2
 have gnl:∀{Ha:Hp}{lJ:`E}{rows':`F}{s':`C}{b':Nat}{q:Addr}{l:`F},WkX K ao aB aF aH aL aJ M2 H₀ Ha o dx G S N (gs0++[.ref g]) rows' `j s' lJ b'->Ha q=some (.lst l)->¬g=q:=fun wa hq z=>by
  obtain⟨g',_,_,_,_,_,e,_,h2,_⟩:=ags wa
  cases e
  rw[z,hq]at h2
  cases h2
 generalize hK:stepT `j sk=k at*
 refine⟨_,rfl,o,aJ,dx,_,_,rfl,w5.ob,O.cW,O.kn,lwN,_,rfl,N,_,_,_,rfl,rfl,SqL.of w5.hN,acE (k:=k) w5.n15 `A,_,_,rfl,rfl,N,_,_,k,rfl,rfl,w5.hN,RT (j:=k) (by rw[List.length_map,w5.n15];lia),?_⟩
 rw[show(V.int ((num.getD k 0:Int)+1):V)=V.int ((num.getD k 0:Int)+((1:Nat):Int))from rfl,QL]
 have w6:=w5.afk (lJ:=num.set k (num.getD k 0+1)) (by rw[List.length_set];exact w5.n15)
 have G6:Go K ao aB aF aH (fun a=>a=N) M2 M2 H₀ H5 (upd H5 N (.lst ((num.set k (num.getD k 0+1)).map nv))):=.list w5.gh w5.mN w5.hN
 have hv6:(v2=.non/\tt.kids.drop j=[])\/∃w' ws' bw,v2=.ref bw/\M2 bw=some (.word w')/\Rdy aL M2 (upd H5 N (.lst ((num.set k (num.getD k 0+1)).map nv))) g w' ws'/\tt.kids.drop j=w'::ws':=by
  rcases hv5 with hv|⟨w',ws',bw,e1,e2,e3,e4⟩
  ·exact .inl hv
  ·exact .inr ⟨w',ws',bw,e1,e2,e3.go G6 (gnl w5 w5.hN) w5.gh,e4⟩
 generalize upd H5 N (.lst ((num.set k (num.getD k 0+1)).map nv))=H6 at w6 hv6
 dsimp only
 refine ab2 (fun σ' H'=>σ'=[some (.ref o),some (.ref g),some v2,some (.int (k:Int)),some (.int (c:Int))]/\WkX K ao aB aF aH aL aJ M2 H₀ H' o dx G S N (gs0++[.ref g]) rows `j sk (Ei k c num) (b-c)/\((v2=.non/\tt.kids.drop j=[])\/∃w' ws' bw,v2=.ref bw/\M2 bw=some (.word w')/\Rdy aL M2 H' g w' ws'/\tt.kids.drop j=w'::ws')) (fun σ' H7 h7=>?_) (fun A' B' hA hB=>⟨_,rfl,rfl,_,rfl,ite2 (fun h=>hA _ fun N' hN'=>?_) (fun h=>hB _ ⟨rfl,?_,hv6⟩)⟩)
 rotate_left
 ·have h2:k=2:=by have:=V.int.inj (of_decide_eq_true h);lia
  subst h2
  refine⟨_,rfl,o,aJ,dx,_,_,rfl,w6.ob,O.cW,O.kn,lwN,N,_,_,_,rfl,rfl,SqL.of w6.hN,acE (k:=13) w6.n15 `A,_,rfl,_,_,rfl,rfl,N,_,_,13,rfl,rfl,w6.hN,RT (j:=13) (by rw[List.length_map,w6.n15];lia),?_⟩
  rw[QL]
  have w7:=w6.afk (lJ:=(num.set 2 (num.getD 2 0+1)).set 13 ((num.set 2 (num.getD 2 0+1)).getD 13 0+c)) (by rw[List.length_set];exact w6.n15)
  have G7:Go K ao aB aF aH (fun a=>a=N) M2 M2 H₀ H6 (upd H6 N (.lst (((num.set 2 (num.getD 2 0+1)).set 13 ((num.set 2 (num.getD 2 0+1)).getD 13 0+c)).map nv))):=.list w6.gh w6.mN w6.hN
  refine hN' _ _ ⟨rfl,by unfold Ei;rw[if_pos rfl];exact w7,?_⟩
  rcases hv6 with hv|⟨w',ws',bw,e1,e2,e3,e4⟩
  ·exact .inl hv
  ·exact .inr ⟨w',ws',bw,e1,e2,e3.go G7 (gnl w6 w6.hN) w6.gh,e4⟩
 ·have h2:¬k=2:=fun z=>h (decide_eq_true (by rw[z];rfl))
  unfold Ei
  rw[if_neg h2]
  exact w6
 obtain⟨rfl,w7,hv7⟩:=h7
 have lk3:=Xl k
 refine⟨fun μ σ H'=>∃(i:Nat)(rows':`F),σ=[some (.ref o),some (.ref g),some v2,some (.int (k:Int)),some (.int (c:Int))]/\WkX K ao aB aF aH aL aJ M2 H₀ H' o dx G S N (gs0++[.ref g]) rows' `j (sk++List.replicate i leaf) (Ei k c num) (b-c)/\((v2=.non/\tt.kids.drop j=[])\/∃w' ws' bw,v2=.ref bw/\M2 bw=some (.word w')/\Rdy aL M2 H' g w' ws'/\tt.kids.drop j=w'::ws')/\sk.length+i<=max (looks k) sk.length/\μ=3-i,⟨_,0,rows,rfl,by rw[List.replicate_zero,List.append_nil];exact w7,hv7,`A,rfl⟩,?_⟩
 rintro μ σ H8⟨i,rows',rfl,w8,hv8,hi,rfl⟩
 have hrl:=w8.sts.length
 rw[List.length_reverse,List.length_append,List.length_replicate]at hrl
 refine⟨_,rfl,o,aJ,dx,_,_,rfl,w8.ob,O.cW,O.ks,lwS,S,rows',rfl,.inl (SqL.of w8.hS),_,rfl,uU,_,_,_,rfl,rfl,Q9 _,agg h12,_,_,rfl,rfl,_,rfl,ite2 (fun h=>?_) (fun h=>?_)⟩
 ·have hlt:rows'.length<looks k:=by have:=of_decide_eq_true h;lia
  refine⟨fun σ' H'=>∃m',m'<3-i/\∃(i:Nat)(rows':`F),σ'=[some (.ref o),some (.ref g),some v2,some (.int (k:Int)),some (.int (c:Int))]/\WkX K ao aB aF aH aL aJ M2 H₀ H' o dx G S N (gs0++[.ref g]) rows' `j (sk++List.replicate i leaf) (Ei k c num) (b-c)/\((v2=.non/\tt.kids.drop j=[])\/∃w' ws' bw,v2=.ref bw/\M2 bw=some (.word w')/\Rdy aL M2 H' g w' ws'/\tt.kids.drop j=w'::ws')/\sk.length+i<=max (looks k) sk.length/\m'=3-i,fun _ _ h=>h,?_⟩
  refine⟨_,rfl,o,aJ,dx,_,_,rfl,w8.ob,O.cW,O.ks,lwS,.inl ⟨rfl,_,SqL.of w8.hS⟩,`R,fun p9 g9=>?_⟩
  obtain⟨S9,t9⟩:=dh (K:=K) (ts:=[]) g9 (bJ.mpr rfl)
  have w9:=w8.grow S9
  have hS9:=w9.hS
  refine⟨S,rows',_,rfl,rfl,hS9,eZ `A,?_⟩
  have Gx:Go K ao aB aF aH (fun a=>a=S) M2 M2 H₀ (upd H8 p9 (.tup [])) (upd (upd H8 p9 (.tup [])) S (.lst (.ref p9::rows'))):=.list w9.gh w9.mS hS9
  have w10:=w9.aje (s':=sk++List.replicate (i+1) leaf) Gx upd_same (by
   rw[List.replicate_succ',<-List.append_assoc,List.reverse_append]
   exact aP.cons (.inl (t9.mono (Kt.lst hS9))) (w9.sts.imp fun _ _ z=>Gx.rv z))
  refine⟨_,?_,i+1,_,rfl,w10,?_,`A,rfl⟩
  ·lia
  ·rcases hv8 with hv|⟨w',ws',bw,e1,e2,e3,e4⟩
   ·exact .inl hv
   ·exact .inr ⟨w',ws',bw,e1,e2,(e3.go (.grow w8.gh S9:Go K ao aB aF aH (fun _=>False) M2 M2 H₀ H8 _) id w8.gh).go Gx (gnl w9 hS9) w9.gh,e4⟩
 have hge:looks k<=rows'.length:=by
  have:¬((rows'.length:Int)<((looks k:Nat):Int)):=fun z=>h (decide_eq_true z)
  lia
 have apn:sk++List.replicate i leaf=pad sk (looks k):=ajB hi `A
 rw[apn]at w8
 have hpl:looks k<=(pad sk (looks k)).length:=Jz sk (looks k)
 have hB:=(Qk (looks k) `A `A bs).le (a':=395) (b':=8000010) `A `A
 have hkd:∀t∈pad sk (looks k),t.kids.length<=8000000:=ahX (aip `A)
 refine⟨_,rfl,o,dx,_,rfl,w8.ob,HS `D `D `D `D,_,rfl,_,rfl,_,rfl,o,dx,G,S,N,gs0,g,rows',_,rest,pad sk (looks k),Ei k c num,b-c,k,v2,M2,H₀,rfl,w8,hpl,hB,hkd,`A,?_⟩
 rw[<-hc]at q
 rcases hv8 with⟨rfl,he⟩|⟨w',ws',bw,rfl,hbw,rdy,he⟩
 ·have aj7:k=12:=by rw[<-hK];exact Vv (show(ats `j 0).kids=[]from he)
  refine .inl ⟨aj7,fun M' H' wf=>q M' H' ?_⟩
  have on:=aeh (s:=sk) (show(ats `j 0).kids=[]from he)
  rw[on,xW w0.n15 (by rw[hK];lia),hK,<-hc]
  rw[aj7]at wf|-
  rw[show pad sk (looks 12)=sk from yS `R]at wf
  exact wf
 ·have mv:=alP (p:=T.node (tt.kids.drop j)) (rest:=rest) (s:=sk) (num:=num) (congrArg T.node he) w0.n15
  rw[hK,<-hc]at mv
  have hlp:(aK w').parts<=8000000:=by
   have h1:=hbt.2
   have h2:=T.cU tt
   have h3:=T.Ly j tt.kids
   rw[he,T.aD]at h3
   have h4:=Ph w'
   lia
  exact .inr ⟨w',ws',bw,_,_,_,congrArg T.node he,rfl,hbw,rdy,mv,bx2,hlp,fun M' H' wf=>q M' H' wf⟩
end
section
variable{P:Program}{w:World}{K:W.Frag}{mg:`U}{base:Heap}{f:Addr}{fd:FuncData}{ao aB aF aH aL aJ:Addr}
theorem aek(O:`i)
  (Xi:mg "Walk"=some (.ref aJ))
  {iI:Addr}{Aa:FuncData}(Tw:Mk K aJ iI)(Qf:FnOk P w K mg base CX0 37 iI Aa ["self","stand","budget"] (Vx K ao aB aF aH aL aJ))(tU:Binds K Aa ["self","stand","budget"] [])
  {nO:Addr}{Kv:FuncData}(Bt:Meth K aJ "step" nO)(Z7:FnOk P w K mg base CX0 38 nO Kv ["self"] (aah K ao aB aF aH aL aJ))(Bm:Binds K Kv ["self"] [])
  {eN:Addr}{mY:FuncData}(jM:Meth K aJ "at_end" eN)(wI:FnOk P w K mg base CX0 38 eN mY ["self"] (Qz K ao aB aF aH aL aJ))(jL:Binds K mY ["self"] [])
  (F:Fun K "walked" "walked" qO f fd):FnOk P w K mg base CX0 39 f fd ["stand","budget"] (VB K ao aB aF aH aL aJ):=by
 refine okQ F Ub `W `V
 ·obtain⟨x,tx,sk,b,rfl,_⟩:=h
  rfl
 obtain⟨x,tx,sk,b,rfl,hx,hsn,q⟩:=h
 refine⟨_,(aq (bC (i:=2) Ub.nd rfl `O (jG Tw Qf hr rfl Xi tU .nil pass0 (aj (qv 0) (aj (qv 1) ak))))
   (aq (uq PassesOwn.never (QW.pt (Cv (yO (dU (gM (qv 2) O.cW jM wI hr jL .nil pass0))) (xP (dU (gM (qv 2) O.cW Bt Z7 hr Bm .nil pass0))))) (au ahE))
   (au (aQ (qv 2))))),?_⟩
 refine dW (fun v=>[some x,some (.int (b:Int)),some v]) (fun _=>rfl) (fun v H'=>∃o M,v=.ref o/\Wk K ao aB aF aH aL aJ M H H' o tx sk gU b) (fun R r=>⟨_,rfl,_,rfl,fun o dx ho hd ne=>⟨o,dx,x,tx,sk,b,setM (fun _=>none) o .mine,H,rfl,(Go.made (X:=fun _=>False) (C:=aJ) (fs:=[]) (Gh.nil H) ho hd ne).gh,dD,iD,hx.mono (.of (jh (C:=aJ) (fs:=[]) ho hd ne)),hsn.bx,hsn.bs,fun M' H' wf=>⟨rfl,r _ _ ⟨o,M',rfl,wf⟩⟩⟩⟩) (fun v1 H1 h1=>?_)
 obtain⟨o,M1,rfl,w1⟩:=h1
 refine⟨fun μ σ H'=>∃(M:Mp)(tx' s':`C)(num:`E)(b':Nat),σ=[some x,some (.int (b:Int)),some (.ref o)]/\Wk K ao aB aF aH aL aJ M H H' o tx' s' num b'/\Sane b' tx' s'/\num.length=15/\goT b tx sk=((goT b' tx' s').1,(goT b' tx' s').2.1,fZ num (goT b' tx' s').2.2)/\spT b tx sk+b'=b+spT b' tx' s'/\μ=b'+1,⟨_,M1,tx,sk,gU,b,rfl,w1,hsn,rfl,by rw[aeT (Xu _ _ _)],Nat.add_comm _ _,rfl⟩,?_⟩
 rintro μ σ H2⟨M,tx',s',num,b',rfl,w2,hs2,hn2,hgo,hsp,rfl⟩
 have stop:(tx'=[]\/b'<bH tx' s')->∀M' H',Wk K ao aB aF aH aL aJ M' H H' o tx' s' num b'->Q (.ref o) H':=fun hst M' H' wf=>by
  refine q o M' H' b' ?_
  rw[xR hst,Ci hst]at*
  rw[hgo]
  show Wk _ _ _ _ _ _ _ _ _ _ _ tx' s' (fZ num gU) b'
  rw[acG hn2]
  exact wf
 refine⟨_,rfl,o,?_⟩
 obtain⟨dx,G,S,N,gs,rows,wx⟩:=id w2
 refine⟨dx,_,rfl,wx.ob,HS `D `D `D `D,o,M,H,tx',s',num,b',rfl,w2,_,rfl,?_⟩
 by_cases he:tx'=[]
 ·rw[decide_eq_true he]
  refine iteF (iteF ⟨_,rfl,stop (.inl he) M H2 w2⟩)
 rw[decide_eq_false he]
 refine iteT ⟨_,rfl,o,dx,_,rfl,wx.ob,HS `D `D `D `D,o,M,H,tx',s',num,b',rfl,w2,he,hs2.bx,hs2.bs,fun hc=>⟨(hs2.next he hc).bx,(hs2.next he hc).bs⟩,fun hc M' H' wf=>⟨_,rfl,iteF ⟨_,rfl,stop (.inr hc) M' H' wf⟩⟩,fun hc M' H' wf=>⟨_,rfl,iteT ?_⟩⟩
 have hcp:=zA tx' s'
 refine⟨fun σ' H''=>σ'=[some x,some (.int (b:Int)),some (.ref o)]/\H''=H',fun σ' H'' h=>⟨b'-bH tx' s'+1,`A,?_⟩,rfl,rfl⟩
 obtain⟨rfl,rfl⟩:=h
 refine⟨M',_,_,_,_,rfl,wf,hs2.next he hc,Yw hn2 (Xz _ _),?_,?_,rfl⟩
 ·rw[hgo,xU he hc]
  show(_,_,fZ num (fZ _ _))=(_,_,fZ (fZ num _) _)
  rw[acH]
 ·rw[Cj he hc]at hsp
  lia
end
section
variable{P:Program}{w:World}{K:W.Frag}{mg:`U}{base:Heap}{f:Addr}{fd:FuncData}{ao aB aF aH aL aJ:Addr}
theorem afY
  (F:Fun K "begin" "begin" ug f fd):FnOk P w K mg base CX0 31 f fd ["text","tree"] (aaq K):=by
 refine okQ F afr `W `V
 ·obtain⟨x,t,y,u,rfl,_⟩:=h
  rfl
 obtain⟨x,t,y,u,rfl,hx,hy,q⟩:=h
 refine⟨_,(au (aQ (bA (aj (bA (aj (qv 0) ak)) (aj (bA (aj (qv 1) ak)) ak))))),?_⟩
 refine⟨_,rfl,`d,fun p1 g1=>⟨_,rfl,`d,fun p2 g2=>⟨(by show 2<=sizeLine;decide),fun p3 g3=>?_⟩⟩⟩
 obtain⟨S1,t1⟩:=dh (K:=K) g1 (kh hx)
 obtain⟨S2,t2⟩:=dh (K:=K) g2 (kh (hy.mono (.of S1)))
 obtain⟨S3,t3⟩:=dh (K:=K) g3 (abl (t1.mono (.of S2)) t2)
 exact q _ _ (S1.trans (S2.trans S3)) t3
theorem ajF(O:`i)
  {NQ:Addr}{Nm:FuncData}(agP:Fun K "walked" "walked" qO NQ Nm)(agO:FnOk P w K mg base CX0 39 NQ Nm ["stand","budget"] (VB K ao aB aF aH aL aJ))(agH:Binds K Nm ["stand","budget"] [])(agf:mg "walked"=some (.ref NQ))
  {Ti:Addr}{Sx:FuncData}(aiW:Fun K "begin" "begin" ug Ti Sx)(aiT:FnOk P w K mg base CX0 39 Ti Sx ["text","tree"] (aaq K))(aiH:Binds K Sx ["text","tree"] [])(aij:mg "begin"=some (.ref Ti))
  {YD:Addr}{Yc:FuncData}(alm:Fun K "cost" "cost" yK YD Yc)(ale:FnOk P w K mg base CX0 39 YD Yc ["tally"] (adN K))(ak5:Binds K Yc ["tally"] [])(ajT:mg "cost"=some (.ref YD))
  {Jh:Addr}{Ik:FuncData}(ae2:Fun K "as_tree" "as_tree" oK Jh Ik)(aeX:FnOk P w K mg base CX0 39 Jh Ik ["row"] (V0 K ao aB aF aH))(aeP:Binds K Ik ["row"] [])(aev:mg "as_tree"=some (.ref Jh))
  {lO:Addr}{Il:FuncData}(zN:Meth K aJ "tally" lO)(YS:FnOk P w K mg base CX0 39 lO Il ["self"] (aaf K ao aB aF aH aL aJ))(zJ:Binds K Il ["self"] [])
  {eN:Addr}{mY:FuncData}(jM:Meth K aJ "at_end" eN)(wI:FnOk P w K mg base CX0 39 eN mY ["self"] (Qz K ao aB aF aH aL aJ))(jL:Binds K mY ["self"] [])
  {iT:Addr}{tK:FuncData}(mQ:Meth K aJ "top" iT)(wZ:FnOk P w K mg base CX0 39 iT tK ["self"] (abq K ao aB aF aH aL aJ))(mK:Binds K tK ["self"] [])
  (F:Fun K "run" "run" zR f fd):FnOk P w K mg base CX0 40 f fd ["text","tree","budget"] (abr K):=by
 refine okQ F V8 `W `V
 ·obtain⟨x,y,t,u,b,rfl,_⟩:=h
  rfl
 obtain⟨x,y,t,u,b,rfl,hx,hy,hsn,q⟩:=h
 refine⟨_,(aq (bC (i:=3) V8.nd rfl `O (aO agO hr rfl agf agP.kp agH .nil pass0 (aj (aO aiT hr rfl aij aiW.kp aiH .nil pass0 (aj (qv 0) (aj (qv 1) ak))) (aj (qv 2) ak))))
   (aq (bC (i:=4) V8.nd rfl `O (aO ale hr rfl ajT alm.kp ak5 .nil pass0 (aj (gM (qv 3) O.cW zN YS hr zJ .nil pass0) ak)))
   (aq (bB (dU (gM (qv 3) O.cW jM wI hr jL .nil pass0)) (au (aQ (bA (aj bF (aj (aO aeX hr rfl aev ae2.kp aeP .nil pass0 (aj (gM (qv 3) O.cW mQ wZ hr mK .nil pass0) ak)) (aj (qv 4) ak)))))) aX)
   (au (aQ (bA (aj bF (aj (bA ak) (aj (qv 4) ak))))))))),?_⟩
 refine dW (fun v=>[some x,some y,some (.int (b:Int)),some v,none]) (fun _=>rfl) (fun v H'=>∃o M b' H0,v=.ref o/\Same H H0/\Wk K ao aB aF aH aL aJ M H0 H' o (goT b [t] [u]).1 (goT b [t] [u]).2.1 (goT b [t] [u]).2.2 b') (fun R r=>⟨_,rfl,_,rfl,x,t,y,u,rfl,hx,hy,fun z H1 S1 tz=>⟨_,rfl,z,[t],[u],b,rfl,tz,hsn,fun o M' H' b' wf=>r _ _ ⟨o,M',b',H1,rfl,S1,wf⟩⟩⟩) (fun v1 H1 h1=>?_)
 obtain⟨o,M1,b1,H0,rfl,S0,w1⟩:=h1
 obtain⟨dx,G,S,N,gs,rows,wx⟩:=id w1
 obtain⟨bl,sl⟩:=Sane.last b [t] [u] hsn
 have aps:=Xu b [t] [u]
 refine dW (fun v=>[some x,some y,some (.int (b:Int)),some (.ref o),some v]) (fun _=>rfl) (fun v H'=>Same H1 H'/\v=nv (spT b [t] [u])) (fun R r=>⟨_,rfl,o,dx,_,rfl,wx.ob,HS `D `D `D `D,o,M1,H0,_,_,_,_,rfl,w1,fun c H2 S2 hc=>⟨c,_,rfl,hc,aps,fun H3 S3=>r _ _ ⟨S2.trans S3,by rw[aiu]⟩⟩⟩) (fun v2 H2 h2=>?_)
 obtain⟨S2,rfl⟩:=h2
 have w2:=wx.grow S2
 have e1:decide ((goT b [t] [u]).1=[])=true\/decide ((goT b [t] [u]).1=[])=false:=by cases decide ((goT b [t] [u]).1=[])<;>simp
 refine⟨_,rfl,o,dx,_,rfl,w2.ob,HS `D `D `D `D,o,M1,H0,_,_,_,_,rfl,⟨dx,G,S,N,gs,rows,w2⟩,_,rfl,ite2 (fun he=>?_) (fun he=>?_)⟩
 ·have he:=of_decide_eq_true he
  have hp:(ats (goT b [t] [u]).2.1 0).parts<=8000000:=(iU sl 0).2
  refine⟨_,rfl,o,dx,_,rfl,w2.ob,HS `D `D `D `D,o,M1,H0,_,_,_,_,rfl,⟨dx,G,S,N,gs,rows,w2⟩,fun x3 H3 S3 hx3=>⟨x3,_,M1,H0,rfl,w2.gh.grow S3,hx3,hp,fun y4 H4 S4 t4=>⟨_,rfl,(by show 3<=sizeLine;decide),fun p5 g5=>?_⟩⟩⟩
  have S5:=same_new g5 (.tup [.str (PySem.Str.ofString "told"),y4,nv (spT b [t] [u])])
  refine q p5 y4 _ (S0.trans (wx.gh.same.trans (S2.trans (S3.trans (S4.trans S5))))) (SqT.of (upd_same.trans ?_)) ?_
  ·unfold iz
   rw[if_pos he]
   rfl
  ·unfold lB
   rw[if_pos he]
   exact t4.mono (.of S5)
 ·have he:¬(goT b [t] [u]).1=[]:=fun z=>he (decide_eq_true z)
  refine⟨`R,fun p4 g4=>⟨_,rfl,(by show 3<=sizeLine;decide),fun p5 g5=>?_⟩⟩
  obtain⟨S4,t4⟩:=dh (K:=K) (ts:=[]) g4 (bJ.mpr rfl)
  have S5:=same_new g5 (.tup [.str (PySem.Str.ofString "out"),.ref p4,nv (spT b [t] [u])])
  refine q p5 (.ref p4) _ (S0.trans (wx.gh.same.trans (S2.trans (S4.trans S5)))) (SqT.of (upd_same.trans ?_)) ?_
  ·unfold iz
   rw[if_neg he]
   rfl
  ·unfold lB
   rw[if_neg he]
   exact t4.mono (.of S5)
end
section
variable{P:Program}{w:World}{K:W.Frag}{mg:`U}{base:Heap}{f:Addr}{fd:FuncData}
theorem afW
  (F:Fun K "first" "first" jD f fd):FnOk P w K mg base CX0 31 f fd ["tree"] (xG K):=by
 refine okQ F afp `W `V
 ·obtain⟨x,t,rfl,_⟩:=h
  rfl
 obtain⟨x,t,rfl,ht,hd,q⟩:=h
 have hE:=hr.un
 have hE:(A.deeper (envOfC "first" (defScope jD) s.heap.objs.size f cdv)).units+401<cLine:=`A
 refine⟨_,(aq (bB (aR (JD hE) (qv 0) (bA ak) `N) (au (aQ (bA ak))) aX)
   (au (aQ (cH g_ (qv 0) aN (fun _ _=>rfl))))),?_⟩
 refine⟨_,rfl,`R,fun p1 g1=>⟨t,leaf,ht.mono (.new g1),qb upd_same,`A,_,rfl,ite2 (fun hb=>?_) (fun hb=>?_)⟩⟩
 ·have e:=(T.beq_iff _ _).mp hb
  rw[e]at q
  exact⟨`R,fun p2 g2=>q _ _ ((same_new g1 _).trans (same_new g2 _)) (qb upd_same)⟩
 ·cases t with
  |node ts=>
   cases ts with
   |nil=>exact absurd ((T.beq_iff _ _).mpr rfl) hb
   |cons u us=>exact⟨_,rfl,aoG (ht.mono (.new g1)) 0 rfl (fun z tz=>q _ _ (same_new g1 _) tz)⟩
theorem ah5
  (F:Fun K "rest" "rest" rZ f fd):FnOk P w K mg base CX0 31 f fd ["tree"] (vH K):=by
 refine okQ F ahq `W `V
 ·obtain⟨x,t,rfl,_⟩:=h
  rfl
 obtain⟨x,t,rfl,ht,q⟩:=h
 refine⟨_,(au (aQ (jo Jv (qv 0) (jF aN) nA))),?_⟩
 cases t with
 |node ts=>exact⟨_,rfl,1,rfl,ajL ht 1 (fun z H' S tz=>q z H' S tz)⟩
theorem abL(abX:mg "min"=none)(cL:mg "len"=none){fO:Value}(iQ:mg "NAMELESS"=some fO)(fX:RelV (.int 9) fO)
  {dO:Addr}{dM:FuncData}(qw:Fun K "first" "first" jD dO dM)(qu:FnOk P w K mg base CX0 31 dO dM ["tree"] (xG K))(qj:Binds K dM ["tree"] [])(pZ:mg "first"=some (.ref dO))
  (F:Fun K "sort_of" "sort_of" jU f fd):FnOk P w K mg base CX0 32 f fd ["word"] (Ju K):=by
 refine okQ F abv `W `V
 ·obtain⟨x,t,rfl,_⟩:=h
  rfl
 obtain⟨x,t,rfl,ht,h1,q⟩:=h
 refine⟨_,(au (aQ (bV (aeK rfl) rfl abX akP (aj (bV call_len_seq rfl cL jy (aj (aO qu hr rfl pZ qw.kp qj .nil pass0 (aj (qv 0) ak)) ak)) (aj (aU (v:=.int 9) rfl iQ fX) ak))))),?_⟩
 refine⟨_,rfl,x,t,rfl,ht,h1,fun y H1 S1 t1=>?_⟩
 obtain⟨b,ys,rfl,hb',rb⟩:=bZ.mp (nU t1)
 refine⟨b,ys,rfl,.inr hb',_,_,rfl,?_⟩
 rw[rb.length,show(if(9:Int)<((ats t.kids 0).kids.length:Int)then(9:Int)else((ats t.kids 0).kids.length:Int))=((aA t:Nat):Int)by rw[afe];split<;>lia]
 exact q _ S1
theorem abN
  {pH:Addr}{pA:FuncData}(Jm:Fun K "rest" "rest" rZ pH pA)(Jk:FnOk P w K mg base CX0 31 pH pA ["tree"] (vH K))(Ja:Binds K pA ["tree"] [])(HF:mg "rest"=some (.ref pH))
  (F:Fun K "load_of" "load_of" jW f fd):FnOk P w K mg base CX0 32 f fd ["word"] (vH K):=by
 refine okQ F abx `W `V
 ·obtain⟨x,t,rfl,_⟩:=h
  rfl
 obtain⟨x,t,rfl,ht,q⟩:=h
 refine⟨_,(au (aQ (aO Jk hr rfl HF Jm.kp Ja .nil pass0 (aj (qv 0) ak)))),?_⟩
 exact⟨_,rfl,x,t,rfl,ht,fun y H' S ty=>q _ _ S ty⟩
theorem ajH
  (F:Fun K "lay" "lay" DY f fd):FnOk P w K mg base CX0 31 f fd ["tree"] (agX K):=by
 refine okQ F ajf `W `V
 ·obtain⟨x,t,rfl,_⟩:=h
  rfl
 obtain⟨x,t,rfl,ht,h1,h2,q⟩:=h
 refine⟨_,(au (aQ (bD eV (bA (aj (bA ak) ak)) (qv 0)))),?_⟩
 have hl:=(show B 400 1000000 t from⟨h1,h2⟩)
 rw[<-vU t]at hl
 have hl:=hl.len
 refine⟨`R,fun p1 g1=>⟨`d,fun p2 g2=>?_⟩⟩
 obtain⟨S1,t1⟩:=dh (K:=K) (ts:=[]) g1 (bJ.mpr rfl)
 obtain⟨S2,t2⟩:=dh (K:=K) g2 (kh t1)
 exact⟨_,rfl,El t2 (nU (ht.mono (.of (S1.trans S2)))) (small (by rw[List.length_singleton];lia)) (fun z H' S tz=>q _ _ (S1.trans (S2.trans S)) tz)⟩
theorem afS
  (F:Fun K "plain" "plain" uc f fd):FnOk P w K mg base CX0 31 f fd ["sort"] (aak K):=by
 refine okQ F afm `W `V
 ·obtain⟨n,rfl,_⟩:=h
  rfl
 obtain⟨n,rfl,h1,h6,q⟩:=h
 refine⟨_,(au (aQ (bA (aj (bD qP (bA (aj (bA ak) ak)) (qv 0)) ak)))),?_⟩
 refine⟨`R,fun p1 g1=>⟨`d,fun p2 g2=>?_⟩⟩
 obtain⟨S1,t1⟩:=dh (K:=K) (ts:=[]) g1 (bJ.mpr rfl)
 obtain⟨S2,t2⟩:=dh (K:=K) g2 (kh t1)
 refine⟨_,rfl,af_ n t2 rfl `A `A `A (fun z H' S tz=>⟨`d,fun p3 g3=>?_⟩)⟩
 obtain⟨S3,t3⟩:=dh (K:=K) g3 (kh tz)
 exact q _ _ (S1.trans (S2.trans (S.trans S3))) t3
theorem ah8{eY:Value}(fB:mg "FORK"=some eY)(dR:RelV (.int 7) eY)
  (F:Fun K "fork" "fork" yJ f fd):FnOk P w K mg base CX0 31 f fd ["yes","no"] (adL K):=by
 refine okQ F ahs `W `V
 ·obtain⟨x,t,y,u,rfl,_⟩:=h
  rfl
 obtain⟨x,t,y,u,rfl,ht,hu,⟨h1,h2⟩,⟨h3,h4⟩,q⟩:=h
 refine⟨_,(au (aQ (bD eV (bA (aj (bD qP (bA (aj (bA ak) ak)) (aU (v:=.int 7) rfl fB dR)) (aj (qv 0) ak))) (qv 1)))),?_⟩
 have hl:=(show B 400 1000000 u from⟨h3,h4⟩)
 rw[<-vU u]at hl
 have hl:=hl.len
 refine⟨`R,fun p1 g1=>⟨`d,fun p2 g2=>?_⟩⟩
 obtain⟨S1,t1⟩:=dh (K:=K) (ts:=[]) g1 (bJ.mpr rfl)
 obtain⟨S2,t2⟩:=dh (K:=K) g2 (kh t1)
 refine abQ (k:=7) 7 t2 rfl rfl `B `B (fun z H' S tz=>⟨_,rfl,(by show 2<=sizeLine;decide),fun p3 g3=>?_⟩)
 obtain⟨S3,t3⟩:=dh (K:=K) g3 (abl tz (ht.mono (.of (S1.trans (S2.trans S)))))
 exact⟨_,rfl,El t3 (nU (hu.mono (.of (S1.trans (S2.trans (S.trans S3)))))) (Cm (by show 2+_<=_;lia)) (fun z4 H4 S4 t4=>q _ _ (S1.trans (S2.trans (S.trans (S3.trans S4)))) t4)⟩
theorem ah7{dB:Value}(dI:mg "WHILE"=some dB)(cY:RelV (.int 8) dB)
  (F:Fun K "loop" "loop" yI f fd):FnOk P w K mg base CX0 31 f fd ["body"] (adK K):=by
 refine okQ F ahr `W `V
 ·obtain⟨x,t,rfl,_⟩:=h
  rfl
 obtain⟨x,t,rfl,ht,h1,h2,q⟩:=h
 refine⟨_,(au (aQ (bD eV (bA (aj (bD qP (bA (aj (bA ak) ak)) (aU (v:=.int 8) rfl dI cY)) ak)) (qv 0)))),?_⟩
 have hl:=(show B 400 1000000 t from⟨h1,h2⟩)
 rw[<-vU t]at hl
 have hl:=hl.len
 refine⟨`R,fun p1 g1=>⟨`d,fun p2 g2=>?_⟩⟩
 obtain⟨S1,t1⟩:=dh (K:=K) (ts:=[]) g1 (bJ.mpr rfl)
 obtain⟨S2,t2⟩:=dh (K:=K) g2 (kh t1)
 refine abQ (k:=8) 8 t2 rfl rfl `B `B (fun z H' S tz=>⟨`d,fun p3 g3=>?_⟩)
 obtain⟨S3,t3⟩:=dh (K:=K) g3 (kh tz)
 exact⟨_,rfl,El t3 (nU (ht.mono (.of (S1.trans (S2.trans (S.trans S3)))))) (small (by show 1+_<=_;lia)) (fun z4 H4 S4 t4=>q _ _ (S1.trans (S2.trans (S.trans (S3.trans S4)))) t4)⟩
theorem afT
  (F:Fun K "parts" "parts" ud f fd):FnOk P w K mg base CX0 31 f fd ["tree"] (VJ K):=by
 refine okQ F yD `W `V
 ·obtain⟨x,t,rfl,_⟩:=h
  rfl
 obtain⟨x,t,rfl,ht,hz,q⟩:=h
 refine⟨_,(aq (bC (i:=1) yD.nd rfl `O (d7 (aj (qv 0) ak)))
   (aq (bC (i:=2) yD.nd rfl `O aN)
   (aq (uq PassesOwn.never (yN (qv 1) (fun _=>rfl)) (aq (bC (i:=3) yD.nd rfl `O (mV PySem.F.plainAttrs_list PySem.F.slot_list_pop PySem.F.type_list_pop jZ (qv 1)))
   (aq (adZ (i:=2) yD.nd rfl `O aN HX)
   (au (bO (cI PySem.F.plainAttrs_list PySem.F.slot_list_extend PySem.F.type_list_extend aaK (qv 1) (aj (qv 3) ak)))))))
   (au (aQ (qv 2)))))),?_⟩
 refine⟨_,rfl,`d,fun p hp=>?_⟩
 refine⟨aa1 K H x t.parts p,⟨_,[x],[t],0,none,rfl,same_new hp _,upd_same,b_.mpr ⟨x,[],rfl,ht.mono (Kt.new hp),bJ.mpr rfl⟩,by rw[T.aD,T.aZ];lia,rfl⟩,?_⟩
 rintro m σ H'⟨ys,ts,c,o,rfl,S,hl,htr,hc,rfl⟩
 refine⟨_,rfl,!ys.isEmpty,.inl ⟨ys,SqL.of hl,rfl⟩,?_⟩
 refine ite2 (fun hb=>?_) (fun hb=>?_)
 ·have hne:ys≠[]:=by rintro rfl;exact absurd hb `B
  obtain⟨y,hy⟩:=RD hne
  obtain⟨u,hu,hyu⟩:=htr.get hy
  rw[htr.length]at hu
  obtain⟨a,zs,rfl,h1,h2⟩:=vm hyu
  have hpl:=T.Ov hu
  refine⟨fun σ' H'=>∃m',m'<T.aG ts/\aa1 K H x t.parts p m' σ' H',fun _ _ h=>h,?_⟩
  refine⟨_,rfl,.inl ⟨rfl,_,SqL.of hl⟩,p,ys,_,rfl,rfl,hl,hy,?_⟩
  refine⟨_,rfl,_,_,rfl,rfl,?_⟩
  have hk:=T.cU u
  have aq8:=T.cB ts.dropLast
  have hlen2:=T.cB u.kids
  have e1:=htr.dropLast.length
  have e2:=h2.length
  refine⟨_,rfl,.inl ⟨rfl,_,SqL.of upd_same⟩,_,rfl,p,a,ys.dropLast,zs,rfl,rfl,upd_same,eU (Kt.lst hl) h1,Cm `A,?_⟩
  refine⟨_,?_,ys.dropLast++zs,ts.dropLast++u.kids,c+1,_,rfl,?_,upd_same,?_,?_,rfl⟩
  ·rw[T.bM]
   lia
  ·rw[Qq]
   exact bQ S hp
  ·rw[Qq]
   exact(htr.dropLast.append h2).mono (Kt.lst hl)
  ·rw[T.bM]
   lia
 ·have hys:ys=[]:=by
   cases ys with
   |nil=>rfl
   |cons _ _=>exact absurd rfl hb
  subst hys
  have hts:ts=[]:=List.length_eq_zero_iff.mp htr.length.symm
  subst hts
  rw[T.aZ]at hc
  refine⟨_,rfl,?_⟩
  have:(c:Int)=(t.parts:Int):=`A
  rw[this]
  exact q _ S
theorem ah9(abT:mg "sum"=none){oA:Value}(qR:mg "COPIED"=some oA)(mC:RelV (.int 13) oA){ou:Value}(qG:mg "TWIN"=some ou)(mU:RelV (.int 2) ou)
  (F:Fun K "cost" "cost" yK f fd):FnOk P w K mg base CX0 31 f fd ["tally"] (adN K):=by
 refine okQ F aht `W `V
 ·obtain⟨a,ns,rfl,_⟩:=h
  rfl
 obtain⟨a,ns,rfl,ha,hn,q⟩:=h
 refine⟨_,(au (aQ (bD op_add (bD op_sub (bV (aeJ rfl) rfl abT akO (aj (jo Jv (qv 0) nA (jF (aU (v:=.int 13) rfl qR mC))) ak)) (cH g_ (qv 0) (aU (v:=.int 2) rfl qG mU) (fun _ _=>rfl))) (cH g_ (qv 0) (aU (v:=.int 13) rfl qR mC) (fun _ _=>rfl))))),?_⟩
 refine⟨_,rfl,13,rfl,a,_,rfl,ha,fun p H1 S1 h1=>?_⟩
 rw[show(some (13:Int))=some ((13:Nat):Int)from rfl,aeH,aic]at h1
 have ha1:=eU (.of S1) ha
 refine⟨p,_,rfl,h1,_,rfl,a,_,_,_,rfl,rfl,ha1,ag3 (k:=2) `A,_,_,rfl,rfl,_,rfl,a,_,_,_,rfl,rfl,ha1,ag3 (k:=13) `A,_,_,rfl,rfl,q _ S1⟩
end
theorem all_mk{l:W.OpenLaw}{w:World}{K:W.Frag}{h:Heap}{mg:`U}{fa f1 f2 f3 f4 f5 f6 f7 f8 f9 f10 f11 f12 f13 f14 f15 f16 f17 f18 f19 f20 f21 f22 f23 f24 f25 f26 f27 f28 f29 f30 f31 f32 f33 f34 f35 f36 f37 f38 f39 f40 f41:Addr}(X:K.In h)(G:h.Ns mainGlobals mg)(hfa:mg "law"=some (.ref fa)){ao:Addr}{aB:Addr}{aF:Addr}{aH:Addr}{aL:Addr}{aJ:Addr}{h_:Addr}{Gv GF:Option Addr}{Gm:`g}{Gw Gy GC Gp tY GD:Value}{jt:Addr}{J7 Kl:Option Addr}{JZ:`g}{J9 Ka Ke J3 wK Kg:Value}{j5:Addr}{L_ Nz:Option Addr}{La:`g}{Mh MF Ni Lp zB Nr:Value}{iM:Addr}{Hy Jb:Option Addr}{G_:`g}{Hz HW Ie Ht vW Im:Value}{j7:Addr}{Mg NP:Option Addr}{Ld:`g}{Mj MN Nk Lr zF Nu:Value}{lN:Addr}{OJ P0:Option Addr}{Oh:`g}{O_ Pk PB Oq Ac PN:Value}{ju:Addr}{J8 Km:Option Addr}{J0:`g}{J_ Kc Kf J4 wL Kh:Value}{j6:Addr}{Mf NK:Option Addr}{Lb:`g}{Mi MJ Nj Lq zE Nt:Value}{mW:Addr}{Rp Td:Option Addr}{QF:`g}{Rq RQ R_ Rc Di Sy:Value}{tH:Addr}{Zo ZV:Option Addr}{Y4:`g}{Zt Zz ZG Ze KD ZL:Value}{o7:Addr}{U7 Vd:Option Addr}{UW:`g}{U8 U9 U_ U4 Gi Va:Value}{qI:Addr}{Xa Yu:Option Addr}{V2:`g}{Xd Xo X4 Wv Iu Yh:Value}{qJ:Addr}{Xb Yv:Option Addr}{V3:`g}{Xe Xp X5 Ww Iw Yi:Value}{C:Addr}{cS cT cX:Addr}{dS dT dX:ClassData}{tG:Addr}{Zn ZS:Option Addr}{Y0:`g}{Zr Zy ZF Zd KC ZK:Value}{HY:Addr}{ah_ aiM:Option Addr}{ahm:`g}{aia aiq aiB ahM aaX aiC:Value}{Df:Addr}{af3 agK:Option Addr}{afi:`g}{af6 agm agz afE Yl agC:Value}{Dc:Addr}{af2 agJ:Option Addr}{afh:`g}{af5 agl agy afD Yk agB:Value}{qH:Addr}{W_ Yt:Option Addr}{V1:`g}{Xc Xn X3 Wu Ir Yg:Value}{tE:Addr}{Zm ZR:Option Addr}{YZ:`g}{Zq Zx ZD Zc Kz ZJ:Value}{C_:Addr}{af0 agI:Option Addr}{afg:`g}{af4 agk agx afC Yj agA:Value}{rQ:Value}{bU:Addr}{JF:Obj}{vD:Value}{vA:Value}{lU:Value}{jQ:Value}{oh:Value}{gW:Value}{vC:Value}{GK:Value}{BW:Value}{GQ:Value}{yt:Value}{vB:Value}{yu:Value}{uU:Addr}{aaH:Obj}{fO:Value}{eY:Value}{dB:Value}{oA:Value}{ou:Value}
  {od1 an1 od2 an2 od3 an3 od4 an4 od5 an5 od6 an6 od7 an7 od8 an8 od9 an9 an0 aq4 anZ aq3 anY aq2 anW aq1 anV aq0 anU aqZ anT aqY anS aqX anR aqW anQ aqV anP aqU anO aqT anN aqS anM aqR anL aqQ anK aqP anJ aqO anI aqN anH aqM anG aqL anF aqK anE aqJ anD aqI anC aqH anB aqG anA aqF anz aqE anx aqD anw aqC anv aqB anu aqA ant ak6:Option Addr}{sl1 sl2 sl3 sl4 sl5 sl6 sl7 sl8 sl9 amL amK amJ amI amH amG amF amE amD amC amB amA amy amx amw amv amu amt ams amr amq amo amn amm aml amk amj ami amh amg amf ame:`g}{oc1 kV1 dc1 pm1 cd1 ct1 oc2 kV2 dc2 pm2 cd2 ct2 oc3 kV3 dc3 pm3 cd3 ct3 oc4 kV4 dc4 pm4 cd4 ct4 oc5 kV5 dc5 pm5 cd5 ct5 oc6 kV6 dc6 pm6 cd6 ct6 oc7 kV7 dc7 pm7 cd7 ct7 oc8 kV8 dc8 pm8 cd8 ct8 oc9 kV9 dc9 pm9 cd9 ct9 aoE apd ap3 anq akN aqx aoD apc ap2 anp akM aqw aoC apb ap1 ano akL aqv aoB apa ap0 anm akK aqu aoA ao_ apZ anl akJ aqt aoz ao9 apY ank akI aqs aoy ao8 apW anj akH aqr aox ao7 apV ani akG aqq aow ao6 apU anh akF aqp aov ao5 apT ang akE aqo aou ao4 apS anf akD aqn aot ao3 apR ane akC aqm aos ao2 apQ anc akB aql aor ao1 apP anb akA aqk aoq ao0 apO ana akz aqj aop aoZ apM am_ aky aqi aoo aoY apL am9 akx aqh aon aoX apK am8 akv aqg aom aoW apJ am7 aku aqf aol aoV apI am6 akt aqe aok aoU apH am5 aks aqd aoj aoT apG am4 akr aqc aoi aoS apF am3 akq aqb aoh aoR apE am2 akp aqa aog aoQ apD am1 ako ap_ aof aoP apC am0 akn ap9 aoe aoO apB amZ akm ap8 aod aoN apA amY akl ap7 aoc aoM apz amX akk ap6 aob aoL apy amW akj ap5 aoa aoK apx amV aki ap4 an_ ajX akf ajq agD akg:Value}
  (a1:W.nsIn K mainGlobals "show_tree"=some (some (.ref f1)))(l1:K.lookup f1=some ⟨oc1,od1,.func (W.fnOf "show_tree" "show_tree" (defArgs iW) (defBody iW) (defScope iW) .none kV1 dc1 pm1 an1 cd1 ct1),sl1⟩)(c1:W.codeIn K cd1 "show_tree"=true)(k1:W.keepIn K (.ref f1)=true)
  (a2:W.nsIn K mainGlobals "read_tree"=some (some (.ref f2)))(l2:K.lookup f2=some ⟨oc2,od2,.func (W.fnOf "read_tree" "read_tree" (defArgs iY) (defBody iY) (defScope iY) .none kV2 dc2 pm2 an2 cd2 ct2),sl2⟩)(c2:W.codeIn K cd2 "read_tree"=true)(k2:W.keepIn K (.ref f2)=true)
  (a3:W.nsIn K mainGlobals "first"=some (some (.ref f3)))(l3:K.lookup f3=some ⟨oc3,od3,.func (W.fnOf "first" "first" (defArgs jD) (defBody jD) (defScope jD) .none kV3 dc3 pm3 an3 cd3 ct3),sl3⟩)(c3:W.codeIn K cd3 "first"=true)(k3:W.keepIn K (.ref f3)=true)
  (a4:W.nsIn K mainGlobals "rest"=some (some (.ref f4)))(l4:K.lookup f4=some ⟨oc4,od4,.func (W.fnOf "rest" "rest" (defArgs rZ) (defBody rZ) (defScope rZ) .none kV4 dc4 pm4 an4 cd4 ct4),sl4⟩)(c4:W.codeIn K cd4 "rest"=true)(k4:W.keepIn K (.ref f4)=true)
  (a5:W.nsIn K mainGlobals "parts"=some (some (.ref f5)))(l5:K.lookup f5=some ⟨oc5,od5,.func (W.fnOf "parts" "parts" (defArgs ud) (defBody ud) (defScope ud) .none kV5 dc5 pm5 an5 cd5 ct5),sl5⟩)(c5:W.codeIn K cd5 "parts"=true)(k5:W.keepIn K (.ref f5)=true)
  (a6:W.nsIn K mainGlobals "sort_of"=some (some (.ref f6)))(l6:K.lookup f6=some ⟨oc6,od6,.func (W.fnOf "sort_of" "sort_of" (defArgs jU) (defBody jU) (defScope jU) .none kV6 dc6 pm6 an6 cd6 ct6),sl6⟩)(c6:W.codeIn K cd6 "sort_of"=true)(k6:W.keepIn K (.ref f6)=true)
  (a7:W.nsIn K mainGlobals "load_of"=some (some (.ref f7)))(l7:K.lookup f7=some ⟨oc7,od7,.func (W.fnOf "load_of" "load_of" (defArgs jW) (defBody jW) (defScope jW) .none kV7 dc7 pm7 an7 cd7 ct7),sl7⟩)(c7:W.codeIn K cd7 "load_of"=true)(k7:W.keepIn K (.ref f7)=true)
  (a8:W.nsIn K mainGlobals "lay"=some (some (.ref f8)))(l8:K.lookup f8=some ⟨oc8,od8,.func (W.fnOf "lay" "lay" (defArgs DY) (defBody DY) (defScope DY) .none kV8 dc8 pm8 an8 cd8 ct8),sl8⟩)(c8:W.codeIn K cd8 "lay"=true)(k8:W.keepIn K (.ref f8)=true)
  (a9:W.nsIn K mainGlobals "plain"=some (some (.ref f9)))(l9:K.lookup f9=some ⟨oc9,od9,.func (W.fnOf "plain" "plain" (defArgs uc) (defBody uc) (defScope uc) .none kV9 dc9 pm9 an9 cd9 ct9),sl9⟩)(c9:W.codeIn K cd9 "plain"=true)(k9:W.keepIn K (.ref f9)=true)
  (a10:W.nsIn K mainGlobals "fork"=some (some (.ref f10)))(l10:K.lookup f10=some ⟨aoE,an0,.func (W.fnOf "fork" "fork" (defArgs yJ) (defBody yJ) (defScope yJ) .none apd ap3 anq aq4 akN aqx),amL⟩)(c10:W.codeIn K akN "fork"=true)(k10:W.keepIn K (.ref f10)=true)
  (a11:W.nsIn K mainGlobals "loop"=some (some (.ref f11)))(l11:K.lookup f11=some ⟨aoD,anZ,.func (W.fnOf "loop" "loop" (defArgs yI) (defBody yI) (defScope yI) .none apc ap2 anp aq3 akM aqw),amK⟩)(c11:W.codeIn K akM "loop"=true)(k11:W.keepIn K (.ref f11)=true)
  (a12:W.nsIn K mainGlobals "show"=some (some (.ref f12)))(l12:K.lookup f12=some ⟨aoC,anY,.func (W.fnOf "show" "show" (defArgs yG) (defBody yG) (defScope yG) .none apb ap1 ano aq2 akL aqv),amJ⟩)(c12:W.codeIn K akL "show"=true)(k12:W.keepIn K (.ref f12)=true)
  (a13:W.nsIn K mainGlobals "spelled"=some (some (.ref f13)))(l13:K.lookup f13=some ⟨aoB,anW,.func (W.fnOf "spelled" "spelled" (defArgs oH) (defBody oH) (defScope oH) .none apa ap0 anm aq1 akK aqu),amI⟩)(c13:W.codeIn K akK "spelled"=true)(k13:W.keepIn K (.ref f13)=true)
  (a14:W.nsIn K mainGlobals "odd"=some (some (.ref f14)))(l14:K.lookup f14=some ⟨aoA,anV,.func (W.fnOf "odd" "odd" (defArgs uZ) (defBody uZ) (defScope uZ) .none ao_ apZ anl aq0 akJ aqt),amH⟩)(c14:W.codeIn K akJ "odd"=true)(k14:W.keepIn K (.ref f14)=true)
  (a15:W.nsIn K mainGlobals "read"=some (some (.ref f15)))(l15:K.lookup f15=some ⟨aoz,anU,.func (W.fnOf "read" "read" (defArgs yH) (defBody yH) (defScope yH) .none ao9 apY ank aqZ akI aqs),amG⟩)(c15:W.codeIn K akI "read"=true)(k15:W.keepIn K (.ref f15)=true)
  (a16:W.nsIn K mainGlobals "pieces_of"=some (some (.ref f16)))(l16:K.lookup f16=some ⟨aoy,anT,.func (W.fnOf "pieces_of" "pieces_of" (defArgs kj) (defBody kj) (defScope kj) .none ao8 apW anj aqY akH aqr),amF⟩)(c16:W.codeIn K akH "pieces_of"=true)(k16:W.keepIn K (.ref f16)=true)
  (a17:W.nsIn K mainGlobals "word_of"=some (some (.ref f17)))(l17:K.lookup f17=some ⟨aox,anS,.func (W.fnOf "word_of" "word_of" (defArgs oF) (defBody oF) (defScope oF) .none ao7 apV ani aqX akG aqq),amE⟩)(c17:W.codeIn K akG "word_of"=true)(k17:W.keepIn K (.ref f17)=true)
  (a18:W.nsIn K mainGlobals "tree_of"=some (some (.ref f18)))(l18:K.lookup f18=some ⟨aow,anR,.func (W.fnOf "tree_of" "tree_of" (defArgs oG) (defBody oG) (defScope oG) .none ao6 apU anh aqW akF aqp),amD⟩)(c18:W.codeIn K akF "tree_of"=true)(k18:W.keepIn K (.ref f18)=true)
  (a19:W.nsIn K mainGlobals "first_of"=some (some (.ref f19)))(l19:K.lookup f19=some ⟨aov,anQ,.func (W.fnOf "first_of" "first_of" (defArgs mj) (defBody mj) (defScope mj) .none ao5 apT ang aqV akE aqo),amC⟩)(c19:W.codeIn K akE "first_of"=true)(k19:W.keepIn K (.ref f19)=true)
  (a20:W.nsIn K mainGlobals "rest_of"=some (some (.ref f20)))(l20:K.lookup f20=some ⟨aou,anP,.func (W.fnOf "rest_of" "rest_of" (defArgs oJ) (defBody oJ) (defScope oJ) .none ao4 apS anf aqU akD aqn),amB⟩)(c20:W.codeIn K akD "rest_of"=true)(k20:W.keepIn K (.ref f20)=true)
  (a21:W.nsIn K mainGlobals "later"=some (some (.ref f21)))(l21:K.lookup f21=some ⟨aot,anO,.func (W.fnOf "later" "later" (defArgs uf) (defBody uf) (defScope uf) .none ao3 apR ane aqT akC aqm),amA⟩)(c21:W.codeIn K akC "later"=true)(k21:W.keepIn K (.ref f21)=true)
  (a22:W.nsIn K mainGlobals "unfronted"=some (some (.ref f22)))(l22:K.lookup f22=some ⟨aos,anN,.func (W.fnOf "unfronted" "unfronted" (defArgs iV) (defBody iV) (defScope iV) .none ao2 apQ anc aqS akB aql),amy⟩)(c22:W.codeIn K akB "unfronted"=true)(k22:W.keepIn K (.ref f22)=true)
  (a23:W.nsIn K mainGlobals "parts_within"=some (some (.ref f23)))(l23:K.lookup f23=some ⟨aor,anM,.func (W.fnOf "parts_within" "parts_within" (defArgs gG) (defBody gG) (defScope gG) .none ao1 apP anb aqR akA aqk),amx⟩)(c23:W.codeIn K akA "parts_within"=true)(k23:W.keepIn K (.ref f23)=true)
  (a24:W.nsIn K mainGlobals "as_tree"=some (some (.ref f24)))(l24:K.lookup f24=some ⟨aoq,anL,.func (W.fnOf "as_tree" "as_tree" (defArgs oK) (defBody oK) (defScope oK) .none ao0 apO ana aqQ akz aqj),amw⟩)(c24:W.codeIn K akz "as_tree"=true)(k24:W.keepIn K (.ref f24)=true)
  (a25:W.nsIn K mainGlobals "begin"=some (some (.ref f25)))(l25:K.lookup f25=some ⟨aop,anK,.func (W.fnOf "begin" "begin" (defArgs ug) (defBody ug) (defScope ug) .none aoZ apM am_ aqP aky aqi),amv⟩)(c25:W.codeIn K aky "begin"=true)(k25:W.keepIn K (.ref f25)=true)
  (a26:W.nsIn K mainGlobals "place_of"=some (some (.ref f26)))(l26:K.lookup f26=some ⟨aoo,anJ,.func (W.fnOf "place_of" "place_of" (defArgs jV) (defBody jV) (defScope jV) .none aoY apL am9 aqO akx aqh),amu⟩)(c26:W.codeIn K akx "place_of"=true)(k26:W.keepIn K (.ref f26)=true)
  (a27:W.nsIn K mainGlobals "cost"=some (some (.ref f27)))(l27:K.lookup f27=some ⟨aon,anI,.func (W.fnOf "cost" "cost" (defArgs yK) (defBody yK) (defScope yK) .none aoX apK am8 aqN akv aqg),amt⟩)(c27:W.codeIn K akv "cost"=true)(k27:W.keepIn K (.ref f27)=true)
  (a28:W.nsIn K mainGlobals "run"=some (some (.ref f28)))(l28:K.lookup f28=some ⟨aom,anH,.func (W.fnOf "run" "run" (defArgs zR) (defBody zR) (defScope zR) .none aoW apJ am7 aqM aku aqf),ams⟩)(c28:W.codeIn K aku "run"=true)(k28:W.keepIn K (.ref f28)=true)
  (a29:W.nsIn K mainGlobals "walked"=some (some (.ref f29)))(l29:K.lookup f29=some ⟨aol,anG,.func (W.fnOf "walked" "walked" (defArgs qO) (defBody qO) (defScope qO) .none aoV apI am6 aqL akt aqe),amr⟩)(c29:W.codeIn K akt "walked"=true)(k29:W.keepIn K (.ref f29)=true)
  (a30:W.nsIn K mainGlobals "work"=some (some (.ref f30)))(l30:K.lookup f30=some ⟨aok,anF,.func (W.fnOf "work" "work" (defArgs yF) (defBody yF) (defScope yF) .none aoU apH am5 aqK aks aqd),amq⟩)(c30:W.codeIn K aks "work"=true)(k30:W.keepIn K (.ref f30)=true)
  (a31:W.nsIn K mainGlobals "answered"=some (some (.ref f31)))(l31:K.lookup f31=some ⟨aoj,anE,.func (W.fnOf "answered" "answered" (defArgs mq) (defBody mq) (defScope mq) .none aoT apG am4 aqJ akr aqc),amo⟩)(c31:W.codeIn K akr "answered"=true)(k31:W.keepIn K (.ref f31)=true)
  (a32:W.nsIn K mainGlobals "_law_deck"=some (some (.ref f32)))(l32:K.lookup f32=some ⟨aoi,anD,.func (W.fnOf "_law_deck" "_law_deck" (defArgs i_) (defBody i_) (defScope i_) .none aoS apF am3 aqI akq aqb),amn⟩)(c32:W.codeIn K akq "_law_deck"=true)(k32:W.keepIn K (.ref f32)=true)
  (a33:W.nsIn K mainGlobals "_law_next"=some (some (.ref f33)))(l33:K.lookup f33=some ⟨aoh,anC,.func (W.fnOf "_law_next" "_law_next" (defArgs gR) (defBody gR) (defScope gR) .none aoR apE am2 aqH akp aqa),amm⟩)(c33:W.codeIn K akp "_law_next"=true)(k33:W.keepIn K (.ref f33)=true)
  (a34:W.nsIn K mainGlobals "_law_tree"=some (some (.ref f34)))(l34:K.lookup f34=some ⟨aog,anB,.func (W.fnOf "_law_tree" "_law_tree" (defArgs gQ) (defBody gQ) (defScope gQ) .none aoQ apD am1 aqG ako ap_),aml⟩)(c34:W.codeIn K ako "_law_tree"=true)(k34:W.keepIn K (.ref f34)=true)
  (a35:W.nsIn K mainGlobals "_law_leaves"=some (some (.ref f35)))(l35:K.lookup f35=some ⟨aof,anA,.func (W.fnOf "_law_leaves" "_law_leaves" (defArgs iJ) (defBody iJ) (defScope iJ) .none aoP apC am0 aqF akn ap9),amk⟩)(c35:W.codeIn K akn "_law_leaves"=true)(k35:W.keepIn K (.ref f35)=true)
  (a36:W.nsIn K mainGlobals "_law_word"=some (some (.ref f36)))(l36:K.lookup f36=some ⟨aoe,anz,.func (W.fnOf "_law_word" "_law_word" (defArgs kI) (defBody kI) (defScope kI) .none aoO apB amZ aqE akm ap8),amj⟩)(c36:W.codeIn K akm "_law_word"=true)(k36:W.keepIn K (.ref f36)=true)
  (a37:W.nsIn K mainGlobals "_law_text"=some (some (.ref f37)))(l37:K.lookup f37=some ⟨aod,anx,.func (W.fnOf "_law_text" "_law_text" (defArgs iZ) (defBody iZ) (defScope iZ) .none aoN apA amY aqD akl ap7),ami⟩)(c37:W.codeIn K akl "_law_text"=true)(k37:W.keepIn K (.ref f37)=true)
  (a38:W.nsIn K mainGlobals "_law_shown"=some (some (.ref f38)))(l38:K.lookup f38=some ⟨aoc,anw,.func (W.fnOf "_law_shown" "_law_shown" (defArgs gY) (defBody gY) (defScope gY) .none aoM apz amX aqC akk ap6),amh⟩)(c38:W.codeIn K akk "_law_shown"=true)(k38:W.keepIn K (.ref f38)=true)
  (a39:W.nsIn K mainGlobals "_law_asked"=some (some (.ref f39)))(l39:K.lookup f39=some ⟨aob,anv,.func (W.fnOf "_law_asked" "_law_asked" (defArgs jm) (defBody jm) (defScope jm) .none aoL apy amW aqB akj ap5),amg⟩)(c39:W.codeIn K akj "_law_asked"=true)(k39:W.keepIn K (.ref f39)=true)
  (a40:W.nsIn K mainGlobals "_law_refused"=some (some (.ref f40)))(l40:K.lookup f40=some ⟨aoa,anu,.func (W.fnOf "_law_refused" "_law_refused" (defArgs gH) (defBody gH) (defScope gH) .none aoK apx amV aqA aki ap4),amf⟩)(c40:W.codeIn K aki "_law_refused"=true)(k40:W.keepIn K (.ref f40)=true)
  (a41:W.nsIn K mainGlobals "law"=some (some (.ref f41)))(l41:K.lookup f41=some ⟨an_,ant,.func (W.fnOf "law" "law" (defArgs u6) (defBody u6) (defScope u6) .none ajX akf ajq ak6 agD akg),ame⟩)(c41:W.codeIn K agD "law"=true)(k41:W.keepIn K (.ref f41)=true)
  (Ga:W.nsIn K mainGlobals "Fronted"=some (some (.ref ao)))
  (Eb:W.plainGet K ao Str.empty=true)
  (Ez:W.hasDictIn K ao=true)
  (Ea:W.plainOver K ao=true)
  (DX:W.findIn K (.ref ao) "__setattr__"=some (some (.builtin "object.__setattr__")))
  (Em:W.makesIn K ao=true)
  (Es:W.keepIn K (.ref ao)=true)
  (uD:W.findIn K (.ref ao) "item"=some none)
  (qQ:W.findIn K (.ref ao) "behind"=some none)
  (NT:W.nsIn K mainGlobals "Later"=some (some (.ref aB)))
  (Ls:W.plainGet K aB Str.empty=true)
  (M4:W.hasDictIn K aB=true)
  (Lk:W.plainOver K aB=true)
  (Li:W.findIn K (.ref aB) "__setattr__"=some (some (.builtin "object.__setattr__")))
  (Mt:W.makesIn K aB=true)
  (Mx:W.keepIn K (.ref aB)=true)
  (yW:W.findIn K (.ref aB) "tree"=some none)
  (wu:W.findIn K (.ref aB) "place"=some none)
  (Tj:W.nsIn K mainGlobals "Word"=some (some (.ref aF)))
  (Rf:W.plainGet K aF Str.empty=true)
  (R0:W.hasDictIn K aF=true)
  (Q_:W.plainOver K aF=true)
  (Q0:W.findIn K (.ref aF) "__setattr__"=some (some (.builtin "object.__setattr__")))
  (Rt:W.makesIn K aF=true)
  (RM:W.keepIn K (.ref aF)=true)
  (Al:W.findIn K (.ref aF) "kind"=some none)
  (Ak:W.findIn K (.ref aF) "load"=some none)
  (Ek:W.findIn K (.ref aF) "yes"=some none)
  (HD:W.findIn K (.ref aF) "no"=some none)
  (Am:W.findIn K (.ref aF) "body"=some none)
  (Aj:W.findIn K (.ref aF) "size"=some none)
  (Tp:W.nsIn K mainGlobals "Text"=some (some (.ref aH)))
  (Rh:W.plainGet K aH Str.empty=true)
  (R4:W.hasDictIn K aH=true)
  (Rb:W.plainOver K aH=true)
  (Q6:W.findIn K (.ref aH) "__setattr__"=some (some (.builtin "object.__setattr__")))
  (Rv:W.makesIn K aH=true)
  (RP:W.keepIn K (.ref aH)=true)
  (Aq:W.findIn K (.ref aH) "tree"=some none)
  (yV:W.findIn K (.ref aH) "words"=some none)
  (NZ:W.nsIn K mainGlobals "Going"=some (some (.ref aL)))
  (Lw:W.plainGet K aL Str.empty=true)
  (M5:W.hasDictIn K aL=true)
  (Ln:W.plainOver K aL=true)
  (Lj:W.findIn K (.ref aL) "__setattr__"=some (some (.builtin "object.__setattr__")))
  (Mu:W.makesIn K aL=true)
  (Mz:W.keepIn K (.ref aL)=true)
  (yX:W.findIn K (.ref aL) "text"=some none)
  (wz:W.findIn K (.ref aL) "place"=some none)
  (Tn:W.nsIn K mainGlobals "Walk"=some (some (.ref aJ)))
  (Rg:W.plainGet K aJ Str.empty=true)
  (R3:W.hasDictIn K aJ=true)
  (Ra:W.plainOver K aJ=true)
  (Q5:W.findIn K (.ref aJ) "__setattr__"=some (some (.builtin "object.__setattr__")))
  (Ru:W.makesIn K aJ=true)
  (RN:W.keepIn K (.ref aJ)=true)
  (wj:W.findIn K (.ref aJ) "goings"=some none)
  (yU:W.findIn K (.ref aJ) "stack"=some none)
  (uz:W.findIn K (.ref aJ) "numbers"=some none)
  (Ao:W.findIn K (.ref aJ) "left"=some none)
  (Fb:W.findIn K (.ref ao) "__eq__"=some (some (.builtin "object.__eq__")))
  (Eh:W.mroIn K ao (.type "object")=some true)
  (Dy:W.mroIn K ao `b=some false)
  (DW:W.subIn K `b (.ref ao)=some false)
  (Ft:W.findIn K (.ref ao) "__class__"=some (some (.builtin "object.__class__")))
  (M_:W.findIn K (.ref aB) "__eq__"=some (some (.builtin "object.__eq__")))
  (Ml:W.mroIn K aB (.type "object")=some true)
  (K3:W.mroIn K aB `b=some false)
  (Lh:W.subIn K `b (.ref aB)=some false)
  (Ny:W.findIn K (.ref aB) "__class__"=some (some (.builtin "object.__class__")))
  (cn:W.specialIn K (.builtin "object.__class__") "__get__"=some (some (.builtin "getset_descriptor.__get__")))
  (ct:W.takesIn K (.builtin "object.__class__")=some true)
  (iTF:W.kitOne K `b (.ref ao)=some false)
  (iTL:W.kitOne K `b (.ref aB)=some false)
  (iFF:W.kitOne K (.ref ao) (.ref ao)=some true)
  (iLF:W.kitOne K (.ref aB) (.ref ao)=some false)
  (iLL:W.kitOne K (.ref aB) (.ref aB)=some true)
  (fH:W.findIn K (.ref ao) "__init__"=some (some (.ref h_)))
  (oZ:W.isFn K (.ref h_)=true)
  (oX:K.lookup h_=some ⟨Gw,Gv,.func (W.fnOf "__init__" "Fronted.__init__" (defArgs fj) (defBody fj) (defScope fj) .none Gy GC Gp GF tY GD),Gm⟩)
  (pC:W.codeIn K tY "Fronted.__init__"=true)
  (oY:W.keepIn K (.ref h_)=true)
  (gP:W.findIn K (.ref aB) "__init__"=some (some (.ref jt)))
  (qY:W.isFn K (.ref jt)=true)
  (qT:K.lookup jt=some ⟨J9,J7,.func (W.fnOf "__init__" "Later.__init__" (defArgs gJ) (defBody gJ) (defScope gJ) .none Ka Ke J3 Kl wK Kg),JZ⟩)
  (q_:W.codeIn K wK "Later.__init__"=true)
  (qW:W.keepIn K (.ref jt)=true)
  (iH:W.findIn K (.ref aF) "__init__"=some (some (.ref j5)))
  (sY:W.isFn K (.ref j5)=true)
  (sI:K.lookup j5=some ⟨Mh,L_,.func (W.fnOf "__init__" "Word.__init__" (defArgs iB) (defBody iB) (defScope iB) .none MF Ni Lp Nz zB Nr),La⟩)
  (tL:W.codeIn K zB "Word.__init__"=true)
  (sS:W.keepIn K (.ref j5)=true)
  (gk:W.findIn K (.ref aF) "body_parts"=some (some (.ref iM)))
  (qy:W.isFn K (.ref iM)=true)
  (qx:K.lookup iM=some ⟨Hz,Hy,.func (W.fnOf "body_parts" "Word.body_parts" (defArgs gb) (defBody gb) (defScope gb) .none HW Ie Ht Jb vW Im),G_⟩)
  (qz:W.codeIn K vW "Word.body_parts"=true)
  (lD:W.keepIn K (.ref iM)=true)
  (dj:W.findIn K (.ref aH) "__init__"=some (some (.ref j7)))
  (tD:W.isFn K (.ref j7)=true)
  (sO:K.lookup j7=some ⟨Mj,Mg,.func (W.fnOf "__init__" "Text.__init__" (defArgs iC) (defBody iC) (defScope iC) .none MN Nk Lr NP zF Nu),Ld⟩)
  (tO:W.codeIn K zF "Text.__init__"=true)
  (sW:W.keepIn K (.ref j7)=true)
  (jj:W.findIn K (.ref aH) "word_at"=some (some (.ref lN)))
  (uI:W.isFn K (.ref lN)=true)
  (uH:K.lookup lN=some ⟨O_,OJ,.func (W.fnOf "word_at" "Text.word_at" (defArgs jg) (defBody jg) (defScope jg) .none Pk PB Oq P0 Ac PN),Oh⟩)
  (uO:W.codeIn K Ac "Text.word_at"=true)
  (qd:W.keepIn K (.ref lN)=true)
  (cV:W.findIn K (.ref aL) "__init__"=some (some (.ref ju)))
  (qZ:W.isFn K (.ref ju)=true)
  (qU:K.lookup ju=some ⟨J_,J8,.func (W.fnOf "__init__" "Going.__init__" (defArgs gK) (defBody gK) (defScope gK) .none Kc Kf J4 Km wL Kh),J0⟩)
  (rm:W.codeIn K wL "Going.__init__"=true)
  (qX:W.keepIn K (.ref ju)=true)
  (iI:W.findIn K (.ref aJ) "__init__"=some (some (.ref j6)))
  (sZ:W.isFn K (.ref j6)=true)
  (sJ:K.lookup j6=some ⟨Mi,Mf,.func (W.fnOf "__init__" "Walk.__init__" (defArgs fV) (defBody fV) (defScope fV) .none MJ Nj Lq NK zE Nt),Lb⟩)
  (tM:W.codeIn K zE "Walk.__init__"=true)
  (sV:W.keepIn K (.ref j6)=true)
  (eN:W.findIn K (.ref aJ) "at_end"=some (some (.ref mW)))
  (wB:W.isFn K (.ref mW)=true)
  (wA:K.lookup mW=some ⟨Rq,Rp,.func (W.fnOf "at_end" "Walk.at_end" (defArgs jE) (defBody jE) (defScope jE) .none RQ R_ Rc Td Di Sy),QF⟩)
  (wD:W.codeIn K Di "Walk.at_end"=true)
  (qL:W.keepIn K (.ref mW)=true)
  (iT:W.findIn K (.ref aJ) "top"=some (some (.ref tH)))
  (Ey:W.isFn K (.ref tH)=true)
  (Er:K.lookup tH=some ⟨Zt,Zo,.func (W.fnOf "top" "Walk.top" (defArgs pQ) (defBody pQ) (defScope pQ) .none Zz ZG Ze ZV KD ZL),Y4⟩)
  (Fx:W.codeIn K KD "Walk.top"=true)
  (wR:W.keepIn K (.ref tH)=true)
  (lO:W.findIn K (.ref aJ) "tally"=some (some (.ref o7)))
  (zm:W.isFn K (.ref o7)=true)
  (zj:K.lookup o7=some ⟨U8,U7,.func (W.fnOf "tally" "Walk.tally" (defArgs lH) (defBody lH) (defScope lH) .none U9 U_ U4 Vd Gi Va),UW⟩)
  (zH:W.codeIn K Gi "Walk.tally"=true)
  (sU:W.keepIn K (.ref o7)=true)
  (nO:W.findIn K (.ref aJ) "step"=some (some (.ref qI)))
  (A_:W.isFn K (.ref qI)=true)
  (Ax:K.lookup qI=some ⟨Xd,Xa,.func (W.fnOf "step" "Walk.step" (defArgs nq) (defBody nq) (defScope nq) .none Xo X4 Wv Yu Iu Yh),V2⟩)
  (Bg:W.codeIn K Iu "Walk.step"=true)
  (vd:W.keepIn K (.ref qI)=true)
  (nQ:W.findIn K (.ref aJ) "move"=some (some (.ref qJ)))
  (Ba:W.isFn K (.ref qJ)=true)
  (Ay:K.lookup qJ=some ⟨Xe,Xb,.func (W.fnOf "move" "Walk.move" (defArgs nu) (defBody nu) (defScope nu) .none Xp X5 Ww Yv Iw Yi),V3⟩)
  (Bh:W.codeIn K Iw "Walk.move"=true)
  (vf:W.keepIn K (.ref qJ)=true)
  (aC:W.nsIn K mainGlobals "Reading"=some (some (.ref C)))
  (qp:W.findIn K (.ref C) "__init__"=some (some (.ref tG)))
  (Ew:W.isFn K (.ref tG)=true)
  (Ep:K.lookup tG=some ⟨Zr,Zn,.func (W.fnOf "__init__" "Reading.__init__" (defArgs pP) (defBody pP) (defScope pP) .none Zy ZF Zd ZS KC ZK),Y0⟩)
  (Fw:W.codeIn K KC "Reading.__init__"=true)
  (Et:W.keepIn K (.ref tG)=true)
  (Dk:W.findIn K (.ref C) "take"=some (some (.ref HY)))
  (Xq:W.isFn K (.ref HY)=true)
  (Xm:K.lookup HY=some ⟨aia,ah_,.func (W.fnOf "take" "Reading.take" (defArgs Cr) (defBody Cr) (defScope Cr) .none aiq aiB ahM aiM aaX aiC),ahm⟩)
  (Yo:W.codeIn K aaX "Reading.take"=true)
  (Pj:W.keepIn K (.ref HY)=true)
  (yg:W.findIn K (.ref C) "enter"=some (some (.ref Df)))
  (RZ:W.isFn K (.ref Df)=true)
  (RK:K.lookup Df=some ⟨af6,af3,.func (W.fnOf "enter" "Reading.enter" (defArgs xM) (defBody xM) (defScope xM) .none agm agz afE agK Yl agC),afi⟩)
  (SN:W.codeIn K Yl "Reading.enter"=true)
  (k_enter:W.keepIn K (.ref Df)=true)
  (yd:W.findIn K (.ref C) "leave"=some (some (.ref Dc)))
  (RX:W.isFn K (.ref Dc)=true)
  (RJ:K.lookup Dc=some ⟨af5,af2,.func (W.fnOf "leave" "Reading.leave" (defArgs xJ) (defBody xJ) (defScope xJ) .none agl agy afD agJ Yk agB),afh⟩)
  (SM:W.codeIn K Yk "Reading.leave"=true)
  (JL:W.keepIn K (.ref Dc)=true)
  (nJ:W.findIn K (.ref C) "bracketed"=some (some (.ref qH)))
  (Az:W.isFn K (.ref qH)=true)
  (Aw:K.lookup qH=some ⟨Xc,W_,.func (W.fnOf "bracketed" "Reading.bracketed" (defArgs nj) (defBody nj) (defScope nj) .none Xn X3 Wu Yt Ir Yg),V1⟩)
  (Bf:W.codeIn K Ir "Reading.bracketed"=true)
  (u_:W.keepIn K (.ref qH)=true)
  (qm:W.findIn K (.ref C) "add_word"=some (some (.ref tE)))
  (Eu:W.isFn K (.ref tE)=true)
  (Eo:K.lookup tE=some ⟨Zq,Zm,.func (W.fnOf "add_word" "Reading.add_word" (defArgs pO) (defBody pO) (defScope pO) .none Zx ZD Zc ZR Kz ZJ),YZ⟩)
  (Fv:W.codeIn K Kz "Reading.add_word"=true)
  (wQ:W.keepIn K (.ref tE)=true)
  (xZ:W.findIn K (.ref C) "whole"=some (some (.ref C_)))
  (RW:W.isFn K (.ref C_)=true)
  (RG:K.lookup C_=some ⟨af4,af0,.func (W.fnOf "whole" "Reading.whole" (defArgs xH) (defBody xH) (defScope xH) .none agk agx afC agI Yj agA),afg⟩)
  (SJ:W.codeIn K Yj "Reading.whole"=true)
  (k_whole:W.keepIn K (.ref C_)=true)
  (pg:W.plainGet K C Str.empty=true)
  (hd:W.hasDictIn K C=true)
  (po:W.plainOver K C=true)
  (sa:W.findIn K (.ref C) "__setattr__"=some (some (.builtin "object.__setattr__")))
  (mk:W.makesIn K C=true)
  (kc:W.keepIn K (.ref C)=true)
  (nR:W.findIn K (.ref C) "rows"=some none)
  (nP:W.findIn K (.ref C) "places"=some none)
  (nN:W.findIn K (.ref C) "named"=some none)
  (eS:W.nsIn K mainGlobals "SelfError"=some (some (.ref cS)))
  (eT:W.nsIn K mainGlobals "NoTree"=some (some (.ref cT)))
  (eX:W.nsIn K mainGlobals "NoText"=some (some (.ref cX)))
  (xT:W.excIn K cT [.type "ValueError",.type "Exception",.type "BaseException",.type "object"] "ValueError.__new__"=true)
  (xX:W.excIn K cX [.type "ValueError",.type "Exception",.type "BaseException",.type "object"] "ValueError.__new__"=true)
  (kpX:W.keepIn K (.ref cX)=true)
  (t1:W.typeIn K (.ref cS)=some (.type "type"))
  (t2:W.subIn K (.ref cS) (.type "BaseException")=some true)
  (t3:W.clsIn K cS=some dS)
  (t1T:W.typeIn K (.ref cT)=some (.type "type"))
  (t2T:W.subIn K (.ref cT) (.type "BaseException")=some true)
  (sTT:W.subIn K (.ref cT) (.ref cT)=some true)
  (sX:W.subIn K (.ref cX) (.ref cS)=some true)
  (g1X:W.clsIn K cX=some dX)
  (g2X:W.findIn K (.ref cX) "__getattribute__"=some (some (.builtin "BaseException.__getattribute__")))
  (g3X:W.findIn K (.ref cX) "__getattr__"=some none)
  (g4X:W.findIn K (.ref cX) "__class__"=some (some (.builtin "object.__class__")))
  (g5X:W.mroIn K cX (.type "object")=some true)
  (g6X:W.subIn K (.ref cX) (.type "BaseException")=some true)
  (sT:W.subIn K (.ref cT) (.ref cS)=some true)
  (g1T:W.clsIn K cT=some dT)
  (g2T:W.findIn K (.ref cT) "__getattribute__"=some (some (.builtin "BaseException.__getattribute__")))
  (g3T:W.findIn K (.ref cT) "__getattr__"=some none)
  (g4T:W.findIn K (.ref cT) "__class__"=some (some (.builtin "object.__class__")))
  (g5T:W.mroIn K cT (.type "object")=some true)
  (g6T:W.subIn K (.ref cT) (.type "BaseException")=some true)
  (iXT:W.kitOne K (.ref cX) (.ref cT)=some false)
  (iXX:W.kitOne K (.ref cX) (.ref cX)=some true)
  (iXV:W.kitOne K (.ref cX) (.type "ValueError")=some true)
  (iTT:W.kitOne K (.ref cT) (.ref cT)=some true)
  (iTX:W.kitOne K (.ref cT) (.ref cX)=some false)
  (iTV:W.kitOne K (.ref cT) (.type "ValueError")=some true)
  (aci:W.nsIn K mainGlobals "LAY"=some (some rQ))
  (sy:RelV (.int 0) rQ)
  (R7:W.nsIn K mainGlobals "NAMES"=some (some (.ref bU)))
  (JK:K.lookup bU=some JF)
  (Ce:acJ JF [.str (PySem.Str.ofString "lay"),.str (PySem.Str.ofString "drop"),.str (PySem.Str.ofString "twin"),.str (PySem.Str.ofString "swap"),.str (PySem.Str.ofString "front"),.str (PySem.Str.ofString "part"),.str (PySem.Str.ofString "turn"),.str (PySem.Str.ofString "fork"),.str (PySem.Str.ofString "while")])
  (XR:W.nsIn K mainGlobals "DROP"=some (some vD))
  (vM:RelV (.int 1) vD)
  (XF:W.nsIn K mainGlobals "TURN"=some (some vA))
  (vJ:RelV (.int 6) vA)
  (Ib:W.nsIn K mainGlobals "FORK_NO"=some (some lU))
  (lV:RelV (.int 8) lU)
  (Fe:W.nsIn K mainGlobals "FORK_YES"=some (some jQ))
  (jX:RelV (.int 7) jQ)
  (zp:W.nsIn K mainGlobals "WHILE_PAST"=some (some oh))
  (oM:RelV (.int 10) oh)
  (zq:W.nsIn K mainGlobals "WHILE_INTO"=some (some gW))
  (gZ:RelV (.int 9) gW)
  (Ia:W.nsIn K mainGlobals "NO_WORD"=some (some vC))
  (vL:RelV (.int 11) vC)
  (XH:W.nsIn K mainGlobals "SWAP"=some (some GK))
  (Ho:RelV (.int 3) GK)
  (R9:W.nsIn K mainGlobals "FRONT"=some (some BW))
  (Cu:RelV (.int 4) BW)
  (XM:W.nsIn K mainGlobals "PART"=some (some GQ))
  (Hq:RelV (.int 5) GQ)
  (Nb:W.nsIn K mainGlobals "PLACES"=some (some yt))
  (yL:RelV (.int 15) yt)
  (XJ:W.nsIn K mainGlobals "SHUT"=some (some vB))
  (vK:RelV (.int 12) vB)
  (Ng:W.nsIn K mainGlobals "BODIES"=some (some yu))
  (yM:RelV (.int 14) yu)
  (R8:W.nsIn K mainGlobals "LOOKS"=some (some (.ref uU)))
  (RL:K.lookup uU=some aaH)
  (Qu:acJ aaH [.int 0,.int 1,.int 1,.int 2,.int 2,.int 1,.int 3,.int 1,.int 1,.int 1,.int 1,.int 0,.int 0])
  (u_N:JF.cls=`b/\JF.dict=none)
  (Fd:W.nsIn K mainGlobals "NAMELESS"=some (some fO))
  (fX:RelV (.int 9) fO)
  (XQ:W.nsIn K mainGlobals "FORK"=some (some eY))
  (dR:RelV (.int 7) eY)
  (R6:W.nsIn K mainGlobals "WHILE"=some (some dB))
  (cY:RelV (.int 8) dB)
  (Nf:W.nsIn K mainGlobals "COPIED"=some (some oA))
  (mC:RelV (.int 13) oA)
  (XD:W.nsIn K mainGlobals "TWIN"=some (some ou))
  (mU:RelV (.int 2) ou)
  (Vm:W.nsIn K mainGlobals "list"=some none)(Dq:W.nsIn K mainGlobals "reversed"=some none)(yj:W.nsIn K mainGlobals "isinstance"=some none)(aa_:W.nsIn K mainGlobals "str"=some none)(abd:W.nsIn K mainGlobals "len"=some none)(Qm:W.nsIn K mainGlobals "tuple"=some none)(abb:W.nsIn K mainGlobals "min"=some none)(abe:W.nsIn K mainGlobals "any"=some none)(aa9:W.nsIn K mainGlobals "sum"=some none)(Qn:W.nsIn K mainGlobals "range"=some none)(yp:W.nsIn K mainGlobals "ValueError"=some none):
  ∃fd:FuncData,(∀(s:Shared)(v:Value),BindsTo s fd ⟨[v],[]⟩ [("_law_script",v)])/\∀base:Heap,K.In base->base.Ns mainGlobals mg->FnOk l.prog w K mg base CX0 440 fa fd ["_law_script"] (spLaw K):=by
 have e:=hfa.symm.trans (W.mg_of X G a41)
 cases e
 have F1:=fun_mk (st:=iW) l1 c1 k1
 have F2:=fun_mk (st:=iY) l2 c2 k2
 have F3:=fun_mk (st:=jD) l3 c3 k3
 have F4:=fun_mk (st:=rZ) l4 c4 k4
 have F5:=fun_mk (st:=ud) l5 c5 k5
 have F6:=fun_mk (st:=jU) l6 c6 k6
 have F7:=fun_mk (st:=jW) l7 c7 k7
 have F8:=fun_mk (st:=DY) l8 c8 k8
 have F9:=fun_mk (st:=uc) l9 c9 k9
 have F10:=fun_mk (st:=yJ) l10 c10 k10
 have F11:=fun_mk (st:=yI) l11 c11 k11
 have F12:=fun_mk (st:=yG) l12 c12 k12
 have F13:=fun_mk (st:=oH) l13 c13 k13
 have F14:=fun_mk (st:=uZ) l14 c14 k14
 have F15:=fun_mk (st:=yH) l15 c15 k15
 have F16:=fun_mk (st:=kj) l16 c16 k16
 have F17:=fun_mk (st:=oF) l17 c17 k17
 have F18:=fun_mk (st:=oG) l18 c18 k18
 have F19:=fun_mk (st:=mj) l19 c19 k19
 have F20:=fun_mk (st:=oJ) l20 c20 k20
 have F21:=fun_mk (st:=uf) l21 c21 k21
 have F22:=fun_mk (st:=iV) l22 c22 k22
 have F23:=fun_mk (st:=gG) l23 c23 k23
 have F24:=fun_mk (st:=oK) l24 c24 k24
 have F25:=fun_mk (st:=ug) l25 c25 k25
 have F26:=fun_mk (st:=jV) l26 c26 k26
 have F27:=fun_mk (st:=yK) l27 c27 k27
 have F28:=fun_mk (st:=zR) l28 c28 k28
 have F29:=fun_mk (st:=qO) l29 c29 k29
 have F30:=fun_mk (st:=yF) l30 c30 k30
 have F31:=fun_mk (st:=mq) l31 c31 k31
 have F32:=fun_mk (st:=i_) l32 c32 k32
 have F33:=fun_mk (st:=gR) l33 c33 k33
 have F34:=fun_mk (st:=gQ) l34 c34 k34
 have F35:=fun_mk (st:=iJ) l35 c35 k35
 have F36:=fun_mk (st:=kI) l36 c36 k36
 have F37:=fun_mk (st:=iZ) l37 c37 k37
 have F38:=fun_mk (st:=gY) l38 c38 k38
 have F39:=fun_mk (st:=jm) l39 c39 k39
 have F40:=fun_mk (st:=gH) l40 c40 k40
 have F41:=fun_mk (st:=u6) l41 c41 k41
 have b1:=F1.binds (ps:=["tree"]) `e
 have m1:=W.mg_of X G a1
 have b2:=F2.binds (ps:=["text"]) `e
 have m2:=W.mg_of X G a2
 have b3:=F3.binds (ps:=["tree"]) `e
 have m3:=W.mg_of X G a3
 have b4:=F4.binds (ps:=["tree"]) `e
 have m4:=W.mg_of X G a4
 have b5:=F5.binds (ps:=["tree"]) `e
 have m5:=W.mg_of X G a5
 have b6:=F6.binds (ps:=["word"]) `e
 have m6:=W.mg_of X G a6
 have b7:=F7.binds (ps:=["word"]) `e
 have m7:=W.mg_of X G a7
 have b8:=F8.binds (ps:=["tree"]) `e
 have m8:=W.mg_of X G a8
 have b9:=F9.binds (ps:=["sort"]) `e
 have m9:=W.mg_of X G a9
 have b10:=F10.binds (ps:=["yes","no"]) `m
 have m10:=W.mg_of X G a10
 have b11:=F11.binds (ps:=["body"]) `e
 have m11:=W.mg_of X G a11
 have b12:=F12.binds (ps:=["text"]) `e
 have m12:=W.mg_of X G a12
 have b13:=F13.binds (ps:=["word"]) `e
 have m13:=W.mg_of X G a13
 have b14:=F14.binds (ps:=["word"]) `e
 have m14:=W.mg_of X G a14
 have b15:=F15.binds (ps:=["signs"]) `e
 have m15:=W.mg_of X G a15
 have b16:=F16.binds (ps:=["signs"]) `e
 have m16:=W.mg_of X G a16
 have b17:=F17.binds (ps:=["piece"]) `e
 have m17:=W.mg_of X G a17
 have b18:=F18.binds (ps:=["signs"]) `e
 have m18:=W.mg_of X G a18
 have b19:=F19.binds (ps:=["row"]) `e
 have m19:=W.mg_of X G a19
 have b20:=F20.binds (ps:=["row"]) `e
 have m20:=W.mg_of X G a20
 have b21:=F21.binds (ps:=["tree","place"]) `m
 have m21:=W.mg_of X G a21
 have b22:=F22.binds (ps:=["row"]) `e
 have m22:=W.mg_of X G a22
 have b23:=F23.binds (ps:=["row","most"]) `m
 have m23:=W.mg_of X G a23
 have b24:=F24.binds (ps:=["row"]) `e
 have m24:=W.mg_of X G a24
 have b25:=F25.binds (ps:=["text","tree"]) `m
 have m25:=W.mg_of X G a25
 have b26:=F26.binds (ps:=["sort","top"]) `m
 have m26:=W.mg_of X G a26
 have b27:=F27.binds (ps:=["tally"]) `e
 have m27:=W.mg_of X G a27
 have b28:=F28.binds (ps:=["text","tree","budget"]) fun _ _ _ _ _ _ us hl=>match us,hl with|[_,_,_],_=>rfl
 have m28:=W.mg_of X G a28
 have b29:=F29.binds (ps:=["stand","budget"]) `m
 have m29:=W.mg_of X G a29
 have b30:=F30.binds (ps:=["step","load","stack"]) fun _ _ _ _ _ _ us hl=>match us,hl with|[_,_,_],_=>rfl
 have m30:=W.mg_of X G a30
 have b31:=F31.binds (ps:=["signs","tree_signs","budget"]) fun _ _ _ _ _ _ us hl=>match us,hl with|[_,_,_],_=>rfl
 have m31:=W.mg_of X G a31
 have b32:=F32.binds (ps:=["_law_script"]) `e
 have m32:=W.mg_of X G a32
 have b33:=F33.binds (ps:=["_law_deck_here","_law_many"]) `m
 have m33:=W.mg_of X G a33
 have b34:=F34.binds (ps:=`l) `m
 have m34:=W.mg_of X G a34
 have b35:=F35.binds (ps:=["_law_many"]) `e
 have m35:=W.mg_of X G a35
 have b36:=F36.binds (ps:=`l) `m
 have m36:=W.mg_of X G a36
 have b37:=F37.binds (ps:=`l) `m
 have m37:=W.mg_of X G a37
 have b38:=F38.binds (ps:=["_law_tree_here"]) `e
 have m38:=W.mg_of X G a38
 have b39:=F39.binds (ps:=["_law_signs","_law_tree_signs","_law_budget"]) fun _ _ _ _ _ _ us hl=>match us,hl with|[_,_,_],_=>rfl
 have m39:=W.mg_of X G a39
 have b40:=F40.binds (ps:=["_law_pair","_law_text_here"]) `m
 have m40:=W.mg_of X G a40
 have qF:=W.mg_none_of X G Vm
 have fY:=W.mg_none_of X G Dq
 have bf:=W.mg_none_of X G yj
 have pY:=W.mg_none_of X G aa_
 have cL:=W.mg_none_of X G abd
 have cN:=W.mg_none_of X G Qm
 have abX:=W.mg_none_of X G abb
 have abZ:=W.mg_none_of X G abe
 have abT:=W.mg_none_of X G aa9
 have lK:=W.mg_none_of X G Qn
 have zc:=W.mg_none_of X G yp
 have dF:=W.mg_of X G Ga
 have jJ:=W.mg_of X G NT
 have Xh:=W.mg_of X G Tj
 have vQ:=W.mg_of X G Tp
 have rE:=W.mg_of X G NZ
 have Xi:=W.mg_of X G Tn
 have O:`i:=⟨⟨⟨Eb,Ez,Ea,DX⟩,Fb,Eh,Dy,DW,Ft,cn,ct⟩,⟨⟨Ls,M4,Lk,Li⟩,M_,Ml,K3,Lh,Ny,cn,ct⟩,⟨Rf,R0,Q_,Q0⟩,⟨Rh,R4,Rb,Q6⟩,⟨Lw,M5,Ln,Lj⟩,⟨Rg,R3,Ra,Q5⟩,uD,qQ,yW,wu,Al,Ak,Ek,HD,Am,Aj,Aq,yV,yX,wz,wj,yU,uz,Ao,iTF,iTL,iFF,iLF,iLL⟩
 have v8:=fun_mk (st:=fj) oX pC oY
 have pG:=v8.binds (ps:=["self","item","behind"]) fun _ _ _ _ _ _ us hl=>match us,hl with|[_,_,_],_=>rfl
 have Gb:Mk K ao h_:=⟨Em,fH,oZ,Es⟩
 have zO:=fun_mk (st:=gJ) qT q_ qW
 have rA:=zO.binds (ps:=["self","tree","place"]) fun _ _ _ _ _ _ us hl=>match us,hl with|[_,_,_],_=>rfl
 have N7:Mk K aB jt:=⟨Mt,gP,qY,Mx⟩
 have Ae:=fun_mk (st:=iB) sI tL sS
 have tR:=Ae.binds (ps:=["self","tree"]) `m
 have Tv:Mk K aF j5:=⟨Rt,iH,sY,RM⟩
 have wM:=fun_mk (st:=gb) qx qz lD
 have qC:=wM.binds (ps:=["self"]) `e
 have qD:Meth K aF "body_parts" iM:=⟨gk,qy,lD⟩
 have Ag:=fun_mk (st:=iC) sO tO sW
 have dY:=Ag.binds (ps:=["self","tree"]) `m
 have rM:Mk K aH j7:=⟨Rv,dj,tD,RP⟩
 have Dn:=fun_mk (st:=jg) uH uO qd
 have uQ:=Dn.binds (ps:=["self","place"]) `m
 have uW:Meth K aH "word_at" lN:=⟨jj,uI,qd⟩
 have zP:=fun_mk (st:=gK) qU rm qX
 have dG:=zP.binds (ps:=["self","text"]) `m
 have pJ:Mk K aL ju:=⟨Mu,cV,qZ,Mz⟩
 have Af:=fun_mk (st:=fV) sJ tM sV
 have tU:=Af.binds (ps:=["self","stand","budget"]) fun _ _ _ _ _ _ us hl=>match us,hl with|[_,_,_],_=>rfl
 have Tw:Mk K aJ j6:=⟨Ru,iI,sZ,RN⟩
 have Gk:=fun_mk (st:=jE) wA wD qL
 have jL:=Gk.binds (ps:=["self"]) `e
 have jM:Meth K aJ "at_end" mW:=⟨eN,wB,qL⟩
 have Qi:=fun_mk (st:=pQ) Er Fx wR
 have mK:=Qi.binds (ps:=["self"]) `e
 have mQ:Meth K aJ "top" tH:=⟨iT,Ey,wR⟩
 have Jo:=fun_mk (st:=lH) zj zH sU
 have zJ:=Jo.binds (ps:=["self"]) `e
 have zN:Meth K aJ "tally" o7:=⟨lO,zm,sU⟩
 have KQ:=fun_mk (st:=nq) Ax Bg vd
 have Bm:=KQ.binds (ps:=["self"]) `e
 have Bt:Meth K aJ "step" qI:=⟨nO,A_,vd⟩
 have KR:=fun_mk (st:=nu) Ay Bh vf
 have Bo:=KR.binds (ps:=["self","step","going","word"]) fun _ _ _ _ _ _ us hl=>match us,hl with|[_,_,_,_],_=>rfl
 have Bu:Meth K aJ "move" qJ:=⟨nQ,Ba,vf⟩
 have Qh:=fun_mk (st:=pP) Ep Fw Et
 have Fz:=Qh.binds (ps:=["self"]) `e
 have aeZ:=fun_mk (st:=Cr) Xm Yo Pj
 have Ys:=aeZ.binds (ps:=["self","piece"]) `m
 have YQ:Meth K C "take" HY:=⟨Dk,Xq,Pj⟩
 have aa7:=fun_mk (st:=xM) RK SN k_enter
 have JQ:=aa7.binds (ps:=["self","place"]) `m
 have JX:Meth K C "enter" Df:=⟨yg,RZ,k_enter⟩
 have aa5:=fun_mk (st:=xJ) RJ SM JL
 have Dj:=aa5.binds (ps:=["self"]) `e
 have Dm:Meth K C "leave" Dc:=⟨yd,RX,JL⟩
 have KN:=fun_mk (st:=nj) Aw Bf u_
 have Bl:=KN.binds (ps:=["self"]) `e
 have Bs:Meth K C "bracketed" qH:=⟨nJ,Az,u_⟩
 have Qg:=fun_mk (st:=pO) Eo Fv wQ
 have wX:=Qg.binds (ps:=["self","word"]) `m
 have wY:Meth K C "add_word" tE:=⟨qm,Eu,wQ⟩
 have aa4:=fun_mk (st:=xH) RG SJ k_whole
 have SX:=aa4.binds (ps:=["self"]) `e
 have Tt:Meth K C "whole" C_:=⟨xZ,RW,k_whole⟩
 have cC:Cls K C:=⟨pg,hd,po,sa⟩
 have MK:Mk K C tG:=⟨mk,qp,Ew,kc⟩
 have HJ:=W.mg_of X G aC
 have mS:=W.mg_of X G eS
 have mT:=W.mg_of X G eT
 have mX:=W.mg_of X G eX
 have Z:Xs8 K mg cS cT cX:=⟨mS,mT,mX,t1,t2,⟨_,t3⟩,sX,sT,⟨⟨_,g1X⟩,g2X,g3X,g4X,g5X,g6X⟩,⟨⟨_,g1T⟩,g2T,g3T,g4T,g5T,g6T⟩,iXT,iXX,iXV,iTT,iTX,iTV⟩
 have wN:=W.mg_of X G aci
 have iG:=W.mg_of X G R7
 have pW:=fun H=>Ce.sq (H:=H) JK
 have CQ:=W.mg_of X G XR
 have CN:=W.mg_of X G XF
 have rG:=W.mg_of X G Ib
 have p8:=W.mg_of X G Fe
 have yZ:=W.mg_of X G zp
 have lM:=W.mg_of X G zq
 have HN:=W.mg_of X G Ia
 have Xj:=W.mg_of X G XH
 have Rz:=W.mg_of X G R9
 have Xk:=W.mg_of X G XM
 have Mv:=W.mg_of X G Nb
 have CP:=W.mg_of X G XJ
 have Mw:=W.mg_of X G Ng
 have Ry:=W.mg_of X G R8
 have Q9:=fun H=>Qu.sq (H:=H) RL
 have iQ:=W.mg_of X G Fd
 have fB:=W.mg_of X G XQ
 have dI:=W.mg_of X G R6
 have qR:=W.mg_of X G Nf
 have qG:=W.mg_of X G XD
 refine⟨W.fnOf "law" "law" (defArgs u6) (defBody u6) (defScope u6) .none ajX akf ajq ak6 agD akg,fun s v=>.of_eq rfl,fun base _ _=>?_⟩
 have O1:=WW (P:=l.prog) (w:=w) (mg:=mg) (base:=base) qF fY F1
 have O2:=WX (P:=l.prog) (w:=w) (mg:=mg) (base:=base) bf pY cL cN xT mT F2
 have O3:=afW (P:=l.prog) (w:=w) (mg:=mg) (base:=base) F3
 have O4:=ah5 (P:=l.prog) (w:=w) (mg:=mg) (base:=base) F4
 have O5:=afT (P:=l.prog) (w:=w) (mg:=mg) (base:=base) F5
 have O8:=ajH (P:=l.prog) (w:=w) (mg:=mg) (base:=base) F8
 have O9:=afS (P:=l.prog) (w:=w) (mg:=mg) (base:=base) F9
 have O10:=ah8 (P:=l.prog) (w:=w) (mg:=mg) (base:=base) fB dR F10
 have O11:=ah7 (P:=l.prog) (w:=w) (mg:=mg) (base:=base) dI cY F11
 have O16:=WY (P:=l.prog) (w:=w) (mg:=mg) (base:=base) F16
 have O22:=WT (P:=l.prog) (w:=w) (mg:=mg) (base:=base) O bf jJ F22
 have O25:=afY (P:=l.prog) (w:=w) (mg:=mg) (base:=base) F25
 have O26:=Zf (P:=l.prog) (w:=w) (mg:=mg) (base:=base) O fB dR rG lV p8 jX dI cY yZ oM lM gZ iQ fX HN vL F26
 have O27:=ah9 (P:=l.prog) (w:=w) (mg:=mg) (base:=base) abT qR mC qG mU F27
 have O33:=W3 (P:=l.prog) (w:=w) (mg:=mg) (base:=base) cL F33
 have O35:=Rn (P:=l.prog) (w:=w) (mg:=mg) (base:=base) F35
 have O40:=Oz (P:=l.prog) (w:=w) (mg:=mg) (base:=base) bf zc Z F40
 have Ji:=Gu (P:=l.prog) (w:=w) (mg:=mg) (base:=base) O v8
 have N6:=J5 (P:=l.prog) (w:=w) (mg:=mg) (base:=base) O zO
 have Ad:=LK (P:=l.prog) (w:=w) (mg:=mg) (base:=base) O Ag
 have zM:=J6 (P:=l.prog) (w:=w) (mg:=mg) (base:=base) O zP
 have Gj:=Ro (P:=l.prog) (w:=w) (mg:=mg) (base:=base) O Gk
 have Qa:=Zk (P:=l.prog) (w:=w) (mg:=mg) (base:=base) O Qi
 have YM:=U6 (P:=l.prog) (w:=w) (mg:=mg) (base:=base) O cN Jo
 have acM:=Zj (P:=l.prog) (w:=w) (mg:=mg) (base:=base) cC nR nP nN Qh
 have aiP:=afX (P:=l.prog) (w:=w) (mg:=mg) (base:=base) cC nR nP nN aa7
 have aiO:=afU (P:=l.prog) (w:=w) (mg:=mg) (base:=base) cC nR nP nN cN aa5
 have acL:=Zi (P:=l.prog) (w:=w) (mg:=mg) (base:=base) cC nR nP nN Qg
 have aiN:=afR (P:=l.prog) (w:=w) (mg:=mg) (base:=base) cC nR nP nN xX mX cL cN aa4
 have O6:=abL (P:=l.prog) (w:=w) (mg:=mg) (base:=base) abX cL iQ fX F3 (O3.mono `B) b3 m3 F6
 have O7:=abN (P:=l.prog) (w:=w) (mg:=mg) (base:=base) F4 (O4.mono `B) b4 m4 F7
 have O19:=Zg (P:=l.prog) (w:=w) (mg:=mg) (base:=base) O bf F3 (O3.mono `B) b3 m3 dF jJ F19
 have O23:=Ox (P:=l.prog) (w:=w) (mg:=mg) (base:=base) O bf F22 (O22.mono `B) b22 m22 dF F23
 have O24:=abO (P:=l.prog) (w:=w) (mg:=mg) (base:=base) O bf cN F22 (O22.mono `B) b22 m22 dF F24
 have O32:=W4 (P:=l.prog) (w:=w) (mg:=mg) (base:=base) lK cL F32
 have O14:=ajG (P:=l.prog) (w:=w) (mg:=mg) (base:=base) abZ dI cY wN sy fB dR iQ fX F3 (O3.mono `B) b3 m3 F6 (O6.mono `B) b6 m6 F7 (O7.mono `B) b7 m7 F14
 have O18:=abJ (P:=l.prog) (w:=w) (mg:=mg) (base:=base) mT t1T t2T ⟨_,g1T⟩ sTT kpX xX mX F2 (O2.mono `B) b2 m2 F18
 have O21:=afV (P:=l.prog) (w:=w) (mg:=mg) (base:=base) O cL jJ N7 (N6.mono `B) rA F21
 have Ko:=Hx (P:=l.prog) (w:=w) (mg:=mg) (base:=base) O F5 (O5.mono `B) b5 m5 wM
 have Qc:=LC (P:=l.prog) (w:=w) (mg:=mg) (base:=base) O fY qF Mv yL rE vQ pJ (zM.mono `B) dG rM (Ad.mono `B) dY Af
 have ZW:=W0 (P:=l.prog) (w:=w) (mg:=mg) (base:=base) cC nR nP nN xX mX F11 (O11.mono `B) b11 m11 F10 (O10.mono `B) b10 m10 Dm (aiO.mono `B) Dj KN
 have O13:=abK (P:=l.prog) (w:=w) (mg:=mg) (base:=base) wN sy fB dR iG pW dI cY F14 (O14.mono `B) b14 m14 F1 ((O1.imp ae4).mono `B) b1 m1 F6 (O6.mono `B) b6 m6 F7 (O7.mono `B) b7 m7 F3 (O3.mono `B) b3 m3 F4 (O4.mono `B) b4 m4 F13
 have O20:=abM (P:=l.prog) (w:=w) (mg:=mg) (base:=base) O bf F21 (O21.mono `B) b21 m21 dF jJ F20
 have P_:=Lz (P:=l.prog) (w:=w) (mg:=mg) (base:=base) O fB dR dI cY F6 (O6.mono `B) b6 m6 F7 (O7.mono `B) b7 m7 F3 (O3.mono `B) b3 m3 F4 (O4.mono `B) b4 m4 vQ rM (Ad.mono `B) dY Ae
 have O34:=afZ (P:=l.prog) (w:=w) (mg:=mg) (base:=base) cN lK F33 (O33.mono `B) b33 m33 F34 b34 m34 3
 have O12:=ah4 (P:=l.prog) (w:=w) (mg:=mg) (base:=base) qF fY bf pY F13 (O13.mono `B) b13 m13 F12
 have O17:=abI (P:=l.prog) (w:=w) (mg:=mg) (base:=base) xX mX iG pW CQ vM CN vJ F9 (O9.mono `B) b9 m9 F8 (O8.mono `B) b8 m8 F18 (O18.mono `B) b18 m18 F14 (O14.mono `B) b14 m14 ⟨_,JK,u_N⟩ F17
 have O30:=ah3 (P:=l.prog) (w:=w) (mg:=mg) (base:=base) O wN sy CQ vM qG mU Xj Ho Rz Cu Xk Hq CN vJ F20 (O20.mono `B) b20 m20 F19 (O19.mono `B) b19 m19 dF Gb (Ji.mono `B) pG F30
 have O36:=(ael (P:=l.prog) (w:=w) (mg:=mg) (base:=base) cN lK F33 (O33.mono `B) b33 m33 F34 (O34.mono `B) b34 m34 F35 (O35.mono `B) b35 m35 F36 b36 m36 F37 b37 m37 3 `B).1
 have Tr:=OD (P:=l.prog) (w:=w) (mg:=mg) (base:=base) O cL Xh Tv (P_.mono `B) tR Dn
 have O37:=(ael (P:=l.prog) (w:=w) (mg:=mg) (base:=base) cN lK F33 (O33.mono `B) b33 m33 F34 (O34.mono `B) b34 m34 F35 (O35.mono `B) b35 m35 F36 b36 m36 F37 b37 m37 3 `B).2
 have Z1:=W6 (P:=l.prog) (w:=w) (mg:=mg) (base:=base) O CP vK lM gZ Mw yM p8 jX rG lV F30 (O30.mono `B) b30 m30 rE qD (Ko.mono `B) qC pJ (zM.mono `B) dG KR
 have Z0:=W5 (P:=l.prog) (w:=w) (mg:=mg) (base:=base) O cL CP vK qG mU qR mC Ry Q9 F26 (O26.mono `B) b26 m26 F23 (O23.mono `B) b23 m23 uW (Tr.mono `B) uQ mQ (Qa.mono `B) mK Bu (Z1.mono `B) Bo KQ
 have O29:=aek (P:=l.prog) (w:=w) (mg:=mg) (base:=base) O Xi Tw (Qc.mono `B) tU Bt (Z0.mono `B) Bm jM (Gj.mono `B) jL F29
 have O28:=ajF (P:=l.prog) (w:=w) (mg:=mg) (base:=base) O F29 (O29.mono `B) b29 m29 F25 (O25.mono `B) b25 m25 F27 (O27.mono `B) b27 m27 F24 (O24.mono `B) b24 m24 zN (YM.mono `B) zJ jM (Gj.mono `B) jL mQ (Qa.mono `B) mK F28
 have ak8:=ok_take (P:=l.prog) (w:=w) (mg:=mg) (base:=base) cC nR nP nN xX mX iG pW fB dR dI cY F17 (O17.mono `B) b17 m17 JX (aiP.mono `B) JQ wY (acL.mono `B) wX Bs (ZW.mono `B) Bl aeZ
 have O15:=ah6 (P:=l.prog) (w:=w) (mg:=mg) (base:=base) cC nR nP nN xX mX bf pY F16 (O16.mono `B) b16 m16 MK (acM.mono `B) Fz HJ YQ (ak8.mono `B) Ys Tt (aiN.mono `B) SX F15
 have O31:=Zh (P:=l.prog) (w:=w) (mg:=mg) (base:=base) F15 (O15.mono `B) b15 m15 F2 (O2.mono `B) b2 m2 F28 (O28.mono `B) b28 m28 F1 (O1.mono `B) b1 m1 F31
 have O39:=U5 (P:=l.prog) (w:=w) (mg:=mg) (base:=base) Z F31 (O31.mono `B) b31 m31 F39
 have O38:=aem (P:=l.prog) (w:=w) (mg:=mg) (base:=base) F38 b38 m38 392
 exact ok_law (P:=l.prog) (w:=w) (mg:=mg) (base:=base) pY cL F32 (O32.mono `B) b32 m32 F37 (O37.mono `B) b37 m37 F34 (O34.mono `B) b34 m34 F33 (O33.mono `B) b33 m33 F12 (O12.mono `B) b12 m12 F38 (O38.mono `B) b38 m38 F28 (O28.mono `B) b28 m28 F39 (O39.mono `B) b39 m39 F40 (O40.mono `B) b40 m40 F41
theorem walk{l:W.OpenLaw}{q:Program}{loose:List Str}{XP:`U->Heap->Prop}{YP:World->Heap->Prop}{d:DefRec}{K:Params->W.Frag}(hn:l.most=some 63)(hdf:d.params.defaults=[])
  (hY:∀(w:World)(h:Heap),YP w h->(K w.params).In h)
  (F:∀(w:World)(mg:`U)(fa:Addr)(h:Heap),(K w.params).In h->h.Ns mainGlobals mg->mg d.name=some (.ref fa)->
   ∃fd:FuncData,(∀(s:Shared)(u:Value),BindsTo s fd ⟨[u],[]⟩ [("_law_script",u)])/\∀base:Heap,(K w.params).In base->base.Ns mainGlobals mg->FnOk l.prog w (K w.params) mg base CX0 440 fa fd ["_law_script"] (spLaw (K w.params))):
  W.WalkO q loose XP YP l.row.toRowW d [] (fun f vs=>PySem.call f vs):=
 L2.walk_of (n:=63) (k:=440) (x:="_law_script") (CX:=fun _=>CX0) (sp:=fun w=>spLaw (K w.params)) hn `B hdf ⟨rfl,`B,`B⟩ hY F (fun _ _ a ns hl _ hS=>⟨a,ns,rfl,hS,hl,fun _=>rfl⟩) fun _ _ _ _ _ z=>z
theorem ae5{q:Program}{loose:List Str}{XP:`U->Heap->Prop}{K:Params->W.Frag}{n t:Nat}{ad:List Addr}{r:W.RowW}{d:DefRec}{kwd:List (Str×Expr)}{run:Value->`M->Sem Value}
  (h:W.WalkO q loose XP (fun w hp=>(K w.params).In hp) r d kwd run)
  (hI:∀(w:World)(s₀ s₁:Shared)(args:List W.WData)(vals:`M)(as:List Addr),W.X.obsZ ad s₀=W.X.valZ K n t w->W.Laid r.records w s₀ s₁ args vals as->(K w.params).In s₁.heap):
  W.WalkX q loose XP (W.X.obsZ ad) (W.X.valZ K n t) r d kwd run:=
 fun w s₀ s₁ mg mb G y a o pm cd doc dV kV ho hd hcd hD hmg hg args vals as L hpre hlay hrd hwl hlo=>h w s₀ s₁ mg mb G (hI w s₀ s₁ args vals as y L) a o pm cd doc dV kV ho hd hcd hD hmg hg args vals as hpre hlay hrd hwl hlo
end cD
namespace PySem.W.Fast
def tw17693049681909877265:=0
def tw2468758836626231228:=0
def tw7218594420478462003:=0
def tw9836427766694878404:=0
def tw6853356825909282305:=0
def tw12931452171382971416:=0
def tw6363456482755924602:=0
def tw696574345991950838:=0
def tw9857779181558976458:=0
def tw4230155689569644652:=0
def tw8059718880688494102:=0
def tw3185238202061340756:=0
def tw12034571597934748029:=0
def tw16949889137685761118:=0
def tw2829409519870429309:=0
def tw10929935114525261690:=0
def tw3232677046530113612:=0
def tw7249746342027247042:=0
def tw6271108996501331569:=0
def tw6394515078097515248:=0
def tw4759436752388843972:=0
def tw8214434792490157556:=0
def tw17047982488059214217:=0
def tw11576993992435728845:=0
def tw4900755063958728677:=0
def tw3462197756011930155:=0
def tw7713412017708670107:=0
def tw9083719598817432045:=0
def tw1925574334277959667:=0
def tw17384350080346480184:=0
def tw15609803135888347719:=0
def tw8417349543685945590:=0
def tw12527239679027361878:=0
def tw8399822163453136836:=0
def tw15400127609736818999:=0
def tw7192257863321796429:=0
def tw14392777251102037639:=0
def tw15204286782618778066:=0
def tw14253970681794174317:=0
def tw15347096210713043654:=0
def tw17257403350612569835:=0
def tw4709759661774006154:=0
def tw3297284815318794686:=0
def tw17833485890647939440:=0
def tw8674488019054356038:=0
def tw3124594606062380796:=0
def tw11537637847248966872:=0
def tw14587675735141928405:=0
def tw8803378728326888367:=0
def tw8539842318667733242:=0
def tw7350830760846809084:=0
def tw6094591002990664156:=0
def tw13941666049601057298:=0
def tw17405315843069942276:=0
def tw10509896729972519476:=0
def tw17708841042304280704:=0
def tw2215042864196301201:=0
def tw14810487672715398354:=0
def tw2425438756959547944:=0
def tw5841253033946695275:=0
def tw267517608062602693:=0
def tw18180488251605758178:=0
def tw10056070846145977530:=0
def tw17466182084860047672:=0
def tw15157813587214172082:=0
def tw9604205706467334477:=0
def tw7991600365470949109:=0
def tw11508996614652665894:=0
def tw15426994929833895270:=0
def tw10719979806769574302:=0
def tw18162725614832762931:=0
def tw18406720004435120120:=0
def tw10285163428996229119:=0
def tw5599179721225661618:=0
def tw15831091382507333603:=0
def tw18087644028895108463:=0
def tw817527391732654722:=0
def tw12077836234655340747:=0
def tw5715567682051198013:=0
def tw18101655103512518648:=0
def tw7131549576654739908:=0
def tw6443725641796607163:=0
def tw13880488731339271879:=0
def tw9255508359688238726:=0
def tw10508338337820693311:=0
def tw12335419144093530768:=0
def tw3348146014902581203:=0
def tw10127102181770963564:=0
def tw4368126574444674378:=0
def tw15312688137992820650:=0
def tw13476877802552354320:=0
def tw9344253198851368819:=0
def tw8306113519168629783:=0
def tw12495692082073813122:=0
def tw5259664764658993236:=0
def tw7036612968470112936:=0
def tw17384317032716244726:=0
def tw9221507568015686713:=0
def tw4567808265792460810:=0
def tw18016796163606048179:=0
def tw1340135897645342579:=0
def tw8073506093988150533:=0
def tw15256198941623821317:=0
def tw7679354927270867860:=0
def tw2275388000079430496:=0
def tw5917190423466815264:=0
def tw2172131660550093336:=0
def tw2018915329662229971:=0
def tw11110684914975341419:=0
def tw17466882683078414089:=0
def tw7934604973833013331:=0
def tw4438865432110132002:=0
def tw1252164597378968469:=0
def tw2980185347188810753:=0
def tw1570099353407961693:=0
def tw5968538088668822776:=0
def tw5265311090397630969:=0
def tw10131574771624853490:=0
def tw16077517815533634461:=0
def tw903875537325389579:=0
def tw12263406091317112151:=0
def tw10090828510111612327:=0
def tw9689047957931571460:=0
def tw16144643451501021264:=0
def tw11952895630312817966:=0
def tw2672233405579533577:=0
def tw9847701174942758641:=0
def tw17678962141160132244:=0
def tw4960277945453242195:=0
def tw2581212573511558019:=0
def tw17442370333230271612:=0
def tw3209160728479947664:=0
def tw7485675143727485403:=0
def tw17782372444812137499:=0
def tw10855688721005112368:=0
def tw12344312870522153894:=0
def tw4902917220365754:=0
def tw6811900311700085585:=0
def tw12815197733734540769:=0
def tw806398443309977782:=0
def tw12913517977331365514:=0
def tw13329551560796840606:=0
def tw11451527225951423801:=0
def tw17798016138368921916:=0
def tw1093156359603549950:=0
def tw12033343192984998425:=0
def tw16853222342331387660:=0
def tw6069537121568556833:=0
def tw3890414525229497737:=0
def tw4880509815595784824:=0
def tw9728390706256893976:=0
def tw2184829644163316615:=0
def tw18223982139061003173:=0
def tw16929848313026166306:=0
def tw8059102922852939593:=0
def tw3861042428480559377:=0
def tw4875366136575249461:=0
def tw17861992707896753122:=0
def tw13118317629999829920:=0
def tw9441818412386710815:=0
def tw4663055934458100394:=0
def tw13764354016871418376:=0
def tw1435528869226589221:=0
end PySem.W.Fast
open PySem PySem.W PyProof.Rows
set_option maxRecDepth 100000 in
set_option maxHeartbeats 0 in
theorem PySem.Challenge.cw_selfword_k84_the_desk_holds : PySem.Challenge.rw_selfword_k84_the_desk.Holds := by
 w_on; o_law; z_head; (case hw=>w_witness2)
 k_fill
 refine cD.ae5 (cD.walk (l:=PySem.Challenge.rw_selfword_k84_the_desk) rfl rfl (fun w h Y=>Y) ?F) ?I
 case I =>
  intro w s₀ s₁ args vals as y L
  z_open y L KX ZH ZN ZT
  exact KX
 case F =>
  intro w mg fa h KX G hmg
  refine' cD.all_mk KX G hmg ?a1 ?l1 ?c1 ?k1 ?a2 ?l2 ?c2 ?k2 ?a3 ?l3 ?c3 ?k3 ?a4 ?l4 ?c4 ?k4 ?a5 ?l5 ?c5 ?k5 ?a6 ?l6 ?c6 ?k6 ?a7 ?l7 ?c7 ?k7 ?a8 ?l8 ?c8 ?k8 ?a9 ?l9 ?c9 ?k9 ?a10 ?l10 ?c10 ?k10 ?a11 ?l11 ?c11 ?k11 ?a12 ?l12 ?c12 ?k12 ?a13 ?l13 ?c13 ?k13 ?a14 ?l14 ?c14 ?k14 ?a15 ?l15 ?c15 ?k15 ?a16 ?l16 ?c16 ?k16 ?a17 ?l17 ?c17 ?k17 ?a18 ?l18 ?c18 ?k18 ?a19 ?l19 ?c19 ?k19 ?a20 ?l20 ?c20 ?k20 ?a21 ?l21 ?c21 ?k21 ?a22 ?l22 ?c22 ?k22 ?a23 ?l23 ?c23 ?k23 ?a24 ?l24 ?c24 ?k24 ?a25 ?l25 ?c25 ?k25 ?a26 ?l26 ?c26 ?k26 ?a27 ?l27 ?c27 ?k27 ?a28 ?l28 ?c28 ?k28 ?a29 ?l29 ?c29 ?k29 ?a30 ?l30 ?c30 ?k30 ?a31 ?l31 ?c31 ?k31 ?a32 ?l32 ?c32 ?k32 ?a33 ?l33 ?c33 ?k33 ?a34 ?l34 ?c34 ?k34 ?a35 ?l35 ?c35 ?k35 ?a36 ?l36 ?c36 ?k36 ?a37 ?l37 ?c37 ?k37 ?a38 ?l38 ?c38 ?k38 ?a39 ?l39 ?c39 ?k39 ?a40 ?l40 ?c40 ?k40 ?a41 ?l41 ?c41 ?k41 ?Ga ?Eb ?Ez ?Ea ?DX ?Em ?Es ?uD ?qQ ?NT ?Ls ?M4 ?Lk ?Li ?Mt ?Mx ?yW ?wu ?Tj ?Rf ?R0 ?Q_ ?Q0 ?Rt ?RM ?Al ?Ak ?Ek ?HD ?Am ?Aj ?Tp ?Rh ?R4 ?Rb ?Q6 ?Rv ?RP ?Aq ?yV ?NZ ?Lw ?M5 ?Ln ?Lj ?Mu ?Mz ?yX ?wz ?Tn ?Rg ?R3 ?Ra ?Q5 ?Ru ?RN ?wj ?yU ?uz ?Ao ?Fb ?Eh ?Dy ?DW ?Ft ?M_ ?Ml ?K3 ?Lh ?Ny ?cn ?ct ?iTF ?iTL ?iFF ?iLF ?iLL ?fH ?oZ ?oX ?pC ?oY ?gP ?qY ?qT ?q_ ?qW ?iH ?sY ?sI ?tL ?sS ?gk ?qy ?qx ?qz ?lD ?dj ?tD ?sO ?tO ?sW ?jj ?uI ?uH ?uO ?qd ?cV ?qZ ?qU ?rm ?qX ?iI ?sZ ?sJ ?tM ?sV ?eN ?wB ?wA ?wD ?qL ?iT ?Ey ?Er ?Fx ?wR ?lO ?zm ?zj ?zH ?sU ?nO ?A_ ?Ax ?Bg ?vd ?nQ ?Ba ?Ay ?Bh ?vf ?aC ?qp ?Ew ?Ep ?Fw ?Et ?Dk ?Xq ?Xm ?Yo ?Pj ?yg ?RZ ?RK ?SN ?k_enter ?yd ?RX ?RJ ?SM ?JL ?nJ ?Az ?Aw ?Bf ?u_ ?qm ?Eu ?Eo ?Fv ?wQ ?xZ ?RW ?RG ?SJ ?k_whole ?pg ?hd ?po ?sa ?mk ?kc ?nR ?nP ?nN ?eS ?eT ?eX ?xT ?xX ?kpX ?t1 ?t2 ?t3 ?t1T ?t2T ?sTT ?sX ?g1X ?g2X ?g3X ?g4X ?g5X ?g6X ?sT ?g1T ?g2T ?g3T ?g4T ?g5T ?g6T ?iXT ?iXX ?iXV ?iTT ?iTX ?iTV ?aci ?sy ?R7 ?JK ?Ce ?XR ?vM ?XF ?vJ ?Ib ?lV ?Fe ?jX ?zp ?oM ?zq ?gZ ?Ia ?vL ?XH ?Ho ?R9 ?Cu ?XM ?Hq ?Nb ?yL ?XJ ?vK ?Ng ?yM ?R8 ?RL ?Qu ?u_N ?Fd ?fX ?XQ ?dR ?R6 ?cY ?Nf ?mC ?XD ?mU ?Vm ?Dq ?yj ?aa_ ?abd ?Qm ?abb ?abe ?aa9 ?Qn ?yp
  case a1|l1|c1|k1|a2|l2|c2|k2|a3|l3|c3|k3|a4|l4|c4|k4|a5|l5|c5|k5|a6|l6|c6|k6|a7|l7|c7|k7|a8|l8|c8|k8|a9|l9|c9|k9|a10|l10|c10|k10|a11|l11|c11|k11|a12|l12|c12|k12|a13|l13|c13|k13|a14|l14|c14|k14|a15|l15|c15|k15|a16|l16|c16|k16|a17|l17|c17|k17|a18|l18|c18|k18|a19|l19|c19|k19|a20|l20|c20|k20|a21|l21|c21|k21|a22|l22|c22|k22|a23|l23|c23|k23|a24|l24|c24|k24|a25|l25|c25|k25|a26|l26|c26|k26|a27|l27|c27|k27|a28|l28|c28|k28|a29|l29|c29|k29|a30|l30|c30|k30|a31|l31|c31|k31|a32|l32|c32|k32|a33|l33|c33|k33|a34|l34|c34|k34|a35|l35|c35|k35|a36|l36|c36|k36|a37|l37|c37|k37|a38|l38|c38|k38|a39|l39|c39|k39|a40|l40|c40|k40|a41|l41|c41|k41|Ga|Eb|Ez|Ea|DX|Em|Es|uD|qQ|NT|Ls|M4|Lk|Li|Mt|Mx|yW|wu|Tj|Rf|R0|Q_|Q0|Rt|RM|Al|Ak|Ek|HD|Am|Aj|Tp|Rh|R4|Rb|Q6|Rv|RP|Aq|yV|NZ|Lw|M5|Ln|Lj|Mu|Mz|yX|wz|Tn|Rg|R3|Ra|Q5|Ru|RN|wj|yU|uz|Ao|Fb|Eh|Dy|DW|Ft|M_|Ml|K3|Lh|Ny|cn|ct=>k_is
  (case iTF=>kit_is)
  (case iTL=>kit_is)
  (case iFF=>kit_is)
  (case iLF=>kit_is)
  (case iLL=>kit_is)
  case fH|oZ|oX|pC|oY|gP|qY|qT|q_|qW|iH|sY|sI|tL|sS|gk|qy|qx|qz|lD|dj|tD|sO|tO|sW|jj|uI|uH|uO|qd|cV|qZ|qU|rm|qX|iI|sZ|sJ|tM|sV|eN|wB|wA|wD|qL|iT|Ey|Er|Fx|wR|lO|zm|zj|zH|sU|nO|A_|Ax|Bg|vd|nQ|Ba|Ay|Bh|vf|aC|qp|Ew|Ep|Fw|Et|Dk|Xq|Xm|Yo|Pj|yg|RZ|RK|SN|k_enter|yd|RX|RJ|SM|JL|nJ|Az|Aw|Bf|u_|qm|Eu|Eo|Fv|wQ|xZ|RW|RG|SJ|k_whole|pg|hd|po|sa|mk|kc|nR|nP|nN|eS|eT|eX=>k_is
  (case xT=>k_exc)
  (case xX=>k_exc)
  case kpX|t1|t2|t3|t1T|t2T|sTT|sX|g1X|g2X|g3X|g4X|g5X|g6X|sT|g1T|g2T|g3T|g4T|g5T|g6T=>k_is
  (case iXT=>kit_is)
  (case iXX=>kit_is)
  (case iXV=>kit_is)
  (case iTT=>kit_is)
  (case iTX=>kit_is)
  (case iTV=>kit_is)
  case aci=>k_is
  (case sy=>exact⟨_,rfl⟩)
  case R7|JK=>k_is
  (case Ce=>exact⟨_,_,rfl,rfl,by decide,by repeat (first | exact .nil | refine .cons ⟨_,rfl⟩ ?_)⟩)
  case XR=>k_is
  (case vM=>exact⟨_,rfl⟩)
  case XF=>k_is
  (case vJ=>exact⟨_,rfl⟩)
  case Ib=>k_is
  (case lV=>exact⟨_,rfl⟩)
  case Fe=>k_is
  (case jX=>exact⟨_,rfl⟩)
  case zp=>k_is
  (case oM=>exact⟨_,rfl⟩)
  case zq=>k_is
  (case gZ=>exact⟨_,rfl⟩)
  case Ia=>k_is
  (case vL=>exact⟨_,rfl⟩)
  case XH=>k_is
  (case Ho=>exact⟨_,rfl⟩)
  case R9=>k_is
  (case Cu=>exact⟨_,rfl⟩)
  case XM=>k_is
  (case Hq=>exact⟨_,rfl⟩)
  case Nb=>k_is
  (case yL=>exact⟨_,rfl⟩)
  case XJ=>k_is
  (case vK=>exact⟨_,rfl⟩)
  case Ng=>k_is
  (case yM=>exact⟨_,rfl⟩)
  case R8|RL=>k_is
  (case Qu=>exact⟨_,_,rfl,rfl,by decide,by repeat (first | exact .nil | refine .cons ⟨_,rfl⟩ ?_)⟩)
  (case u_N=>exact⟨rfl,rfl⟩)
  case Fd=>k_is
  (case fX=>exact⟨_,rfl⟩)
  case XQ=>k_is
  (case dR=>exact⟨_,rfl⟩)
  case R6=>k_is
  (case cY=>exact⟨_,rfl⟩)
  case Nf=>k_is
  (case mC=>exact⟨_,rfl⟩)
  case XD=>k_is
  (case mU=>exact⟨_,rfl⟩)
  case Vm|Dq|yj|aa_|abd|Qm|abb|abe|aa9|Qn|yp=>k_is
#print axioms PySem.Challenge.cw_selfword_k84_the_desk_holds
