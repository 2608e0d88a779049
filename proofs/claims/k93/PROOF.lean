import PyProof.Rows.All
import Wide.All
import OpenK.AllK
import Wide.FinOn
import PyProof.EqAt
import PyProof.EqKinds
import PyProof.TupleCall
import PySem.Challenge.RW_selfword_k93_whole_runner_on_the_selftel
set_option Elab.async false
set_option linter.all false
set_option maxRecDepth 100000
set_option compiler.extract_closed false
set_option hygiene false
local macro_rules|`($n:name)=>do let m:=n.getName.toString;let s<-`([by lia,by decide,by decide+kernel,List T,List V,List Nat,by simp,.int 0,.ref a,Inv X pins σ H s,Nat.le_refl _,List Value,Hp->Prop,Same H H',Or.inl rfl,nomark _,fun cdv A outer s H vs Q E hr h=>?_,List `F,fun vs H Q E h=>?_,⟨rfl,rfl,rfl,`C,rfl,`C,`C⟩,List (Addr×Obj),Value->Shared->Prop,Nat.zero_le _,model X.prog X.w,Str->Option Value,aW (qv 0) rfl,.type "tuple",model prog w,List (Str×V),fun _ _ _ _ _ _ us hl=>match us,hl with|[_],_=>rfl,by show 1<=sizeLine;decide,Array (Option Value),.ref s.heap.objs.size,Gh K CF CL CD CT M H₀ H,Heap.get?_push_size _ rfl,Own K ao aA aB aG aJ aF,T.node (tt.kids.drop j)::rest,(x==("__debug__":Str))=false,fun _ _ _ _ _ _ us hl=>match us,hl with|[_,_],_=>rfl,aH bU hr rfl bQ bV.kp bR .nil pass0 (aj bM ak)]);if m.length=1&&m.front=m.back then return s.raw[1].getSepArgs[let c:=m.back.toNat;if c<91 then c-65 else c-71]!else Lean.Macro.throwUnsupported
namespace L2
open PySem PySem.Spec PyProof.Rows
abbrev Key:=Sum Int Str
def keyIs:Key->Value->Bool
 | .inl k,v=>Value.isInt k v
 | .inr x,v=>Value.isStrOf x v
def keyH(w:World):Key->Int
 | .inl k=>hashInt k
 | .inr x=>hashStr w x
theorem keyIs_shape:∀{k:Key}{v:Value},keyIs k v=true->(∃i t,k=Sum.inl i/\v=Value.int i t)\/(∃x t,k=Sum.inr x/\v=Value.str x t)
 | .inl i,v,h=>by
  obtain⟨t,e⟩:=Value.isInt_shape (k:=i) (v:=v) h
  exact .inl ⟨i,t,rfl,e⟩
 | .inr x,v,h=>by
  obtain⟨t,e⟩:=Value.isStrOf_shape (x:=x) (v:=v) h
  exact .inr ⟨x,t,rfl,e⟩
theorem key_ll(a b:Int):decide ((Sum.inl a:Key)=Sum.inl b)=(a==b):=by
 by_cases e:a=b
 ·subst e;simp
 ·have h:¬(Sum.inl a:Key)=Sum.inl b:=fun q=>e (Sum.inl.inj q)
  rw[decide_eq_false h]
  exact(beq_eq_false_iff_ne.mpr e).symm
theorem key_rr(a b:Str):decide ((Sum.inr a:Key)=Sum.inr b)=decide (a=b):=by
 by_cases e:a=b
 ·subst e;simp
 ·have h:¬(Sum.inr a:Key)=Sum.inr b:=fun q=>e (Sum.inr.inj q)
  rw[decide_eq_false h,decide_eq_false e]
theorem key_lr(a:Int)(b:Str):decide ((Sum.inl a:Key)=Sum.inr b)=false:=decide_eq_false (fun q=>nomatch q)
theorem key_rl(a:Str)(b:Int):decide ((Sum.inr a:Key)=Sum.inl b)=false:=decide_eq_false (fun q=>nomatch q)
def mixKind(prog:Program)(w:World):PySem.KeyKind prog w Key where
 is:=keyIs
 hash:=keyH w
 inj:=fun v a b ha hb=>by
  rcases keyIs_shape ha with⟨i,t,rfl,rfl⟩|⟨x,t,rfl,rfl⟩
  ·rcases keyIs_shape hb with⟨j,u,rfl,e⟩|⟨y,u,rfl,e⟩
   ·injection e with e1 _;rw[e1]
   ·exact nomatch e
  ·rcases keyIs_shape hb with⟨j,u,rfl,e⟩|⟨y,u,rfl,e⟩
   ·exact nomatch e
   ·injection e with e1 _;rw[e1]
 byValue:=fun k v h=>by
  rcases keyIs_shape h with⟨i,t,rfl,rfl⟩|⟨x,t,rfl,rfl⟩<;>rfl
 pyHash:=fun hv h=>by
  rcases keyIs_shape hv with⟨i,t,rfl,rfl⟩|⟨x,t,rfl,rfl⟩
  ·exact wpAny_pyHash_int h
  ·exact wpAny_pyHash_str h
 eqBool:=fun hu hv h=>by
  rcases keyIs_shape hu with⟨i,t,rfl,rfl⟩|⟨x,t,rfl,rfl⟩
  ·rcases keyIs_shape hv with⟨j,u,rfl,rfl⟩|⟨y,u,rfl,rfl⟩
   ·rw[key_ll]at h;exact wpAny_eqBool_int h
   ·rw[key_lr]at h;exact SeqAt.EqAt.int_str i t y u _ _ _ _ h
  ·rcases keyIs_shape hv with⟨j,u,rfl,rfl⟩|⟨y,u,rfl,rfl⟩
   ·rw[key_rl]at h;exact SeqAt.EqAt.str_int x t j u _ _ _ _ h
   ·rw[key_rr]at h;exact wpAny_eqBool_str h
 «strs»:=fun k x t v h=>by
  rcases keyIs_shape h with⟨i,u,rfl,e⟩|⟨y,u,rfl,e⟩
  ·exact nomatch e
  ·injection e with e1 _
   subst e1
   cases v<;>rfl
inductive V where
 |non|bl(b:Bool)|int(i:Int)|str(x:Str)|byt(b:Array UInt8)|flt(b:UInt64)|ref(a:Addr)|ty(n:String)
 deriving DecidableEq
def RelV:V->Value->Prop
 | .non,u=>u=Value.none
 | .bl b,u=>u=Value.bool b
 | .int i,u=>∃t,u=Value.int i t
 | .str x,u=>∃t,u=Value.str x t
 | .byt b,u=>∃t,u=Value.bytes b t
 | .flt b,u=>∃t,u=Value.float b t
 | .ref a,u=>u=Value.ref a
 | .ty n,u=>u=Value.type n
abbrev Vals:`E->`L->Prop:=Paired RelV
theorem Vals.length{xs:`E}{us:`L}(r:Vals xs us):xs.length=us.length:=Paired.length r
theorem Vals.get:∀{xs:`E}{us:`L}{i:Nat}{x:V},Vals xs us->xs[i]?=some x->∃u,us[i]?=some u/\RelV x u
 |_,_,_,_,.nil,e=>by simp at e
 |_,_,0,_,.cons r _,e=>by simp at e;subst e;exact⟨_,rfl,r⟩
 |_,_,i+1,x,.cons _ t,e=>by
  obtain⟨u,h1,h2⟩:=Vals.get (i:=i) (x:=x) t (by simpa using e)
  exact⟨u,by simpa using h1,h2⟩
theorem Vals.set{x:V}{u:Value}(r:RelV x u):∀{xs:`E}{us:`L}(i:Nat),Vals xs us->Vals (xs.set i x) (us.set i u)
 |_,_,_,.nil=>.nil
 |_,_,0,.cons _ t=>.cons r t
 |_,_,i+1,.cons q t=>.cons q (Vals.set r i t)
theorem Vals.append:∀{xs ys:`E}{us ws:`L},Vals xs us->Vals ys ws->Vals (xs++ys) (us++ws)
 |_,_,_,_,.nil,s=>s
 |_,_,_,_,.cons r t,s=>.cons r (Vals.append t s)
theorem Vals.take:∀{xs:`E}{us:`L}(n:Nat),Vals xs us->Vals (xs.take n) (us.take n)
 |_,_,0,_=>.nil
 |_,_,_+1,.nil=>.nil
 |_,_,n+1,.cons r t=>.cons r (Vals.take n t)
theorem Vals.drop:∀{xs:`E}{us:`L}(n:Nat),Vals xs us->Vals (xs.drop n) (us.drop n)
 |_,_,0,r=>r
 |_,_,_+1,.nil=>.nil
 |_,_,n+1,.cons _ t=>Vals.drop n t
def RelO:Option V->Option Value->Prop
 |some v,some u=>RelV v u
 |none,none=>True
 |_,_=>False
def KV{κ:Type}:List (κ×V)->List (κ×Value)->Prop:=Paired fun(p:κ×V)(q:κ×Value)=>p.1=q.1/\RelV p.2 q.2
def kV:Key->V
 | .inl i=>.int i
 | .inr x=>.str x
inductive HO where
 |lst(xs:`E)
 |tup(xs:`E)
 |dK(kvs:List (Key×V))|dT(kvs:List (List Key×V))
 |set(S:Int->Bool)(n:Nat)
 |ins(C dx:Addr)(fs:`c)
 |own(x:Addr)
 |xd(fs:`c)
 |met(f x:Addr)
 |rng(lo hi:Int)
 |frz(o:Obj)(u:HO)
 |tbl(ps:Array Value)
 |ext(φ:Heap->Prop)
abbrev Hp:=Addr->Option HO
def upd(H:Hp)(a:Addr)(o:HO):Hp:=fun b=>if b=a then some o else H b
theorem upd_same{H:Hp}{a:Addr}{o:HO}:upd H a o a=some o:=by unfold upd;rw[if_pos rfl]
theorem upd_ne{H:Hp}{a b:Addr}{o:HO}(h:b≠a):upd H a o b=H b:=by unfold upd;rw[if_neg h]
theorem aaL{H:Hp}{a:Addr}{o u:HO}:upd (upd H a o) a u=upd H a u:=by
 funext b;unfold upd;split<;>rfl
theorem ne_of{H:Hp}{a b:Addr}{o u:HO}(h:H a=some o)(h':H b=some u)(d:o≠u):a≠b:=by
 intro e;subst e;rw[h]at h';exact d (Option.some.inj h')
theorem ne_of_none{H:Hp}{a b:Addr}{o:HO}(h:H a=some o)(h':H b=none):a≠b:=by
 intro e;subst e;rw[h]at h';cases h'
section
variable(P:Program)(w:World)
def ObjOk(H:Hp)(h:Heap)(a:Addr):HO->Prop
 | .lst xs=>xs.length<=sizeLine/\∃(its:`L)(n:Nat),Vals xs its/\h.get? a=some {cls:=.type "list",data:=.seq its.toArray n}
 | .tup xs=>xs.length<=sizeLine/\∃its:`L,Vals xs its/\IsTup h a its.toArray
 | .dK kvs=>kvs.length<=sizeLine/\(a==sysModules)=false/\∃vs,KV kvs vs/\h.DictOf (mixKind P w) a vs
 | .dT kvs=>kvs.length<=sizeLine/\(a==sysModules)=false/\∃xs:List (List Key×Addr×Value),
   Paired (fun(p:List Key×V)(q:List Key×Addr×Value)=>p.1=q.1/\H q.2.1=some (.tup (p.1.map kV))/\RelV p.2 q.2.2) kvs xs/\
   ∃o es ep,h.get? a=some o/\o.ExactDict/\o.data=.dict es ep/\es.toList=xs.map (entryOfKey (tupleKind (mixKind P w)))/\(xs.map (·.1)).Nodup
 | .set S n=>h.SetOf (intKind P w) a S n
 | .ins C dx fs=>H dx=some (.own a)/\fs.length<=1000/\dx≠a/\h.get? a=some (W.instObj C dx)/\
   ∃mA,h.Ns1 dx mA/\(∀f,RelO (fs.lookup f) (mA f))/\PySem.Within mA (fs.map (·.1))
 | .own _=>∃o,h.get? a=some o
 | .xd fs=>∃mA,h.Ns1 a mA/\∀f,RelO (fs.lookup f) (mA f)
 | .rng lo hi=>∃t u v,h.get? a=some {cls:=.type "range",data:=.fields #[.int lo t,.int hi u,.int 1 v]}
 | .frz o u=>h.get? a=some o/\ObjOk H h a u
 | .tbl ps=>h.get? a=some {cls:=.none,data:=.fields ps}
 | .met f x=>h.get? a=some (W.methodObj (.ref f) (.ref x))
 | .ext φ=>φ h/\(∃o,h.get? a=some o)/\∀h1 h2:Heap,φ h1->(∀o,h1.get? a=some o->h2.get? a=some o)->φ h2
def HOk(H:Hp)(h:Heap):Prop:=∀a o,H a=some o->ObjOk P w H h a o
end
section
variable{P:Program}{w:World}{H H':Hp}{h h':Heap}{a:Addr}{o:HO}
theorem ObjOk.lt(x:ObjOk P w H h a o):a<h.objs.size:=by
 cases o with
 |lst xs=>obtain⟨_,_,_,_,e⟩:=x;exact Heap.lt_size e
 |tup xs=>obtain⟨_,_,_,p⟩:=x;exact p.lt
 |dK kvs=>obtain⟨_,_,_,_,o,_,_,e,_⟩:=x;exact Heap.lt_size e
 |dT kvs=>obtain⟨_,_,_,_,o,_,_,e,_⟩:=x;exact Heap.lt_size e
 |set S n=>obtain⟨o,_,_,_,e,_⟩:=x;exact Heap.lt_size e
 |ins C dx fs=>obtain⟨_,_,_,e,_⟩:=x;exact Heap.lt_size e
 |own y=>obtain⟨_,e⟩:=x;exact Heap.lt_size e
 |xd fs=>obtain⟨_,⟨_,_,_,e,_⟩,_⟩:=x;exact Heap.lt_size e
 |rng lo hi=>obtain⟨_,_,_,e⟩:=x;exact Heap.lt_size e
 |frz ob u=>obtain⟨e,_⟩:=x;exact Heap.lt_size e
 |tbl ps=>exact Heap.lt_size (show h.get? a=some _ from x)
 |met f y=>exact Heap.lt_size (show h.get? a=some _ from x)
 |ext φ=>obtain⟨_,⟨_,e⟩,_⟩:=x;exact Heap.lt_size e
theorem Paired.mapP{α β:Type}{F G:α->β->Prop}:∀{l₁:List α}{l₂:List β},Paired F l₁ l₂->(∀a b,F a b->G a b)->Paired G l₁ l₂
 |_,_,.nil,_=>.nil
 |_,_,.cons r t,f=>.cons (f _ _ r) (Paired.mapP t f)
theorem ObjOk.stay(x:ObjOk P w H h a o)(k:∀b u,(b=a\/H b=some (.own a))->h.get? b=some u->h'.get? b=some u)
  (ho:∀b,H b=some (.own a)->H' b=some (.own a))(ht:∀b xs,H b=some (.tup xs)->H' b=some (.tup xs)):ObjOk P w H' h' a o:=by
 induction o with
 |lst xs=>obtain⟨z,its,n,r,e⟩:=x;exact⟨z,its,n,r,k _ _ (.inl rfl) e⟩
 |tup xs=>obtain⟨z,its,r,ob,e,c⟩:=x;exact⟨z,its,r,ob,k _ _ (.inl rfl) e,c⟩
 |dK kvs=>obtain⟨z,y,vs,r,ob,es,ep,e,c⟩:=x;exact⟨z,y,vs,r,ob,es,ep,k _ _ (.inl rfl) e,c⟩
 |dT kvs=>
  obtain⟨z,y,xs,r,ob,es,ep,e,c⟩:=x
  exact⟨z,y,xs,Paired.mapP r fun p q z=>⟨z.1,ht _ _ z.2.1,z.2.2⟩,ob,es,ep,k _ _ (.inl rfl) e,c⟩
 |set S n=>obtain⟨ob,es,ep,t,e,c⟩:=x;exact⟨ob,es,ep,t,k _ _ (.inl rfl) e,c⟩
 |ins C dx fs=>
  obtain⟨d,z,ne,e,mA,⟨od,es,ep,e2,c⟩,r⟩:=x
  exact⟨ho _ d,z,ne,k _ _ (.inl rfl) e,mA,⟨od,es,ep,k _ _ (.inr d) e2,c⟩,r⟩
 |own y=>obtain⟨ob,e⟩:=x;exact⟨ob,k _ _ (.inl rfl) e⟩
 |xd fs=>obtain⟨mA,⟨od,es,ep,e,c⟩,r⟩:=x;exact⟨mA,⟨od,es,ep,k _ _ (.inl rfl) e,c⟩,r⟩
 |rng lo hi=>obtain⟨t,u,v,e⟩:=x;exact⟨t,u,v,k _ _ (.inl rfl) e⟩
 |frz ob u ih=>obtain⟨e,q⟩:=x;exact⟨k _ _ (.inl rfl) e,ih q⟩
 |tbl ps=>
  have e:h.get? a=some {cls:=.none,data:=.fields ps}:=x
  show h'.get? a=some {cls:=.none,data:=.fields ps}
  exact k a _ (.inl rfl) e
 |met f y=>
  have e:h.get? a=some (W.methodObj (.ref f) (.ref y)):=x
  show h'.get? a=some (W.methodObj (.ref f) (.ref y))
  exact k a _ (.inl rfl) e
 |ext φ=>obtain⟨p,⟨o,e⟩,st⟩:=x;exact⟨st _ _ p fun o q=>k _ _ (.inl rfl) q,⟨o,k _ _ (.inl rfl) e⟩,st⟩
theorem HOk.lt(x:HOk P w H h)(e:H a=some o):a<h.objs.size:=(x a o e).lt
theorem HOk.fresh(x:HOk P w H h)(e:h.objs.size<=a):H a=none:=by
 cases q:H a with
 |none=>rfl
 |some u=>exact absurd (Nat.lt_of_lt_of_le (x.lt q) e) (Nat.lt_irrefl _)
theorem HOk.kept(x:HOk P w H h)(k:∀b u,h.get? b=some u->h'.get? b=some u):HOk P w H h':=fun a o e=>
 (x a o e).stay (fun b u _ q=>k b u q) (fun _ q=>q) fun _ _ q=>q
theorem HOk.laid(x:HOk P w H h)(k:∀b u,h.get? b=some u->h'.get? b=some u)(hp:h.objs.size<=a)(new:ObjOk P w (upd H a o) h' a o):HOk P w (upd H a o) h':=fun b u e=>by
 have hn:=x.fresh hp
 by_cases hb:b=a
 ·subst hb;rw[upd_same]at e;cases e;exact new
 ·rw[upd_ne hb]at e
  exact(x b u e).stay (fun c v _ q=>k c v q) (fun c q=>by rw[upd_ne (ne_of_none q hn)];exact q) fun c xs q=>by rw[upd_ne (ne_of_none q hn)];exact q
end
def Rd(H:Hp)(a:Addr)(u:HO):Prop:=H a=some u\/∃o,H a=some (.frz o u)
theorem Rd.ok{P:Program}{w:World}{H:Hp}{h:Heap}{a:Addr}{u:HO}(r:Rd H a u)(x:HOk P w H h):ObjOk P w H h a u:=by
 rcases r with r|⟨o,r⟩
 ·exact x a u r
 ·obtain⟨_,q⟩:=x a _ r
  exact q
def Mut:Option HO->Prop
 |some (.lst _)=>True
 |some (.dK _)=>True
 |some (.dT _)=>True
 |some (.set _ _)=>True
 |some (.ins _ _ _)=>True
 |some (.ext _)=>True
 |_=>False
section
variable{P:Program}{w:World}{H:Hp}{h h':Heap}{x e:Addr}{o':HO}
theorem HOk.write(ok:HOk P w H h)(mu:Mut (H x))(he:e=x\/H e=some (.own x))(k:∀b u,b≠e->h.get? b=some u->h'.get? b=some u)(heo:∃u,h'.get? e=some u)
  (new:ObjOk P w (upd H x o') h' x o'):HOk P w (upd H x o') h':=fun b u q=>by
 have nown:∀c y,H c=some (.own y)->c≠x:=fun c y r z=>by subst z;rw[r]at mu;exact mu
 have ntup:∀c xs,H c=some (.tup xs)->c≠x:=fun c xs r z=>by subst z;rw[r]at mu;exact mu
 by_cases hb:b=x
 ·subst hb;rw[upd_same]at q;cases q;exact new
 ·rw[upd_ne hb]at q
  by_cases hbe:b=e
  ·have q':H b=some (.own x):=by
    rcases he with z|z
    ·exact absurd (hbe.trans z) hb
    ·rw[hbe];exact z
   rw[q]at q';cases q'
   obtain⟨v,hv⟩:=heo
   exact⟨v,by rw[hbe];exact hv⟩
  ·refine(ok b u q).stay (fun c v hc r=>k c v ?_ r) (fun c r=>by rw[upd_ne (nown c b r)];exact r) fun c xs r=>by rw[upd_ne (ntup c xs r)];exact r
   rcases hc with rfl|hc
   ·exact hbe
   ·rintro rfl
    rcases he with z|z
    ·exact nown c b hc z
    ·rw[hc]at z;cases z;exact hb rfl
end
structure Un(fs ex:List Addr)(H H':Hp)(h h':Heap):Prop where
 keep:∀b o,h.get? b=some o->H b=none->b∉fs->b∉ex->h'.get? b=some o
 slot:∀b o,h.get? b=some o->H b=none->b∈fs->b∉ex->∃sl,h'.get? b=some {o with slots:=sl}
 free:∀b o,h.get? b=some o->H b=none->b∉ex->H' b=none
 there:∀b o,h.get? b=some o->b∉ex->∃o',h'.get? b=some o'
 tups:∀b xs,H b=some (.tup xs)->H' b=some (.tup xs)
 frzs:∀b o u,H b=some (.frz o u)->H' b=some (.frz o u)
 tbls:∀b ps,H b=some (.tbl ps)->∃more,H' b=some (.tbl (ps++more))
section
variable{fs fs' ex ex':List Addr}{H H1 H2:Hp}{h h1 h2 h':Heap}{a x e:Addr}{o:HO}
theorem Un.any(u:Un fs ex H H1 h h1){b:Addr}{ob:Obj}(q:h.get? b=some ob)(n:H b=none)(hx:b∉ex):∃sl,h1.get? b=some {ob with slots:=sl}:=by
 by_cases hb:b∈fs
 ·exact u.slot b ob q n hb hx
 ·exact⟨ob.slots,u.keep b ob q n hb hx⟩
theorem Un.kept(k:∀b u,h.get? b=some u->h'.get? b=some u):Un fs ex H H h h':=
 ⟨fun b ob q _ _ _=>k b ob q,fun b ob q _ _ _=>⟨ob.slots,k b ob q⟩,fun _ _ _ n _=>n,fun b ob q _=>⟨ob,k b ob q⟩,fun _ _ q=>q,fun _ _ _ q=>q,fun _ ps q=>⟨#[],by rw[q];simp⟩⟩
theorem Un.refl:Un fs ex H H h h:=Un.kept fun _ _ q=>q
theorem Un.laid(k:∀b u,h.get? b=some u->h'.get? b=some u)(hp:h.objs.size<=a)(hn:H a=none):Un fs ex H (upd H a o) h h' where
 keep:=fun b u q _ _ _=>k b u q
 slot:=fun b u q _ _ _=>⟨u.slots,k b u q⟩
 free:=fun b u q n _=>by rw[upd_ne (Nat.ne_of_lt (Nat.lt_of_lt_of_le (Heap.lt_size q) hp))];exact n
 there:=fun b u q _=>⟨u,k b u q⟩
 tups:=fun b xs q=>by rw[upd_ne (ne_of_none q hn)];exact q
 frzs:=fun b u xs q=>by rw[upd_ne (ne_of_none q hn)];exact q
 tbls:=fun b ps q=>⟨#[],by rw[upd_ne (ne_of_none q hn),q];simp⟩
theorem Un.write(mu:Mut (H x))(he:e=x\/H e=some (.own x))(k:∀b u,b≠e->h.get? b=some u->h'.get? b=some u)(heo:∃u,h'.get? e=some u):Un fs ex H (upd H x o) h h':=by
 have hx:∀b,H b=none->b≠x:=fun b n z=>by subst z;rw[n]at mu;exact mu
 have hb:∀b,H b=none->b≠e:=fun b n z=>by
  subst z
  rcases he with r|r
  ·exact hx b n r
  ·rw[n]at r;cases r
 have hm:∀b u,H b=some u->¬Mut (some u)->b≠x:=fun b u q nm z=>by subst z;rw[q]at mu;exact nm mu
 refine⟨fun b u q n _ _=>k b u (hb b n) q,fun b u q n _ _=>⟨u.slots,k b u (hb b n) q⟩,fun b u q n _=>by rw[upd_ne (hx b n)];exact n,fun b u q _=>?_,
  fun b xs q=>by rw[upd_ne (hm b _ q fun z=>z)];exact q,fun b u xs q=>by rw[upd_ne (hm b _ q fun z=>z)];exact q,fun b ps q=>⟨#[],by rw[upd_ne (hm b _ q fun z=>z),q];simp⟩⟩
 by_cases hbe:b=e
 ·subst hbe;exact heo
 ·exact⟨u,k b u hbe q⟩
end
def trk(h:Heap)(H:Hp):List Addr:=(List.range h.objs.size).filter fun a=>(H a).isSome
def hidT(h:Heap)(H:Hp):Heap:=W.hideAll h (trk h H)
theorem hidT_size(h:Heap)(H:Hp):(hidT h H).objs.size=h.objs.size:=W.hideAll_size _ _
theorem hidT_get{h:Heap}{H:Hp}{b:Addr}{o:Obj}(e:h.get? b=some o)(n:H b=none):(hidT h H).get? b=some o:=
 W.hideAll_get _ e fun hm=>by
  have q:(H b).isSome=true:=(List.mem_filter.mp hm).2
  rw[n]at q;simp at q
theorem of_hidT{h:Heap}{H:Hp}{b:Addr}{o:Obj}(e:(hidT h H).get? b=some o):h.get? b=some o/\H b=none:=by
 have e':h.get? b=some o:=W.of_hideAll (trk h H) e
 refine⟨e',?_⟩
 cases q:H b with
 |none=>rfl
 |some x=>
  have hm:b∈trk h H:=List.mem_filter.mpr ⟨List.mem_range.mpr (Heap.lt_size e'),by simp[q]⟩
  have z:(hidT h H).get? b=none:=W.hideAll_none (trk h H) hm
  rw[z]at e;cases e
structure Mod(K:W.Frag)(mg:`Y)(base:Heap):Prop where
 kin:K.In base
 glob:base.Ns mainGlobals mg
 blt:∃mb,base.Ns builtinsNs mb/\∀x:Str,x≠"__name__"->mb x=bootBuiltins x
 nolimit:base.NoLimit
structure Cx where
 prog:Program
 w:World
 K:W.Frag
 mg:`Y
 base:Heap
 A:Around
 N:List Str
 s₀:Shared
 H₀:Hp
 env:Env
 outer:List Env
 stack:List Env
 ex:List Addr
 fn:Str->Bool
 calm:Bool
 pn:`U
 xe:`V
def frs(l:List Env):List Addr:=l.filterMap (·.frame)
abbrev Cx.fs(X:Cx):List Addr:=frs X.outer
def Vis(sc:Scope)(x:Str):Prop:=sc.names.lookup x=some .local\/sc.names.lookup x=some .cell\/sc.names.lookup x=some .free
def Loc(sc:Scope)(x:Str):Prop:=sc.names.lookup x=some .local\/sc.names.lookup x=some .cell
def Look(env:Env)(h:Heap)(m:`Y)(x:Str)(u:Value):Prop:=
 (env.kindOf x=some .local/\m x=some u)\/((env.kindOf x=some .cell\/env.kindOf x=some .free)/\∃c,env.cells.lookup x=some c/\h.IsCell c (some u))
structure Cx.Ok(X:Cx):Prop where
 mod:Mod X.K X.mg X.base
 kind:X.env.scope.kind=.function
 glob:X.env.globals=mainGlobals
 blt:X.env.builtins=builtinsNs
 above:X.s₀.heap.objs.size<=X.env.locals
 inj:∀x y c,X.env.cells.lookup x=some c->X.env.cells.lookup y=some c->x=y
 has:∀x,(X.env.kindOf x=some .cell\/X.env.kindOf x=some .free)->∃c,X.env.cells.lookup x=some c
 cab:∀x c,X.fn x=true->X.env.cells.lookup x=some c->X.s₀.heap.objs.size<=c
 hd:X.calm=true->X.A.handled=none
 frames:X.A.frames=some X.stack
 stk:X.stack=X.outer\/(X.stack=X.env::X.outer/\X.env.frame=some X.env.locals)
 exf:∀b∈X.ex,b≠X.env.locals/\∀x c,X.env.cells.lookup x=some c->c≠b
 bs:∀b o,X.base.get? b=some o->X.s₀.heap.get? b=some o/\X.H₀ b=none
 bsz:X.base.objs.size<=X.s₀.heap.objs.size
 noex:∀b o,X.base.get? b=some o->b∉X.ex
 exfs:∀b∈X.ex,b∉X.fs
 funs:X.s₀.heap.FunFrames X.base X.outer
 frf:∀b∈X.fs,X.H₀ b=none
structure Inv(X:Cx)(pins:`U)(σ:List (Option V))(H:Hp)(s:Shared):Prop where
 ok:X.Ok
 os:s.os=X.s₀.os
 bare:AllBare s.gens
 base:Un X.fs X.ex X.H₀ H X.s₀.heap s.heap
 loc:∃m,s.heap.Ns X.env.locals m/\∀(i:Nat)(x:Str)(v:V),X.N[i]?=some x->σ[i]?=some (some v)->Vis X.env.scope x->∃u,RelV v u/\Look X.env s.heap m x u
 cell:∀x c,X.env.cells.lookup x=some c->∃v,s.heap.IsCell c v
 free:H X.env.locals=none
 freeC:∀x c,X.env.cells.lookup x=some c->H c=none
 pin:∀p∈X.pn++pins,s.heap.get? p.1=some p.2/\H p.1=none/\p.1≠X.env.locals/\p.1∉X.fs/\∀v,p.2.data≠.cell v
 hok:HOk X.prog X.w H s.heap
 len:σ.length=X.N.length
section
variable{X:Cx}{pins:`U}{σ:List (Option V)}{H H':Hp}{s:Shared}{h':Heap}
theorem Cx.Ok.nofr(ok:X.Ok){b:Addr}{o:Obj}(e:X.base.get? b=some o):b∉X.fs:=fun hb=>by
 have:=(ok.funs.mem hb).1
 rw[e]at this;cases this
theorem Inv.bs(I:`J):∀b o,X.base.get? b=some o->s.heap.get? b=some o/\H b=none:=fun b o e=>
 ⟨I.base.keep b o (I.ok.bs b o e).1 (I.ok.bs b o e).2 (I.ok.nofr e) (I.ok.noex b o e),I.base.free b o (I.ok.bs b o e).1 (I.ok.bs b o e).2 (I.ok.noex b o e)⟩
theorem Inv.bk(I:`J):∀b o,X.base.get? b=some o->s.heap.get? b=some o:=fun b o e=>(I.bs b o e).1
theorem Inv.mod(I:`J):Mod X.K X.mg X.base:=I.ok.mod
theorem Inv.kIn(I:`J):X.K.In s.heap:=I.ok.mod.kin.keeps I.bk
theorem Inv.lt(I:`J):X.env.locals<s.heap.objs.size:=let⟨_,hn,_⟩:=I.loc;hn.lt
theorem Inv.sz(I:`J):X.s₀.heap.objs.size<=s.heap.objs.size:=Nat.le_trans I.ok.above (Nat.le_of_lt I.lt)
theorem Inv.nofs(I:`J){a:Addr}(h:s.heap.objs.size<=a):a∉X.fs:=fun hb=>by
 obtain⟨_,o,ho,_⟩:=I.ok.funs.mem hb
 exact absurd (Nat.lt_of_lt_of_le (Heap.lt_size ho) (Nat.le_trans I.sz h)) (Nat.lt_irrefl _)
theorem Inv.cne(I:`J):∀x c,X.env.cells.lookup x=some c->c≠X.env.locals:=fun x c e z=>by
 obtain⟨v,o,ho,hd⟩:=I.cell x c e
 obtain⟨m,⟨o',es,ep,ho',hd',_⟩,_⟩:=I.loc
 rw[z,ho']at ho;cases ho;rw[hd']at hd;cases hd
theorem Inv.funs(I:`J):s.heap.FunFrames X.base X.outer:=by
 have all:∀(l:List Env),(∀b∈frs l,b∈X.fs)->X.s₀.heap.FunFrames X.base l->s.heap.FunFrames X.base l:=by
  intro l
  induction l with
  |nil=>intro _ _;trivial
  |cons env r ih=>
   intro hs hl
   obtain⟨hk,⟨L,o,hf,hn,ho,hd⟩,hr⟩:=hl
   have hL:L∈X.fs:=hs L (by unfold frs;rw[List.filterMap_cons,hf];exact List.mem_cons_self)
   obtain⟨sl,e⟩:=I.base.slot L o ho (I.ok.frf L hL) hL fun z=>I.ok.exfs L z hL
   exact⟨hk,⟨L,_,hf,hn,e,hd⟩,ih (fun b hb=>hs b (by unfold frs;rw[List.filterMap_cons,hf];exact List.mem_cons_of_mem _ hb)) hr⟩
 exact all X.outer (fun _ hb=>hb) I.ok.funs
theorem Inv.stack(I:`J):s.heap.FunFrames X.base X.stack:=by
 rcases I.ok.stk with e|⟨e,hf⟩
 ·rw[e];exact I.funs
 ·rw[e]
  obtain⟨m,hn,_⟩:=I.loc
  refine .cons (by rw[I.ok.kind];decide) hf hn ?_ I.funs
  exact Heap.get?_none_of_le (Nat.le_trans I.ok.bsz I.ok.above)
theorem Inv.stkSub(I:`J):∀b∈frs X.stack,b∈X.env.locals::X.fs:=fun b hb=>by
 rcases I.ok.stk with e|⟨e,hf⟩
 ·rw[e]at hb;exact List.mem_cons_of_mem _ hb
 ·rw[e]at hb
  unfold frs at hb
  rw[List.filterMap_cons,hf]at hb
  exact hb
theorem Inv.stkFree(I:`J):∀b∈frs X.stack,H b=none:=fun b hb=>by
 rcases List.mem_cons.mp (I.stkSub b hb)with e|hb
 ·rw[e];exact I.free
 ·obtain⟨_,o,ho,_⟩:=I.ok.funs.mem hb
  exact I.base.free b o ho (I.ok.frf b hb) fun z=>I.ok.exfs b z hb
theorem Inv.step{g':Array GenState}{t':Nat}{d':Drawn}{ch:List Addr}(I:`J)
  (hch:∀b∈ch,(b∈X.ex\/X.s₀.heap.objs.size<=b)/\b≠X.env.locals/\(∀x c,X.env.cells.lookup x=some c->c≠b)/\∀p∈X.pn++pins,p.1≠b)
  (keep:∀b o,b≠X.env.locals->b∉X.fs->b∉ch->s.heap.get? b=some o->H b=none->h'.get? b=some o)
  (slot:∀b o,b≠X.env.locals->b∈X.fs->b∉ch->s.heap.get? b=some o->H b=none->∃sl,h'.get? b=some {o with slots:=sl})(free:∀b o,b∉ch->s.heap.get? b=some o->H b=none->H' b=none)
  (there:∀b o,b∉ch->s.heap.get? b=some o->∃o',h'.get? b=some o')
  (tups:∀b xs,H b=some (.tup xs)->H' b=some (.tup xs))(frzs:∀b o u,H b=some (.frz o u)->H' b=some (.frz o u))(tbls:∀b ps,H b=some (.tbl ps)->∃more,H' b=some (.tbl (ps++more)))
  (ns:∀m,s.heap.Ns X.env.locals m->h'.Ns X.env.locals m)(hok:HOk X.prog X.w H' h')(hg:AllBare g'):
  Inv X pins σ H' {s with heap:=h',gens:=g',drawn:=d',toks:=t'}:=by
 have neL:∀b o,X.s₀.heap.get? b=some o->b≠X.env.locals:=fun b o e=>Nat.ne_of_lt (Nat.lt_of_lt_of_le (Heap.lt_size e) I.ok.above)
 have neC:∀b o,X.s₀.heap.get? b=some o->b∉X.ex->b∉ch:=fun b o e hx hb=>by
  rcases(hch b hb).1 with z|z
  ·exact hx z
  ·exact absurd (Nat.lt_of_lt_of_le (Heap.lt_size e) z) (Nat.lt_irrefl _)
 have cellK:∀x c,X.env.cells.lookup x=some c->∀v,s.heap.IsCell c v->h'.IsCell c v:=fun x c e v⟨o,ho,hd⟩=>by
  have nch:c∉ch:=fun z=>(hch c z).2.2.1 x c e rfl
  by_cases hc:c∈X.fs
  ·obtain⟨sl,q⟩:=slot c o (I.cne x c e) hc nch ho (I.freeC x c e)
   exact⟨_,q,hd⟩
  ·exact⟨o,keep c o (I.cne x c e) hc nch ho (I.freeC x c e),hd⟩
 refine⟨I.ok,I.os,hg,⟨fun b o e n hb hx=>?_,fun b o e n hb hx=>?_,fun b o e n hx=>?_,fun b o e hx=>?_,fun b xs e=>tups b xs (I.base.tups b xs e),fun b o xs e=>frzs b o xs (I.base.frzs b o xs e),fun b ps e=>?_⟩,?_,fun x c e=>?_,?_,fun x c e=>?_,fun p hp=>?_,hok,I.len⟩
 ·exact keep b o (neL b o e) hb (neC b o e hx) (I.base.keep b o e n hb hx) (I.base.free b o e n hx)
 ·obtain⟨sl,e1⟩:=I.base.slot b o e n hb hx
  obtain⟨sl',e2⟩:=slot b _ (neL b o e) hb (neC b o e hx) e1 (I.base.free b o e n hx)
  exact⟨sl',e2⟩
 ·obtain⟨o',e1⟩:=I.base.there b o e hx
  exact free b o' (neC b o e hx) e1 (I.base.free b o e n hx)
 ·obtain⟨o',e1⟩:=I.base.there b o e hx
  exact there b o' (neC b o e hx) e1
 ·obtain⟨m1,e1⟩:=I.base.tbls b ps e
  obtain⟨m2,e2⟩:=tbls b _ e1
  exact⟨m1++m2,by rw[e2,Array.append_assoc]⟩
 ·obtain⟨m,hn,hl⟩:=I.loc
  refine⟨m,ns m hn,fun i x v e1 e2 e3=>?_⟩
  obtain⟨u,r,l⟩:=hl i x v e1 e2 e3
  refine⟨u,r,?_⟩
  rcases l with l|⟨k,c,e,z⟩
  ·exact .inl l
  ·exact .inr ⟨k,c,e,cellK x c e _ z⟩
 ·obtain⟨v,z⟩:=I.cell x c e
  exact⟨v,cellK x c e v z⟩
 ·obtain⟨m,⟨o,_,_,ho,_⟩,_⟩:=I.loc
  exact free _ o (fun z=>(hch _ z).2.1 rfl) ho I.free
 ·obtain⟨v,o,ho,hd⟩:=I.cell x c e
  exact free c o (fun z=>(hch c z).2.2.1 x c e rfl) ho (I.freeC x c e)
 ·obtain⟨e,n,ne,nf,d⟩:=I.pin p hp
  have nch:p.1∉ch:=fun z=>(hch p.1 z).2.2.2 p hp rfl
  exact⟨keep p.1 p.2 ne nf nch e n,free p.1 p.2 nch e n,ne,nf,d⟩
theorem Inv.un{t':Nat}(I:`J)(u:Un X.fs [] H H' s.heap h')(hok:HOk X.prog X.w H' h'):Inv X pins σ H' {s with heap:=h',toks:=t'}:=by
 obtain⟨m,⟨o,es,ep,ho,r⟩,_⟩:=id I.loc
 obtain⟨sl,hL⟩:=u.any ho I.free `G
 exact I.step (g':=s.gens) (d':=s.drawn) (ch:=[]) (fun _ z=>nomatch z) (fun b o _ hb _ e n=>u.keep b o e n hb `G) (fun b o _ hb _ e n=>u.slot b o e n hb `G) (fun b o _ e n=>u.free b o e n `G) (fun b o _ e=>u.there b o e `G) u.tups u.frzs u.tbls (fun m' hm=>by
  obtain⟨o',es',ep',ho',r'⟩:=hm
  rw[ho]at ho';cases ho'
  exact⟨_,es',ep',hL,r'⟩) hok I.bare
theorem Inv.call{g':Array GenState}{t':Nat}{d':Drawn}{ch:List Addr}(I:`J)(u:Un (frs X.stack) ch H H' s.heap h')(hok:HOk X.prog X.w H' h')(hg:AllBare g')
  (hch:∀b∈ch,(b∈X.ex\/X.s₀.heap.objs.size<=b)/\b≠X.env.locals/\(∀x c,X.env.cells.lookup x=some c->c≠b)/\∀p∈X.pn++pins,p.1≠b):
  Inv X pins σ H' {s with heap:=h',gens:=g',drawn:=d',toks:=t'}:=by
 obtain⟨m,⟨o,es,ep,ho,r⟩,_⟩:=id I.loc
 obtain⟨sl,hL⟩:=u.any ho I.free fun z=>(hch _ z).2.1 rfl
 exact I.step (ch:=ch) hch (fun b o hL hb hc e n=>u.keep b o e n (fun z=>(List.mem_cons.mp (I.stkSub b z)).elim hL hb) hc) (fun b o _ _ hc e n=>u.any e n hc) (fun b o hc e n=>u.free b o e n hc) (fun b o hc e=>u.there b o e hc) u.tups u.frzs u.tbls (fun m' hm=>by
  obtain⟨o',es',ep',ho',r'⟩:=hm
  rw[ho]at ho';cases ho'
  exact⟨_,es',ep',hL,r'⟩) hok hg
theorem Inv.turned{t':Nat}{it:Addr}(I:`J)(k:∀b o,b≠it->s.heap.get? b=some o->h'.get? b=some o)(hn:H it=none)(hL:it≠X.env.locals)
  (h1:it∈X.ex\/X.s₀.heap.objs.size<=it)(h2:∀x c,X.env.cells.lookup x=some c->c≠it)(h3:∀p∈X.pn++pins,p.1≠it):Inv X pins σ H {s with heap:=h',toks:=t'}:=by
 have nit:∀b u,H b=some u->b≠it:=fun b u e z=>by rw[z,hn]at e;cases e
 refine I.step (g':=s.gens) (d':=s.drawn) (ch:=[it]) (fun b hb=>?_) (fun b o _ _ hc e _=>k b o (fun z=>hc (by simp[z])) e) (fun b o _ _ hc e _=>⟨o.slots,k b o (fun z=>hc (by simp[z])) e⟩) (fun _ _ _ _ n=>n)
  (fun b o hc e=>⟨o,k b o (fun z=>hc (by simp[z])) e⟩) (fun _ _ e=>e) (fun _ _ _ e=>e) (fun b ps e=>⟨#[],by rw[e];simp⟩) (fun m hm=>?_) (fun b u e=>?_) I.bare
 ·have e:b=it:=by simpa using hb
  subst e
  exact⟨h1,hL,h2,h3⟩
 ·obtain⟨o,es,ep,ho,r⟩:=hm
  exact⟨o,es,ep,k _ o (Ne.symm hL) ho,r⟩
 ·refine(I.hok b u e).stay (fun c v hc q=>k c v ?_ q) (fun _ q=>q) fun _ _ q=>q
  rcases hc with z|z
  ·rw[z];exact nit b u e
  ·exact nit c _ z
theorem Inv.tok(I:`J)(t:Nat):Inv X pins σ H {s with toks:=t}:=I.un (h':=s.heap) (t':=t) Un.refl I.hok
theorem Inv.kept{t':Nat}(I:`J)(k:∀b u,s.heap.get? b=some u->h'.get? b=some u):Inv X pins σ H {s with heap:=h',toks:=t'}:=I.un (Un.kept k) (I.hok.kept k)
theorem Inv.laid{a:Addr}{o:HO}{t':Nat}(I:`J)(k:∀b u,s.heap.get? b=some u->h'.get? b=some u)(hp:s.heap.objs.size<=a)(new:ObjOk X.prog X.w (upd H a o) h' a o):
  Inv X pins σ (upd H a o) {s with heap:=h',toks:=t'}:=I.un (Un.laid k hp (I.hok.fresh hp)) (I.hok.laid k hp new)
theorem Inv.write{x e:Addr}{o:HO}{t':Nat}(I:`J)(mu:Mut (H x))(he:e=x\/H e=some (.own x))(k:∀b u,b≠e->s.heap.get? b=some u->h'.get? b=some u)(heo:∃u,h'.get? e=some u)
  (new:ObjOk X.prog X.w (upd H x o) h' x o):Inv X pins σ (upd H x o) {s with heap:=h',toks:=t'}:=I.un (Un.write mu he k heo) (I.hok.write mu he k heo new)
theorem Inv.pins_of{pins':`U}(I:`J)(h:∀p∈pins',s.heap.get? p.1=some p.2/\H p.1=none/\p.1≠X.env.locals/\p.1∉X.fs/\∀v,p.2.data≠.cell v):Inv X pins' σ H s:=
 ⟨I.ok,I.os,I.bare,I.base,I.loc,I.cell,I.free,I.freeC,fun p hp=>(List.mem_append.mp hp).elim (fun z=>I.pin p (List.mem_append_left _ z)) (h p),I.hok,I.len⟩
theorem nodup_ix{N:List Str}(hN:N.Nodup){i j:Nat}{x:Str}(a:N[i]?=some x)(b:N[j]?=some x):i=j:=by
 obtain⟨h1,e1⟩:=List.getElem?_eq_some_iff.mp a
 obtain⟨h2,e2⟩:=List.getElem?_eq_some_iff.mp b
 exact(List.getElem_inj hN).mp (e1.trans e2.symm)
theorem store_ok2{M:Model}{A:Around}{E:`V}{i:Nat}{x:Str}{v:V}{u:Value}{Q:Unit->Shared->Prop}(I:`J)(hN:X.N.Nodup)(hi:X.N[i]?=some x)(hx:Loc X.env.scope x)(r:RelV v u)
  (h:∀s',Inv X pins (σ.set i (some v)) H s'->(∃a,Heap.SameBut a s.heap s'.heap/\(a=X.env.locals\/X.env.cells.lookup x=some a))->Q () s')(hf:X.fn x=true\/X.env.scope.names.lookup x=some .local:=by first|exact .inl rfl|exact .inr rfl|assumption):wpAny M A (storeName X.env x u) Q E s:=by
 obtain⟨m,hn,hl⟩:=id I.loc
 have hcls:(X.env.scope.kind== .class||(X.env.scope.kind== .module&&X.env.locals !=X.env.globals))=false:=by rw[I.ok.kind];rfl
 have hiσ:i<σ.length:=by rw[I.len];exact(List.getElem?_eq_some_iff.mp hi).1
 have cne:=I.cne
 have tracked:∀{a:Addr}{h':Heap},(∃o,s.heap.get? a=some o/\H a=none)->Heap.SameBut a s.heap h'->HOk X.prog X.w H h':=fun{a h'}ha hs b ob e=>by
  obtain⟨_,_,hfree⟩:=ha
  refine(I.hok b ob e).stay (fun c w' hc q=>(hs.2 c ?_).trans q) (fun _ q=>q) fun _ _ q=>q
  rintro rfl
  rcases hc with rfl|hc
  ·rw[hfree]at e;cases e
  ·rw[hfree]at hc;cases hc
 rcases hx with hk|hk
 ·refine wpAny_storeName_local hk hn (fun h' hn' hs=>?_) hcls
  obtain⟨oL,_,_,hoL,_⟩:=id hn
  refine h _ ⟨I.ok,I.os,I.bare,⟨fun b o e n hb hx=>?_,fun b o e n hb hx=>?_,I.base.free,fun b o e hx=>?_,I.base.tups,I.base.frzs,I.base.tbls⟩,⟨_,hn',fun j y v' e1 e2 e3=>?_⟩,fun y c e=>?_,I.free,I.freeC,fun p hp=>?_,tracked ⟨oL,hoL,I.free⟩ hs,by simpa using I.len⟩ ⟨_,hs,.inl rfl⟩
  ·exact(hs.2 b (Nat.ne_of_lt (Nat.lt_of_lt_of_le (Heap.lt_size e) I.ok.above))).trans (I.base.keep b o e n hb hx)
  ·obtain⟨sl,e1⟩:=I.base.slot b o e n hb hx
   exact⟨sl,(hs.2 b (Nat.ne_of_lt (Nat.lt_of_lt_of_le (Heap.lt_size e) I.ok.above))).trans e1⟩
  ·obtain⟨o',e1⟩:=I.base.there b o e hx
   exact⟨o',(hs.2 b (Nat.ne_of_lt (Nat.lt_of_lt_of_le (Heap.lt_size e) I.ok.above))).trans e1⟩
  ·by_cases hj:j=i
   ·subst hj
    rw[hi]at e1;cases e1
    rw[List.getElem?_set_self hiσ]at e2
    cases e2
    exact⟨u,r,.inl ⟨hk,`G⟩⟩
   ·rw[List.getElem?_set_ne (Ne.symm hj)]at e2
    obtain⟨u',r',q⟩:=hl j y v' e1 e2 e3
    refine⟨u',r',?_⟩
    rcases q with⟨k,e⟩|⟨k,c,e,z⟩
    ·refine .inl ⟨k,?_⟩
     have:y≠x:=fun e=>hj (nodup_ix hN e1 (e▸hi))
     simp[this,e]
    ·exact .inr ⟨k,c,e,z.sameBut hs (cne y c e)⟩
  ·obtain⟨w',z⟩:=I.cell y c e
   exact⟨w',z.sameBut hs (cne y c e)⟩
  ·obtain⟨e,n,ne,nf,d⟩:=I.pin p hp
   exact⟨(hs.2 p.1 ne).trans e,n,ne,nf,d⟩
 ·have hfn:X.fn x=true:=by
   rcases hf with z|z
   ·exact z
   ·rw[z]at hk;cases hk
  obtain⟨c,hc⟩:=I.ok.has x (.inl hk)
  obtain⟨w',z⟩:=I.cell x c hc
  refine wpAny_storeName_cell I.ok.kind hk hc z (fun h' hc' hs=>?_)
  obtain⟨oc,hoc,hocd⟩:=id z
  refine h {s with heap:=h'} ⟨I.ok,I.os,I.bare,⟨fun b o e n hb hx=>?_,fun b o e n hb hx=>?_,I.base.free,fun b o e hx=>?_,I.base.tups,I.base.frzs,I.base.tbls⟩,⟨m,hn.sameBut hs (Ne.symm (cne x c hc)),fun j y v' e1 e2 e3=>?_⟩,fun y c' e=>?_,I.free,I.freeC,fun p hp=>?_,tracked ⟨oc,hoc,I.freeC x c hc⟩ hs,by simpa using I.len⟩ ⟨c,hs,.inr hc⟩
  ·exact(hs.2 b (Nat.ne_of_lt (Nat.lt_of_lt_of_le (Heap.lt_size e) (I.ok.cab x c hfn hc)))).trans (I.base.keep b o e n hb hx)
  ·obtain⟨sl,e1⟩:=I.base.slot b o e n hb hx
   exact⟨sl,(hs.2 b (Nat.ne_of_lt (Nat.lt_of_lt_of_le (Heap.lt_size e) (I.ok.cab x c hfn hc)))).trans e1⟩
  ·obtain⟨o',e1⟩:=I.base.there b o e hx
   exact⟨o',(hs.2 b (Nat.ne_of_lt (Nat.lt_of_lt_of_le (Heap.lt_size e) (I.ok.cab x c hfn hc)))).trans e1⟩
  ·by_cases hj:j=i
   ·subst hj
    rw[hi]at e1;cases e1
    rw[List.getElem?_set_self hiσ]at e2
    cases e2
    exact⟨u,r,.inr ⟨.inl hk,c,hc,hc'⟩⟩
   ·rw[List.getElem?_set_ne (Ne.symm hj)]at e2
    obtain⟨u',r',q⟩:=hl j y v' e1 e2 e3
    refine⟨u',r',?_⟩
    rcases q with q|⟨k,c',e,z'⟩
    ·exact .inl q
    ·refine .inr ⟨k,c',e,z'.sameBut hs ?_⟩
     rintro rfl
     exact hj (nodup_ix hN e1 (I.ok.inj _ _ _ e hc▸hi))
  ·by_cases hcc:c'=c
   ·subst hcc;exact⟨_,hc'⟩
   ·obtain⟨w2,z2⟩:=I.cell y c' e
    exact⟨w2,z2.sameBut hs hcc⟩
  ·obtain⟨e,n,ne,nf,d⟩:=I.pin p hp
   refine⟨(hs.2 p.1 ?_).trans e,n,ne,nf,d⟩
   intro q
   rw[q,hoc]at e
   have q':oc=p.2:=Option.some.inj e
   exact d w' (by rw[<-q'];exact hocd)
theorem store_ok{M:Model}{A:Around}{E:`V}{i:Nat}{x:Str}{v:V}{u:Value}{Q:Unit->Shared->Prop}(I:`J)(hN:X.N.Nodup)(hi:X.N[i]?=some x)(hx:Loc X.env.scope x)(r:RelV v u)
  (h:∀s',Inv X pins (σ.set i (some v)) H s'->Q () s')(hf:X.fn x=true\/X.env.scope.names.lookup x=some .local:=by first|exact .inl rfl|exact .inr rfl|assumption):wpAny M A (storeName X.env x u) Q E s:=
 store_ok2 I hN hi hx r (fun s' I' _=>h s' I') hf
end
abbrev XK:=Value->Option Addr->`M
abbrev St:=List (Option V)
abbrev VK:=V->`M
abbrev TE:=St->Hp->VK->Prop
abbrev TT:=St->Hp->(Bool->`M)->Prop
abbrev TA:=St->Hp->(`E->`M)->Prop
structure Ends where
 nx:St->`M
 rt:VK
 bk:St->`M:=fun _ _=>False
 ct:St->`M:=fun _ _=>False
abbrev TS:=Ends->St->`M
def EP(X:Cx)(pins:`U)(σ:St)(Q:VK)(u:Value)(s':Shared):Prop:=∃v H',Inv X pins σ H' s'/\RelV v u/\Q v H'
def TP(X:Cx)(pins:`U)(σ:St)(Q:Bool->`M)(b:Bool)(s':Shared):Prop:=∃H',Inv X pins σ H' s'/\Q b H'
def AP(X:Cx)(pins:`U)(σ:St)(Q:`E->`M)(us:`L)(s':Shared):Prop:=∃vs H',Inv X pins σ H' s'/\Vals vs us/\Q vs H'
def SP(X:Cx)(pins:`U)(D:Ends)(f:Flow)(s':Shared):Prop:=
 match f with
 | .next=>∃σ' H',Inv X pins σ' H' s'/\D.nx σ' H'
 | .brk=>∃σ' H',Inv X pins σ' H' s'/\D.bk σ' H'
 | .cont=>∃σ' H',Inv X pins σ' H' s'/\D.ct σ' H'
 | .ret u=>∃v σ' H',Inv X pins σ' H' s'/\RelV v u/\D.rt v H'
def PE(X:Cx)(e:Expr)(t:TE):Prop:=
 ∀(pins:`U)(s:Shared)(σ:St)(H:Hp)(Q:VK),`J->t σ H Q->wpAny `X X.A (eval e X.env) (EP X pins σ Q) X.xe s
def PT(X:Cx)(e:Expr)(t:TT):Prop:=
 ∀(pins:`U)(s:Shared)(σ:St)(H:Hp)(Q:Bool->`M),`J->t σ H Q->wpAny `X X.A (isTrue e X.env (eval e X.env)) (TP X pins σ Q) X.xe s
def PW(X:Cx)(e:Expr)(t:TT):Prop:=
 ∀(whole:Sem Value)(pins:`U)(s:Shared)(σ:St)(H:Hp)(Q:Bool->`M),`J->t σ H Q->wpAny `X X.A (isTrue e X.env whole) (TP X pins σ Q) X.xe s
theorem PW.pt{X:Cx}{e:Expr}{t:TT}(h:PW X e t):PT X e t:=h _
def PA(X:Cx)(es:List Expr)(t:TA):Prop:=
 ∀(pos:Pos)(pins:`U)(s:Shared)(σ:St)(H:Hp)(Q:`E->`M),`J->t σ H Q->wpAny `X X.A (spliced (backTo pos (starEach es X.env))) (AP X pins σ Q) X.xe s
def PS(X:Cx)(st:Stmt)(t:TS):Prop:=
 ∀(pins:`U)(s:Shared)(σ:St)(H:Hp)(D:Ends),`J->t D σ H->wpAny `X X.A (exec st X.env) (SP X pins D) X.xe s
def PSs(X:Cx)(st:List Stmt)(t:TS):Prop:=
 ∀(pins:`U)(s:Shared)(σ:St)(H:Hp)(D:Ends),`J->t D σ H->wpAny `X X.A (execs st X.env) (SP X pins D) X.xe s
theorem thn{α:Type}{t:Sem α}{Q Q':α->Shared->Prop}{M:Model}{A:Around}{E:`V}{s:Shared}(h:wpAny M A t Q E s)(hQ:∀a s,Q a s->Q' a s):wpAny M A t Q' E s:=wpAny_mono h hQ fun _ _ x=>x
section
variable{X:Cx}
def tVar(i:Nat):TE:=fun σ H Q=>∃v,σ[i]?=some (some v)/\Q v H
def tC(v:V):TE:=fun _ H Q=>Q v H
theorem pe_var{i:Nat}{x:Str}{pos:Pos}(hN:X.N[i]?=some x)(hv:Vis X.env.scope x)(hd:`l:=by decide)(hcd:(x==("__classdict__":Str))=false:=by decide):PE X (.Name x pos) (tVar i):=by
 intro pins s σ H Q I h
 obtain⟨v,e,h⟩:=h
 obtain⟨m,hn,hl⟩:=I.loc
 obtain⟨u,r,l⟩:=hl i x v hN e hv
 have fin:EP X pins σ Q u s:=⟨v,H,I,r,h⟩
 rcases l with⟨hk,hm⟩|⟨hk,c,hc,hcell⟩
 ·exact wpAny_Name (wpAny_loadName_local I.ok.kind hk hn hm fin) hd
 ·rcases hk with hk|hk
  ·exact wpAny_Name (wpAny_loadName_cell I.ok.kind hk hc hcell fin) hd
  ·exact wpAny_Name (wpAny_loadName_free I.ok.kind hk hc hcell fin hcd) hd
theorem pe_int{i j pos}:PE X (.Constant (.int i) j pos) (tC (.int i)):=fun _ _ _ H _ I h=>wpAny_Constant_int ⟨.int i,H,I.tok _,⟨_,rfl⟩,h⟩
theorem pe_bl{b j pos}:PE X (.Constant (.bool b) j pos) (tC (.bl b)):=fun _ _ _ H _ I h=>Constant_bool ⟨.bl b,H,I,rfl,h⟩
theorem WR{j pos}:PE X (.Constant .none j pos) (tC .non):=fun _ _ _ H _ I h=>Constant_none ⟨.non,H,I,rfl,h⟩
theorem BR{x j pos}:PE X (.Constant (.str x) j pos) (tC (.str x)):=fun _ _ _ H _ I h=>Calls.Constant_str ⟨.str x,H,I.tok _,⟨_,rfl⟩,h⟩
def Gl(X:Cx)(x:Str):Prop:=X.env.kindOf x=some .globalImplicit
theorem ld_glob{E:`V}{pins:`U}{s:Shared}{σ:St}{H:Hp}{x:Str}{u:Value}{pos:Pos}{Q:`V}(I:`J)(hg:Gl X x)(hm:X.mg x=some u)(h:Q u s)
  (hd:`l:=by decide):wpAny `X X.A (eval (.Name x pos) X.env) Q E s:=
 Calls.Name_function_global I.ok.kind hg (Calls.loadGlobal_global (by rw[I.ok.glob];exact I.mod.glob.keeps I.bk) hm h) hd
theorem ld_blt{E:`V}{pins:`U}{s:Shared}{σ:St}{H:Hp}{x:Str}{u:Value}{pos:Pos}{Q:`V}(I:`J)(hg:Gl X x)(hm:X.mg x=none)(hv:bootBuiltins x=some u)(h:Q u s)
  (hn:x≠"__name__":=by decide)(hd:`l:=by decide):wpAny `X X.A (eval (.Name x pos) X.env) Q E s:=by
 obtain⟨mb,h1,h2⟩:=I.mod.blt
 exact Calls.Name_function_global I.ok.kind hg (Calls.loadGlobal_builtin (by rw[I.ok.glob];exact I.mod.glob.keeps I.bk) hm (by rw[I.ok.blt];exact h1.keeps I.bk) ((h2 x hn).trans hv) h) hd
theorem aiz{x:Str}{v:V}{u:Value}{pos:Pos}(hg:Gl X x)(hm:X.mg x=some u)(r:RelV v u)(hd:`l:=by decide):PE X (.Name x pos) (tC v):=
 fun _ _ _ H _ I h=>ld_glob I hg hm ⟨v,H,I,r,h⟩ hd
theorem abb{x:Str}{v:V}{u:Value}{pos:Pos}(hg:Gl X x)(hm:X.mg x=none)(hv:bootBuiltins x=some u)(r:RelV v u)(hn:x≠"__name__":=by decide)(hd:`l:=by decide):PE X (.Name x pos) (tC v):=
 fun _ _ _ H _ I h=>ld_blt I hg hm hv ⟨v,H,I,r,h⟩ hn hd
variable{a b:Expr}{ta tb:TE}{pos:Pos}
def tB(t:TE):TT:=fun σ H Q=>t σ H fun x H1=>∃c,x=.bl c/\Q c H1
theorem aec{e:Expr}{t:TE}(h:PE X e t)(he:∀whole,isTrue e X.env whole=(do let v<-whole;standAt e.pos;holding [v] (truthy v)):=by intro _;rfl):PT X e (tB t):=by
 intro pins s σ H Q I hw
 refine isTrue_plain (thn (h pins s σ H _ I hw) fun v s1⟨x,H1,I1,r1,q1⟩=>?_) (he _)
 obtain⟨d,rfl,q⟩:=q1
 cases r1
 exact wpAny_truthy_bool ⟨H1,I1,q⟩
variable{tA tB':TT}{rest:List Expr}
def afF(t u:TT):TT:=fun σ H Q=>t σ H fun c H1=>if c=true then u σ H1 Q else Q false H1
def tOr(t u:TT):TT:=fun σ H Q=>t σ H fun c H1=>if c=true then Q true H1 else u σ H1 Q
def ajB(t:TT):TT:=fun σ H Q=>t σ H fun c H1=>Q (!c) H1
theorem aa9(ha:PT X a tA):PW X (.BoolOp .And [a] pos) tA:=by
 intro wh pins s σ H Q I h
 refine isTrue_and (thn (ha pins s σ H Q I h) fun c s1 e=>?_)
 cases c with
 |true=>exact isTrue_and_nil e
 |false=>exact e
theorem aea(ha:PT X a tA):PW X (.BoolOp .Or [a] pos) tA:=by
 intro wh pins s σ H Q I h
 refine isTrue_or (thn (ha pins s σ H Q I h) fun c s1 e=>?_)
 cases c with
 |false=>exact isTrue_or_nil e
 |true=>exact e
theorem aeb(ha:PT X a tA)(hb:PW X (.BoolOp .And (b::rest) pos) tB'):PW X (.BoolOp .And (a::b::rest) pos) (afF tA tB'):=by
 intro wh pins s σ H Q I h
 refine isTrue_and (thn (ha pins s σ H _ I h) fun c s1⟨H1,I1,q1⟩=>?_)
 cases c with
 |true=>exact hb wh pins s1 σ H1 Q I1 q1
 |false=>exact⟨H1,I1,q1⟩
theorem ahE(ha:PT X a tA)(hb:PW X (.BoolOp .Or (b::rest) pos) tB'):PW X (.BoolOp .Or (a::b::rest) pos) (tOr tA tB'):=by
 intro wh pins s σ H Q I h
 refine isTrue_or (thn (ha pins s σ H _ I h) fun c s1⟨H1,I1,q1⟩=>?_)
 cases c with
 |true=>exact⟨H1,I1,q1⟩
 |false=>exact hb wh pins s1 σ H1 Q I1 q1
theorem aed(ha:PT X a tA):PT X (.UnaryOp .Not a pos) (ajB tA):=by
 intro pins s σ H Q I h
 exact isTrue_not (ha pins s σ H (fun c H1=>Q (!c) H1) I h)
def ahx(ta tb:TE):TE:=fun σ H Q=>ta σ H fun x H1=>∃c,x=.bl c/\if c=true then tb σ H1 Q else Q (.bl false) H1
def ajA(ta tb:TE):TE:=fun σ H Q=>ta σ H fun x H1=>∃c,x=.bl c/\if c=true then Q (.bl true) H1 else tb σ H1 Q
theorem aj4{op}{t:TE}(h:PE X a t):PE X (.BoolOp op [a] pos) t:=fun pins s σ H Q I hw=>BoolOp_one (h pins s σ H Q I hw)
theorem aj6(ha:PE X a ta)(hb:PE X (.BoolOp .And (b::rest) pos) tb):PE X (.BoolOp .And (a::b::rest) pos) (ahx ta tb):=by
 intro pins s σ H Q I h
 refine BoolOp_and (thn (ha pins s σ H _ I h) fun v s1⟨x,H1,I1,r1,q1⟩=>?_)
 obtain⟨c,rfl,q1⟩:=q1
 cases r1
 refine wpAny_truthy_bool ?_
 cases c with
 |true=>exact hb pins s1 σ H1 Q I1 q1
 |false=>exact⟨.bl false,H1,I1,rfl,q1⟩
theorem al2(ha:PE X a ta)(hb:PE X (.BoolOp .Or (b::rest) pos) tb):PE X (.BoolOp .Or (a::b::rest) pos) (ajA ta tb):=by
 intro pins s σ H Q I h
 refine BoolOp_or (thn (ha pins s σ H _ I h) fun v s1⟨x,H1,I1,r1,q1⟩=>?_)
 obtain⟨c,rfl,q1⟩:=q1
 cases r1
 refine wpAny_truthy_bool ?_
 cases c with
 |false=>exact hb pins s1 σ H1 Q I1 q1
 |true=>exact⟨.bl true,H1,I1,rfl,q1⟩
def tIf(t:TT)(ta tb:TE):TE:=fun σ H Q=>t σ H fun c H1=>if c=true then ta σ H1 Q else tb σ H1 Q
theorem agf{c:Expr}(hc:PT X c tA)(ha:PE X a ta)(hb:PE X b tb):PE X (.IfExp c a b pos) (tIf tA ta tb):=by
 intro pins s σ H Q I h
 refine wpAny_IfExp (thn (hc pins s σ H _ I h) fun d s1⟨H1,I1,q1⟩=>?_)
 cases d with
 |true=>exact ha pins s1 σ H1 Q I1 q1
 |false=>exact hb pins s1 σ H1 Q I1 q1
end
def SqL(K:W.Frag)(H:Hp)(a:Addr)(xs:`E):Prop:=
 Rd H a (.lst xs)\/
  ∃(o:Obj)(its:Array Value)(n:Nat),K.lookup a=some o/\o.cls=.type "list"/\o.dict=none/\o.data=.seq its n/\its.size<=sizeLine/\Vals xs its.toList
def SqT(K:W.Frag)(H:Hp)(a:Addr)(xs:`E):Prop:=
 Rd H a (.tup xs)\/
  ∃(o:Obj)(its:Array Value)(n:Nat),K.lookup a=some o/\o.cls=`a/\o.data=.seq its n/\its.size<=sizeLine/\Vals xs its.toList
def absV:Value->Option V
 | .none=>some .non
 | .bool b=>some (.bl b)
 | .int i _=>some (.int i)
 | .str x _=>some (.str x)
 | .bytes b _=>some (.byt b)
 | .float b _=>some (.flt b)
 | .ref a=>some `I
 | .type n=>some (.ty n)
 |_=>none
theorem RelV.abs{x:V}{u:Value}(r:RelV x u):absV u=some x:=by
 cases x with
 |non=>cases r;rfl
 |bl _=>cases r;rfl
 |int _=>obtain⟨t,rfl⟩:=r;rfl
 |str _=>obtain⟨t,rfl⟩:=r;rfl
 |byt _=>obtain⟨t,rfl⟩:=r;rfl
 |flt _=>obtain⟨t,rfl⟩:=r;rfl
 |ref _=>cases r;rfl
 |ty _=>cases r;rfl
theorem RelV.inj{x y:V}{u:Value}(r:RelV x u)(q:RelV y u):x=y:=Option.some.inj (r.abs.symm.trans q.abs)
theorem Vals.inj:∀{xs ys:`E}{us:`L},Vals xs us->Vals ys us->xs=ys
 |_,_,_,.nil,.nil=>rfl
 |_,_,_,.cons r t,.cons r' t'=>by rw[r.inj r',Vals.inj t t']
section
variable{X:Cx}{pins:`U}{σ:St}{H:Hp}{s:Shared}{a:Addr}{xs ys:`E}
theorem SqL.of{K:W.Frag}(h:H a=some (.lst xs)):SqL K H a xs:=.inl (.inl h)
theorem SqT.of{K:W.Frag}(h:H a=some (.tup xs)):SqT K H a xs:=.inl (.inl h)
theorem Inv.list(I:`J)(h:SqL X.K H a xs):∃its:`L,Vals xs its/\PlainL s.heap a its.toArray/\xs.length<=sizeLine:=by
 rcases h with h|⟨o,its,n,hk,hc,hd,hs,hz,r⟩
 ·obtain⟨z,its,n,r,e⟩:=h.ok I.hok
  exact⟨its,r,⟨_,n,e,rfl,rfl,rfl⟩,z⟩
 ·refine⟨its.toList,r,⟨o,n,I.kIn a o hk,hc,hd,by simpa using hs⟩,?_⟩
  have e:=r.length
  simp only[Array.length_toList]at e
  lia
theorem Inv.tuple(I:`J)(h:SqT X.K H a xs):∃its:`L,Vals xs its/\IsTup s.heap a its.toArray/\xs.length<=sizeLine:=by
 rcases h with h|⟨o,its,n,hk,hc,hs,hz,r⟩
 ·obtain⟨z,its,r,p⟩:=h.ok I.hok
  exact⟨its,r,p,z⟩
 ·refine⟨its.toList,r,⟨o,I.kIn a o hk,hc,n,by simpa using hs⟩,?_⟩
  have e:=r.length
  simp only[Array.length_toList]at e
  lia
theorem Inv.list_inj(I:`J)(h:SqL X.K H a xs)(h':SqL X.K H a ys):xs=ys:=by
 obtain⟨its,r,⟨o,n,e,_,_,d⟩,_⟩:=I.list h
 obtain⟨its',r',⟨o',n',e',_,_,d'⟩,_⟩:=I.list h'
 rw[e]at e';cases e'
 rw[d]at d'
 injection d' with d1 _
 have:its=its':=by simpa using congrArg Array.toList d1
 subst this
 exact r.inj r'
theorem Inv.qQ(I:`J)(h:SqT X.K H a xs)(h':SqT X.K H a ys):xs=ys:=by
 obtain⟨its,r,⟨o,e,_,n,d⟩,_⟩:=I.tuple h
 obtain⟨its',r',⟨o',e',_,n',d'⟩,_⟩:=I.tuple h'
 rw[e]at e';cases e'
 rw[d]at d'
 injection d' with d1 _
 have:its=its':=by simpa using congrArg Array.toList d1
 subst this
 exact r.inj r'
end
abbrev Cx.wish(X:Cx)(E:`V):Cx:={X with xe:=E}
abbrev Cx.nox(X:Cx):Cx:=X.wish fun _ _=>False
theorem Cx.Ok.wish{X:Cx}(ok:X.Ok)(E:`V):(X.wish E).Ok:=
 ⟨ok.mod,ok.kind,ok.glob,ok.blt,ok.above,ok.inj,ok.has,ok.cab,ok.hd,ok.frames,ok.stk,ok.exf,ok.bs,ok.bsz,ok.noex,ok.exfs,ok.funs,ok.frf⟩
theorem Cx.Ok.unwish{X:Cx}{E:`V}(ok:(X.wish E).Ok):X.Ok:=
 ⟨ok.mod,ok.kind,ok.glob,ok.blt,ok.above,ok.inj,ok.has,ok.cab,ok.hd,ok.frames,ok.stk,ok.exf,ok.bs,ok.bsz,ok.noex,ok.exfs,ok.funs,ok.frf⟩
section
variable{X:Cx}{pins:`U}{σ:St}{H:Hp}{s:Shared}{E:`V}
theorem Inv.wish(I:`J)(E:`V):Inv (X.wish E) pins σ H s:=⟨I.ok.wish E,I.os,I.bare,I.base,I.loc,I.cell,I.free,I.freeC,I.pin,I.hok,I.len⟩
theorem Inv.unwish(I:Inv (X.wish E) pins σ H s):`J:=⟨I.ok.unwish,I.os,I.bare,I.base,I.loc,I.cell,I.free,I.freeC,I.pin,I.hok,I.len⟩
theorem SP.unwish{D:Ends}{f:Flow}{s':Shared}(h:SP (X.wish E) pins D f s'):SP X pins D f s':=by
 cases f with
 |next=>obtain⟨σ',H',I,q⟩:=h;exact⟨σ',H',I.unwish,q⟩
 |brk=>obtain⟨σ',H',I,q⟩:=h;exact⟨σ',H',I.unwish,q⟩
 |cont=>obtain⟨σ',H',I,q⟩:=h;exact⟨σ',H',I.unwish,q⟩
 |ret u=>obtain⟨v,σ',H',I,r,q⟩:=h;exact⟨v,σ',H',I.unwish,r,q⟩
theorem PSs.nox{st:List Stmt}{t:TS}(h:PSs X.nox st t):PSs X st t:=fun pins s σ H D I hw=>
 wpAny_mono (h pins s σ H D (I.wish _) hw) (fun _ _ q=>q.unwish) fun _ _ z=>False.elim z
end
section
variable{X:Cx}{st:Stmt}{rest:List Stmt}{t u:TS}{e:Expr}{te:TE}{pos:Pos}
def tNext:TS:=fun D σ H=>D.nx σ H
def tSeq(t u:TS):TS:=fun D σ H=>t {D with nx:=u D} σ H
theorem pss_nil:PSs X [] tNext:=fun _ _ σ H _ I h=>wpAny_execs_nil ⟨σ,H,I,h⟩
theorem pss_cons(h1:PS X st t)(h2:PSs X rest u):PSs X (st::rest) (tSeq t u):=by
 intro pins s σ H D I h
 refine wpAny_execs_cons (thn (h1 pins s σ H {D with nx:=u D} I h) fun f s1 q=>?_)
 cases f with
 |next=>
  obtain⟨σ',H',I',q⟩:=q
  exact h2 pins s1 σ' H' D I' q
 |ret v=>exact q
 |brk=>exact q
 |cont=>exact q
theorem pss_one(h1:PS X st t):PSs X [st] t:=by
 intro pins s σ H D I h
 refine wpAny_execs_cons (thn (h1 pins s σ H D I h) fun f s1 q=>?_)
 cases f with
 |next=>exact wpAny_execs_nil q
 |ret v=>exact q
 |brk=>exact q
 |cont=>exact q
def ahu:TS:=fun D σ H=>D.ct σ H
theorem aio:PS X (.Pass pos) tNext:=fun _ _ σ H _ I h=>wpAny_Pass ⟨σ,H,I,h⟩
theorem ZD:PS X (.Continue pos) ahu:=fun _ _ σ H _ I h=>wpAny_Continue ⟨σ,H,I,h⟩
theorem Inv.quiet{pins:`U}{σ:St}{H:Hp}{s:Shared}(I:`J):interactive X.env=false:=by simp[interactive,I.ok.kind]
def tDrop(te:TE):TS:=fun D σ H=>te σ H fun _ H1=>D.nx σ H1
theorem ps_expr(he:PE X e te)(hs:swapsWith e none pos.line X.env=pure false:=by rfl):PS X (.Expr e pos) (tDrop te):=by
 intro pins s σ H D I h
 exact wpAny_Expr_any (thn (he pins s σ H _ I h) fun v s1⟨x,H1,I1,r1,q1⟩=>⟨σ,H1,I1,q1⟩) I.quiet hs
def tRet(te:TE):TS:=fun D σ H=>te σ H D.rt
theorem ps_ret(he:PE X e te):PS X (.Return (some e) pos) (tRet te):=by
 intro pins s σ H D I h
 exact wpAny_Return_some (thn (he pins s σ H _ I h) fun v s1⟨x,H1,I1,r1,q1⟩=>⟨x,σ,H1,I1,r1,q1⟩)
def ahr:TS:=fun D _ H=>D.rt .non H
theorem ain:PS X (.Return none pos) ahr:=fun _ _ σ H _ I h=>wpAny_Return_none ⟨.non,σ,H,I,rfl,h⟩
def tIfS(c:TT)(t u:TS):TS:=fun D σ H=>c σ H fun b H1=>if b=true then t D σ H1 else u D σ H1
theorem ps_if{c:Expr}{a b:List Stmt}{tc:TT}(hc:PT X c tc)(ha:PSs X a t)(hb:PSs X b u):PS X (.If c a b pos) (tIfS tc t u):=by
 intro pins s σ H D I h
 refine wpAny_If (thn (hc pins s σ H _ I h) fun d s1⟨H1,I1,q1⟩=>?_)
 cases d with
 |true=>exact ha pins s1 σ H1 D I1 q1
 |false=>exact hb pins s1 σ H1 D I1 q1
def adN:TS:=fun _ _ _=>False
theorem Dm:PS X st adN:=fun _ _ _ _ _ _ h=>h.elim
end
abbrev TG:=V->St->Hp->(St->`M)->Prop
abbrev TGs:=`E->St->Hp->(St->`M)->Prop
def PG(X:Cx)(target:Expr)(t:TG):Prop:=
 ∀(pins:`U)(s:Shared)(σ:St)(H:Hp)(v:V)(u:Value)(Q:St->`M),`J->RelV v u->t v σ H Q->
  wpAny `X X.A (assign target X.env u) (fun _ s'=>∃σ' H',Inv X pins σ' H' s'/\Q σ' H') X.xe s
def PGs(X:Cx)(ts:List Expr)(t:TGs):Prop:=
 ∀(pins:`U)(s:Shared)(σ:St)(H:Hp)(vs:`E)(us:`L)(Q:St->`M),`J->Vals vs us->t vs σ H Q->
  wpAny `X X.A (assignInOrder ((assignEach ts X.env).map (·.2)) us) (fun _ s'=>∃σ' H',Inv X pins σ' H' s'/\Q σ' H') X.xe s
abbrev N_:=V->V->V->Hp->`M->Prop
def Y_(X:Cx)(t:N_):Prop:=
 ∀(pins:`U)(s:Shared)(σ:St)(H:Hp)(o i v:V)(ov iv u:Value)(Q:`M),`J->RelV o ov->RelV i iv->RelV v u->t o i v H Q->
  wpAny `X X.A (setItem ov iv u) (fun _ s'=>∃H',Inv X pins σ H' s'/\Q H') X.xe s
abbrev TIp:=V->V->Hp->VK->Prop
def PIp(X:Cx)(op:Operator)(t:TIp):Prop:=
 ∀(pins:`U)(s:Shared)(σ:St)(H:Hp)(x y:V)(v u:Value)(Q:VK),`J->RelV x v->RelV y u->t x y H Q->
  wpAny `X X.A (inplaceOp op v u) (EP X pins σ Q) X.xe s
section
variable{X:Cx}{pos:Pos}
def gName(i:Nat):TG:=fun v σ H Q=>Q (σ.set i (some v)) H
theorem pg_name{i:Nat}{x:Str}(hN:X.N.Nodup)(hi:X.N[i]?=some x)(hx:Loc X.env.scope x)(hf:X.fn x=true\/X.env.scope.names.lookup x=some .local:=by first|exact .inl rfl|exact .inr rfl|assumption):PG X (.Name x pos) (gName i):=by
 intro pins s σ H v u Q I r h
 exact wpAny_assign_Name (store_ok I hN hi hx r (fun s' I'=>⟨_,H,I',h⟩) hf)
def agV:TGs:=fun vs σ H Q=>vs=[]/\Q σ H
def Vr(t:TG)(u:TGs):TGs:=fun vs σ H Q=>∃v r,vs=v::r/\t v σ H fun σ' H'=>u r σ' H' Q
theorem aa_:PGs X [] agV:=by
 intro pins s σ H vs us Q I r h
 obtain⟨e,h⟩:=h
 subst e
 cases r
 exact assignInOrder_nil ⟨σ,H,I,h⟩
theorem Lp{e:Expr}{es:List Expr}{t:TG}{u:TGs}(h1:PG X e t)(h2:PGs X es u)
  (hs:(assignEach (e::es) X.env).map (·.2)=assign e X.env::(assignEach es X.env).map (·.2):=by rfl):PGs X (e::es) (Vr t u):=by
 intro pins s σ H vs us Q I r h
 obtain⟨v,vr,e1,h⟩:=h
 subst e1
 cases r with
 |cons r rr=>
  rw[hs]
  refine assignInOrder_cons (thn (h1 pins s σ H _ _ _ I r h) fun _ s1⟨σ1,H1,I1,q1⟩=>?_)
  exact h2 pins s1 σ1 H1 _ _ Q I1 rr q1
def agU(K:W.Frag)(n:Nat)(t:TGs):TG:=fun v σ H Q=>∃a xs,v=`I/\SqT K H a xs/\xs.length=n/\t xs σ H Q
theorem aeg{es:List Expr}{k:Nat}{t:TGs}{n:Nat}(hc:X.calm=true)(h:PGs X es t)
  (hn:(assignEach es X.env).length=n:=by rfl)(hst:(assignEach es X.env).findIdx? (·.1)=none:=by rfl):PG X (.Tuple es k pos) (agU X.K n t):=by
 intro pins s σ H v u Q I r hw
 obtain⟨a,xs,e1,hq,hl,hw⟩:=hw
 subst e1
 cases r
 obtain⟨its,rv,ht,hz⟩:=I.tuple hq
 refine assign_Tuple_tuple (I.ok.hd hc) ht (by simp[hn,<-hl,rv.length]) hst fun h' hx=>?_
 have I1:Inv X pins σ H {s with heap:=h'}:=I.kept (t':=s.toks) fun b o e=>hx b o (Nat.ne_of_lt (Heap.lt_size e)) e
 exact h pins _ σ H xs _ Q I1 (by simpa using rv) hw
def akK(to ti:TE)(t:N_):TG:=fun v σ H Q=>to σ H fun o H1=>ti σ H1 fun i H2=>t o i v H2 fun H3=>Q σ H3
theorem aj2{o i:Expr}{to ti:TE}{t:N_}(ho:PE X o to)(hi:PE X i ti)(hs:Y_ X t)
  (ha:∀v,assign (.Subscript o i pos) X.env v=(do
   let ov<-holding [v] (eval o X.env)
   let iv<-holding [v,ov] (eval i X.env)
   standAt pos
   holding [v,ov,iv] (setItem ov iv v)
   release [v,ov,iv] []):=by intro _;rfl):PG X (.Subscript o i pos) (akK to ti t):=by
 intro pins s σ H v u Q I r h
 rw[ha]
 refine wpAny_bind (wpAny_holding (thn (ho pins s σ H _ I h) fun ov s1⟨x,H1,I1,r1,q1⟩=>?_))
 refine wpAny_bind (wpAny_holding (thn (hi pins s1 σ H1 _ I1 q1) fun iv s2⟨y,H2,I2,r2,q2⟩=>?_))
 refine wpAny_bind (wpAny_standAt (wpAny_bind (wpAny_holding (thn (hs pins s2 σ H2 x y v ov iv u _ I2 r1 r2 r q2) fun _ s3⟨H3,I3,q3⟩=>?_))))
 exact wpAny_release ⟨σ,H3,I3,q3⟩
def tAsg(te:TE)(g:TG):TS:=fun D σ H=>te σ H fun x H1=>g x σ H1 D.nx
theorem ajX{tg e:Expr}{te:TE}{g:TG}(he:PE X e te)(hg:PG X tg g)(hs:swapsWithSole [tg] e pos.line X.env=pure false:=by rfl)(hw:swappedStores [tg] e X.env=pure none:=by rfl)
  (h1:(assignEach [tg] X.env).map (·.2)=[assign tg X.env]:=by rfl):PS X (.Assign [tg] e pos) (tAsg te g):=by
 intro pins s σ H D I h
 refine wpAny_Assign_stores (thn (he pins s σ H _ I h) fun v s1⟨x,H1,I1,r1,q1⟩=>?_) hs hw
 rw[h1]
 exact thn (hg pins s1 σ H1 x v _ I1 r1 q1) fun _ s2 q=>q
theorem ps_set{i:Nat}{x:Str}{e:Expr}{te:TE}{pos':Pos}(hN:X.N.Nodup)(hi:X.N[i]?=some x)(hx:Loc X.env.scope x)(he:PE X e te)(hs:swapsWith e (some (.Name x pos')) pos.line X.env=pure false:=by rfl)(hf:X.fn x=true\/X.env.scope.names.lookup x=some .local:=by first|exact .inl rfl|exact .inr rfl|assumption):
  PS X (.Assign [.Name x pos'] e pos) (tAsg te (gName i)):=by
 intro pins s σ H D I h
 refine wpAny_Assign_Name (thn (he pins s σ H _ I h) fun v s1⟨y,H1,I1,r1,q1⟩=>?_) hs
 exact store_ok I1 hN hi hx r1 (fun s2 I2=>⟨_,H1,I2,q1⟩) hf
def ajE(i:Nat)(te:TE)(ti:TIp):TS:=fun D σ H=>∃x,σ[i]?=some (some x)/\te σ H fun y H1=>ti x y H1 fun z H2=>D.nx (σ.set i (some z)) H2
theorem ajW{i:Nat}{x:Str}{e:Expr}{te:TE}{op:Operator}{ti:TIp}{pos':Pos}(hN:X.N.Nodup)(hi:X.N[i]?=some x)(hx:Loc X.env.scope x)(he:PE X e te)(ho:PIp X op ti)(hf:X.fn x=true\/X.env.scope.names.lookup x=some .local:=by first|exact .inl rfl|exact .inr rfl|assumption):
  PS X (.AugAssign (.Name x pos') op e pos) (ajE i te ti):=by
 intro pins s σ H D I h
 obtain⟨v,e1,h⟩:=h
 obtain⟨m,hn,hl⟩:=I.loc
 have vis:Vis X.env.scope x:=by rcases hx with k|k;exact .inl k;exact .inr (.inl k)
 obtain⟨u,r,l⟩:=hl i x v hi e1 vis
 refine wpAny_AugAssign_Name ?_
 have go:wpAny `X X.A (eval e X.env) (fun w s₂=>wpAny `X X.A (inplaceOp op u w) (fun r s₃=>wpAny `X X.A (storeName X.env x r) (fun _=>SP X pins D .next) X.xe s₃) X.xe s₂) X.xe s:=by
  refine thn (he pins s σ H _ I h) fun w s1⟨y,H1,I1,r1,q1⟩=>?_
  refine thn (ho pins s1 σ H1 v y u w _ I1 r r1 q1) fun z s2⟨zv,H2,I2,r2,q2⟩=>?_
  exact store_ok I2 hN hi hx r2 (fun s3 I3=>⟨_,H2,I3,q2⟩) hf
 rcases l with⟨hk,hm⟩|⟨hk,c,hc,hcell⟩
 ·exact wpAny_loadName_local I.ok.kind hk hn hm go
 ·rcases hk with hk|hk
  ·exact wpAny_loadName_cell I.ok.kind hk hc hcell go
  ·rcases hx with k|k
   ·have:X.env.scope.names.lookup x=some .free:=hk
    rw[k]at this;cases this
   ·have:X.env.scope.names.lookup x=some .free:=hk
    rw[k]at this;cases this
def ahw(to ti te:TE)(KN:V->V->Hp->VK->Prop)(tip:TIp)(KJ:N_):TS:=fun D σ H=>to σ H fun o H1=>ti σ H1 fun i H2=>KN o i H2 fun x H3=>te σ H3 fun y H4=>tip x y H4 fun z H5=>KJ o i z H5 fun H6=>D.nx σ H6
def ahm(X:Cx)(t:V->V->Hp->VK->Prop):Prop:=
 ∀(pins:`U)(s:Shared)(σ:St)(H:Hp)(o i:V)(ov iv:Value)(Q:VK),`J->RelV o ov->RelV i iv->t o i H Q->
  wpAny `X X.A (getItem ov iv) (EP X pins σ Q) X.xe s
theorem aip{o i e:Expr}{to ti te:TE}{KN:V->V->Hp->VK->Prop}{tip:TIp}{KJ:N_}{op:Operator}{tpos:Pos}(ho:PE X o to)(hi:PE X i ti)(hg:ahm X KN)(he:PE X e te)(hp:PIp X op tip)(hs:Y_ X KJ)
  (ha:∀ov iv new,augStore i ov iv new=(do holding [new,ov,iv] (setItem ov iv new);release [new,ov,iv] [];pure .next):=by intros;rfl):PS X (.AugAssign (.Subscript o i tpos) op e pos) (ahw to ti te KN tip KJ):=by
 intro pins s σ H D I h
 refine wpAny_AugAssign_SubscriptAny (thn (ho pins s σ H _ I h) fun ov s1⟨x1,H1,I1,r1,q1⟩=>?_) ha
 refine thn (hi pins s1 σ H1 _ I1 q1) fun iv s2⟨x2,H2,I2,r2,q2⟩=>?_
 refine thn (hg pins s2 σ H2 x1 x2 ov iv _ I2 r1 r2 q2) fun old s3⟨x3,H3,I3,r3,q3⟩=>?_
 refine thn (he pins s3 σ H3 _ I3 q3) fun v s4⟨x4,H4,I4,r4,q4⟩=>?_
 refine thn (hp pins s4 σ H4 x3 x4 old v _ I4 r3 r4 q4) fun new s5⟨x5,H5,I5,r5,q5⟩=>?_
 exact thn (hs pins s5 σ H5 x1 x2 x5 ov iv new _ I5 r1 r2 r5 q5) fun _ s6⟨H6,I6,q6⟩=>⟨σ,H6,I6,q6⟩
def ipI(f:Int->Int->Int):TIp:=fun x y H Q=>∃i j,x=.int i/\y=.int j/\Q (.int (f i j)) H
theorem Hv:PIp X .Add (ipI fun i j=>i+j):=by
 intro pins s σ H x y v u Q I r1 r2 h
 obtain⟨i,j,e1,e2,q⟩:=h
 subst e1;subst e2
 obtain⟨t,rfl⟩:=r1
 obtain⟨t',rfl⟩:=r2
 exact iadd_int ⟨.int _,H,I.tok _,⟨_,rfl⟩,q⟩
end
section
variable{X:Cx}{pos:Pos}
def Bv(c:TT)(tb:TS):TS:=fun D σ H=>∃W:Nat->St->`M,(∃m,W m σ H)/\∀m σ H,W m σ H->
 c σ H fun b H1=>if b=true then∃N:St->`M,(∀σ' H',N σ' H'->∃m',m'<m/\W m' σ' H')/\tb {D with nx:=N,ct:=N,bk:=D.nx} σ H1 else D.nx σ H1
theorem WK{c:Expr}{body:List Stmt}{tc:TT}{tb:TS}(hp:PassesOwn `X X.A X.env X.xe)(hc:PT X c tc)(hb:PSs X body tb):PS X (.While c body [] pos) (Bv tc tb):=by
 intro pins s σ H D I h
 obtain⟨W,⟨m0,w0⟩,turn⟩:=h
 refine wpAny_While (codeAny_whileLoop (fun n s'=>∃σ' H',Inv X pins σ' H' s'/\W n σ' H') ?_ m0 ⟨σ,H,I,w0⟩)
 rintro n s1⟨σ1,H1,I1,w1⟩
 refine wpAny_passesOwn hp (thn (hc pins s1 σ1 H1 _ I1 (turn n σ1 H1 w1)) fun b s2⟨H2,I2,q2⟩=>?_)
 cases b with
 |true=>
  obtain⟨N,hN,q2⟩:=q2
  rw[if_pos rfl]
  refine wpAny_passesOwn hp (thn (hb pins s2 σ1 H2 _ I2 q2) fun f s3 q3=>?_)
  cases f with
  |next=>
   obtain⟨σ3,H3,I3,n3⟩:=q3
   obtain⟨m',hm,w3⟩:=hN σ3 H3 n3
   exact⟨m',hm,σ3,H3,I3,w3⟩
  |cont=>
   obtain⟨σ3,H3,I3,n3⟩:=q3
   obtain⟨m',hm,w3⟩:=hN σ3 H3 n3
   exact⟨m',hm,σ3,H3,I3,w3⟩
  |brk=>exact q3
  |ret v=>exact q3
 |false=>
  rw[if_neg Bool.false_ne_true]
  exact wpAny_execs_nil ⟨σ1,H2,I2,q2⟩
end
structure It where
 go:Nat->`M
 yld:Nat->Hp->V->`M
 stop:Nat->`M
def FpOk(X:Cx)(pins:`U)(H:Hp)(b:Addr):Prop:=
 H b=none/\b≠X.env.locals/\b∉X.fs/\(b∈X.ex\/X.s₀.heap.objs.size<=b)/\(∀x c,X.env.cells.lookup x=some c->c≠b)/\∀p∈X.pn++pins,p.1≠b
theorem Inv.fpOk{X:Cx}{pins:`U}{σ:St}{H H':Hp}{s:Shared}{b:Addr}(I:`J)(hb:s.heap.objs.size<=b)(hn:H' b=none):FpOk X pins H' b:=by
 refine⟨hn,Nat.ne_of_gt (Nat.lt_of_lt_of_le I.lt hb),I.nofs hb,.inr (Nat.le_trans I.sz hb),fun x c e z=>?_,fun p hp z=>?_⟩
 ·obtain⟨v,q⟩:=I.cell x c e
  exact absurd (Nat.lt_of_lt_of_le q.lt (by rw[z];exact hb)) (Nat.lt_irrefl _)
 ·exact absurd (Nat.lt_of_lt_of_le (Heap.lt_size (I.pin p hp).1) (by rw[z];exact hb)) (Nat.lt_irrefl _)
structure Turn(P:Program)(w:World)(K:W.Frag)(tg:Expr)(J:It)(fp:List Addr)(it:Addr)(tn:Nat->Heap->Prop):Prop where
 mem:it∈fp
 obj:∀i h,tn i h->∀b∈fp,∃o,h.get? b=some o/\∀v,o.data≠.cell v
 keep:∀i h h',tn i h->(∀b∈fp,∀o,h.get? b=some o->h'.get? b=some o)->tn i h'
 item:∀(X:Cx),X.prog=P->X.w=w->X.K=K->X.calm=true->∀(i:Nat)(pins:`U)(s:Shared)(σ:St)(H:Hp)(E:`V),`J->(∀b∈fp,FpOk X pins H b)->tn i s.heap->J.go i H->
  wpAny (model P w) X.A (pyNext (.ref it)) (fun r s1=>∃u,r=some u/\
   wpAny (model P w) X.A (letOwnedTupleGo tg (.ref it) u) (fun _ s2=>∃x H',Inv X pins σ H' s2/\RelV x u/\J.yld i H x H'/\tn (i+1) s2.heap/\∀b∈fp,H' b=none) E s1) E s
 done:∀(X:Cx),X.prog=P->X.w=w->X.K=K->X.calm=true->∀(i:Nat)(pins:`U)(s:Shared)(σ:St)(H:Hp)(E:`V),`J->(∀b∈fp,FpOk X pins H b)->tn i s.heap->J.stop i H->
  wpAny (model P w) X.A (pyNext (.ref it)) (fun r s1=>r=none/\Inv X pins σ H s1) E s
 self:∀(A:Around)(i:Nat)(s:Shared)(Q:`V)(E:`V),tn i s.heap->Q (.ref it) s->wpAny (model P w) A (pyIter (.ref it)) Q E s
abbrev TI:=St->Hp->(It->`M)->Prop
def PIE(X:Cx)(pins:`U)(σ:St)(tg:Expr)(R:It->`M)(itv:Value)(s2:Shared):Prop:=
 ∃(it:Addr)(fp:List Addr)(tn:Nat->Heap->Prop)(J:It)(H':Hp),itv=.ref it/\Inv X pins σ H' s2/\Turn X.prog X.w X.K tg J fp it tn/\tn 0 s2.heap/\(∀b∈fp,FpOk X pins H' b)/\R J H'
def PI(X:Cx)(tg iter:Expr)(wi:TI):Prop:=
 ∀(pins:`U)(s:Shared)(σ:St)(H:Hp)(R:It->`M),`J->wi σ H R->
  wpAny `X X.A (eval iter X.env) (fun v s1=>wpAny `X X.A (pyIter v) (PIE X pins σ tg R) X.xe s1) X.xe s
theorem go_of{M:Model}{A:Around}{E:`V}{s:Shared}{tg:Expr}{it:Addr}{u:Value}{o:Obj}{n:String}{vs:Array Value}{Q:Unit->Shared->Prop}(ho:s.heap.get? it=some o)(hc:o.cls=.type n)(hd:o.data=.fields vs)
  (hn:["enumerate","zip","dict_itemiterator","dict_reverseitemiterator","odict_iterator","itertools.zip_longest","itertools.pairwise"].contains n=false)(hQ:Q () s):wpAny M A (letOwnedTupleGo tg (.ref it) u) Q E s:=by
 unfold letOwnedTupleGo
 cases tg<;>first
  |exact wpAny_pure hQ
  |(cases u<;>first
    |exact wpAny_pure hQ
    |(refine wpAny_bind (wpAny_load ho ?_);rw[hc,hd];show wpAny M A (if(["enumerate","zip","dict_itemiterator","dict_reverseitemiterator","odict_iterator","itertools.zip_longest","itertools.pairwise"].contains n&&vs[0]? ==some (rawInt _))=true then _ else _) Q E s;rw[if_neg (by intro h;rw[hn,Bool.false_and]at h;cases h)];exact wpAny_pure hQ))
def Itl(K:W.Frag)(a:Addr):It:=
 ⟨fun i H=>∃xs x,SqL K H a xs/\xs[i]?=some x,fun i H x H'=>H'=H/\∀xs,SqL K H a xs->xs[i]?=some x,fun i H=>∃xs,SqL K H a xs/\xs.length<=i⟩
def Itt(K:W.Frag)(a:Addr):It:=
 ⟨fun i H=>∃xs x,SqT K H a xs/\xs[i]?=some x,fun i H x H'=>H'=H/\∀xs,SqT K H a xs->xs[i]?=some x,fun i H=>∃xs,SqT K H a xs/\xs.length<=i⟩
def Itr(lo:Int)(n:Nat):It:=⟨fun i _=>i<n,fun i H x H'=>H'=H/\x=.int (lo+i),fun i _=>n<=i⟩
theorem turn_list{P:Program}{w:World}{K:W.Frag}{tg:Expr}(a it:Addr):Turn P w K tg (Itl K a) [it] it (fun i h=>h.IsListIter it a i)where
 mem:=`G
 obj:=fun i h st b hb=>by
  have e:b=it:=by simpa using hb
  subst e
  obtain⟨o,e,c,d⟩:=st
  exact⟨o,e,fun v z=>by rw[d]at z;cases z⟩
 keep:=fun i h h' st k=>st.at fun o e=>k it `G o e
 item:=by
  intro X hP hw hK hc i pins s σ H E I hf st hg
  subst hP hw hK
  obtain⟨xs,x,hq,hx⟩:=hg
  obtain⟨its,rv,p,hz⟩:=I.list hq
  obtain⟨u,hu,ru⟩:=rv.get hx
  obtain⟨f0,f1,f2,f3,f4,f5⟩:=hf it `G
  refine wpAny_pyNext_list_item st p.isList (x:=u) (by simpa using hu) fun h' st' sb=>?_
  have I1:Inv X pins σ H {s with heap:=h'}:=I.turned (t':=s.toks) (fun b o hb e=>(sb.2 b hb).trans e) f0 f1 f3 f4 f5
  obtain⟨o,e,c,d⟩:=id st'
  exact⟨u,rfl,go_of (s:={s with heap:=h'}) e c d `B ⟨x,H,I1,ru,⟨rfl,fun ys hy=>by rw[I.list_inj hy hq];exact hx⟩,st',fun b hb=>(hf b hb).1⟩⟩
 done:=by
  intro X hP hw hK hc i pins s σ H E I hf st hg
  subst hP hw hK
  obtain⟨xs,hq,hx⟩:=hg
  obtain⟨its,rv,p,hz⟩:=I.list hq
  obtain⟨f0,f1,f2,f3,f4,f5⟩:=hf it `G
  have hl:=rv.length
  exact wpAny_pyNext_list_end (I.ok.hd hc) st p.isList (by simp;lia) fun h' eb=>⟨rfl,I.turned (t':=s.toks) (fun b o hb e=>eb b o hb e) f0 f1 f3 f4 f5⟩
 self:=fun _ _ _ _ _ st h=>wpAny_pyIter_listiter st h
theorem abN{P:Program}{w:World}{K:W.Frag}{tg:Expr}(a it:Addr):Turn P w K tg (Itt K a) [it] it (fun i h=>h.IsTupleIter it a i)where
 mem:=`G
 obj:=fun i h st b hb=>by
  have e:b=it:=by simpa using hb
  subst e
  obtain⟨o,e,c,d⟩:=st
  exact⟨o,e,fun v z=>by rw[d]at z;cases z⟩
 keep:=fun i h h' st k=>st.at fun o e=>k it `G o e
 item:=by
  intro X hP hw hK hc i pins s σ H E I hf st hg
  subst hP hw hK
  obtain⟨xs,x,hq,hx⟩:=hg
  obtain⟨its,rv,p,hz⟩:=I.tuple hq
  obtain⟨u,hu,ru⟩:=rv.get hx
  obtain⟨f0,f1,f2,f3,f4,f5⟩:=hf it `G
  refine wpAny_pyNext_tuple_item st (show s.heap.IsTuple a its.toArray from p) (x:=u) (by simpa using hu) fun h' st' sb=>?_
  have I1:Inv X pins σ H {s with heap:=h'}:=I.turned (t':=s.toks) (fun b o hb e=>(sb.2 b hb).trans e) f0 f1 f3 f4 f5
  obtain⟨o,e,c,d⟩:=id st'
  exact⟨u,rfl,go_of (s:={s with heap:=h'}) e c d `B ⟨x,H,I1,ru,⟨rfl,fun ys hy=>by rw[I.qQ hy hq];exact hx⟩,st',fun b hb=>(hf b hb).1⟩⟩
 done:=by
  intro X hP hw hK hc i pins s σ H E I hf st hg
  subst hP hw hK
  obtain⟨xs,hq,hx⟩:=hg
  obtain⟨its,rv,p,hz⟩:=I.tuple hq
  obtain⟨f0,f1,f2,f3,f4,f5⟩:=hf it `G
  have hl:=rv.length
  exact wpAny_pyNext_tuple_end (I.ok.hd hc) st (show s.heap.IsTuple a its.toArray from p) (by simp;lia) fun h' eb=>⟨rfl,I.turned (t':=s.toks) (fun b o hb e=>eb b o hb e) f0 f1 f3 f4 f5⟩
 self:=fun _ _ _ _ _ st h=>wpAny_pyIter_tupleiter st h
theorem abO{P:Program}{w:World}{K:W.Frag}{tg:Expr}(it:Addr)(lo:Int)(n:Nat):Turn P w K tg (Itr lo n) [it] it (fun i h=>IsRangeIter h it (lo+(i:Nat)*1) ((n:Int)-(i:Nat)) 1)where
 mem:=`G
 obj:=fun i h st b hb=>by
  have e:b=it:=by simpa using hb
  subst e
  exact⟨_,st,fun v z=>by
   have z':Data.fields _=Data.cell v:=z
   cases z'⟩
 keep:=fun i h h' st k=>k it `G _ st
 item:=by
  intro X hP hw hK hc i pins s σ H E I hf st hg
  subst hP hw hK
  obtain⟨f0,f1,f2,f3,f4,f5⟩:=hf it `G
  have W:=Walks.range (prog:=X.prog) (w:=X.w) (I.ok.hd hc) it lo 1 n
  refine W.item i s _ _ hg st fun v h' tk hv st' kk=>?_
  obtain⟨t,rfl⟩:=hv
  have I1:Inv X pins σ H {s with heap:=h',toks:=tk}:=I.turned (fun b o hb e=>kk b o (by simpa using hb) e) f0 f1 f3 f4 f5
  refine⟨_,rfl,go_of (s:={s with heap:=h',toks:=tk}) (n:="range_iterator") st' rfl rfl `B ⟨.int (lo+i),H,I1,⟨t,?_⟩,⟨rfl,rfl⟩,st',fun b hb=>(hf b hb).1⟩⟩
  rw[Int.mul_one]
 done:=by
  intro X hP hw hK hc i pins s σ H E I hf st hg
  subst hP hw hK
  obtain⟨f0,f1,f2,f3,f4,f5⟩:=hf it `G
  exact wpAny_pyNext_range_end (I.ok.hd hc) st (by have:n<=i:=hg;lia) fun h' eb=>⟨rfl,I.turned (t':=s.toks) (fun b o hb e=>eb b o hb e) f0 f1 f3 f4 f5⟩
 self:=fun _ _ _ _ _ st h=>wpAny_pyIter_rangeiter st h
section
variable{X:Cx}{tg:Expr}
def iList(K:W.Frag)(tl:TE):TI:=fun σ H R=>tl σ H fun x H1=>∃a,x=`I/\(∃xs,SqL K H1 a xs)/\R (Itl K a) H1
def akC(K:W.Frag)(tl:TE):TI:=fun σ H R=>tl σ H fun x H1=>∃a,x=`I/\(∃xs,SqT K H1 a xs)/\R (Itt K a) H1
theorem pi_list{l:Expr}{tl:TE}(hl:PE X l tl):PI X tg l (iList X.K tl):=by
 intro pins s σ H R I h
 refine thn (hl pins s σ H _ I h) fun v s1⟨x,H1,I1,r1,q1⟩=>?_
 obtain⟨a,e,⟨xs,hq⟩,q⟩:=q1
 subst e
 cases r1
 obtain⟨its,rv,p,hz⟩:=I1.list hq
 refine wpAny_pyIter_list p.isList ?_
 refine⟨s1.heap.objs.size,[s1.heap.objs.size],_,_,H1,rfl,I1.kept (t':=s1.toks) fun b o e=>Heap.get?_push_of_some _ e,turn_list a _,⟨_,`i,rfl,rfl⟩,fun b hb=>?_,q⟩
 have e:b=s1.heap.objs.size:=by simpa using hb
 subst e
 exact I1.fpOk `K (I1.hok.fresh `K)
theorem aj0{l:Expr}{tl:TE}(hl:PE X l tl):PI X tg l (akC X.K tl):=by
 intro pins s σ H R I h
 refine thn (hl pins s σ H _ I h) fun v s1⟨x,H1,I1,r1,q1⟩=>?_
 obtain⟨a,e,⟨xs,hq⟩,q⟩:=q1
 subst e
 cases r1
 obtain⟨its,rv,p,hz⟩:=I1.tuple hq
 refine wpAny_pyIter_tuple (show s1.heap.IsTuple a its.toArray from p) ?_
 refine⟨s1.heap.objs.size,[s1.heap.objs.size],_,_,H1,rfl,I1.kept (t':=s1.toks) fun b o e=>Heap.get?_push_of_some _ e,abN a _,⟨_,`i,rfl,rfl⟩,fun b hb=>?_,q⟩
 have e:b=s1.heap.objs.size:=by simpa using hb
 subst e
 exact I1.fpOk `K (I1.hok.fresh `K)
theorem af2{pins:`U}{σ:St}{H:Hp}{s:Shared}{R:It->`M}{E:`V}{lo hi:Int}{t u v:Tok}{tk:Nat}(I:`J)(h1:-(2^62)<=lo)(h2:lo<2^62)(h3:-(2^62)<=hi)(h4:hi<2^62)
  (q:R (Itr lo (hi-lo).toNat) H):wpAny `X X.A (pyIter `g) (PIE X pins σ tg R) E {s with heap:=s.heap.push {cls:=.type "range",data:=.fields #[.int lo t,.int hi u,.int 1 v]},toks:=tk}:=by
 refine wpAny_pyIter_range (IsRange.new ..) (small_one h1 h2 h3 h4) ?_
 have I1:Inv X pins σ H {s with heap:=s.heap.push {cls:=.type "range",data:=.fields #[.int lo t,.int hi u,.int 1 v]},toks:=tk}:=I.kept fun b o e=>Heap.get?_push_of_some _ e
 refine⟨(s.heap.push {cls:=.type "range",data:=.fields #[.int lo t,.int hi u,.int 1 v]}).objs.size,[(s.heap.push {cls:=.type "range",data:=.fields #[.int lo t,.int hi u,.int 1 v]}).objs.size],_,_,H,rfl,
  I1.kept (t':=tk) fun b o e=>Heap.get?_push_of_some _ e,abO _ lo (hi-lo).toNat,?_,fun b hb=>?_,q⟩
 ·have e1:lo+((0:Nat):Int)*1=lo:=`G
  have e2:(((hi-lo).toNat:Nat):Int)-((0:Nat):Int)=Builtin.Range.rangeSize lo hi 1:=by rw[rangeSize_one];split<;>lia
  show IsRangeIter _ _ (lo+((0:Nat):Int)*1) ((((hi-lo).toNat:Nat):Int)-((0:Nat):Int)) 1
  rw[e1,e2]
  exact`i
 ·have e:b=(s.heap.push {cls:=.type "range",data:=.fields #[.int lo t,.int hi u,.int 1 v]}).objs.size:=by simpa using hb
  subst e
  exact I1.fpOk `K (I1.hok.fresh `K)
def ahL(ta:TA):TI:=fun σ H R=>ta σ H fun vs H1=>∃j:Int,vs=[.int j]/\-(2^62)<=j/\j<2^62/\R (Itr 0 j.toNat) H1
theorem aef{a:Expr}{ta:TA}{p pos:Pos}(hg:Gl X "range")(hm:X.mg "range"=none)(ha:PA X [a] ta)(hs:starEach [a] X.env=[(false,eval a X.env)]:=by rfl):PI X tg (.Call (.Name "range" p) [a] [] pos) (ahL ta):=by
 intro pins s σ H R I h
 refine Call_ (ld_blt I hg hm boot_range (PyProof.Rows.callWith_type1 (thn (ha pos pins s σ H _ I h) fun us s1⟨vs,H1,I1,r1,q1⟩=>?_) hs rfl))
 obtain⟨j,e,q1,q2,q⟩:=q1
 subst e
 cases r1 with
 |cons r rr=>
  cases rr
  obtain⟨t,rfl⟩:=r
  exact call_range_1 (af2 I1 `A `A q1 q2 (by simpa using q))
def tFor(wi:TI)(g:TG)(tb:TS):TS:=fun D σ H=>wi σ H fun J H1=>∃W:Nat->Nat->St->`M,(∃m,W 0 m σ H1)/\∀i m σ H,W i m σ H->
 (J.stop i H/\D.nx σ H)\/(J.go i H/\∃N:St->`M,(∀σ' H',N σ' H'->∃m',m'<m/\W (i+1) m' σ' H')/\∀x H',J.yld i H x H'->g x σ H' fun σ2 H2=>tb {D with nx:=N,ct:=N,bk:=D.nx} σ2 H2)
def pinsAt(fp:List Addr)(h:Heap):`U:=fp.filterMap fun b=>(h.get? b).map fun o=>(b,o)
theorem mem_pinsAt{fp:List Addr}{h:Heap}{b:Addr}{o:Obj}(hb:b∈fp)(e:h.get? b=some o):(b,o)∈pinsAt fp h:=List.mem_filterMap.mpr ⟨b,hb,by rw[e];rfl⟩
theorem of_pinsAt{fp:List Addr}{h:Heap}{p:Addr×Obj}(hp:p∈pinsAt fp h):p.1∈fp/\h.get? p.1=some p.2:=by
 obtain⟨b,hb,e⟩:=List.mem_filterMap.mp hp
 cases q:h.get? b with
 |none=>rw[q]at e;cases e
 |some o=>
  rw[q]at e
  have e':(b,o)=p:=Option.some.inj e
  subst e'
  exact⟨hb,q⟩
theorem Inv.pinned{pins:`U}{σ:St}{H:Hp}{s:Shared}{fp:List Addr}(I:`J)(hf:∀b∈fp,FpOk X pins H b)(ho:∀b∈fp,∃o,s.heap.get? b=some o/\∀v,o.data≠.cell v):Inv X (pins++pinsAt fp s.heap) σ H s:=
 I.pins_of fun p hp=>(List.mem_append.mp hp).elim (fun z=>I.pin p (List.mem_append_right _ z)) fun z=>by
  obtain⟨hb,e⟩:=of_pinsAt z
  obtain⟨f0,f1,f2,_⟩:=hf p.1 hb
  obtain⟨o,e',d⟩:=ho p.1 hb
  rw[e]at e';cases e'
  exact⟨e,f0,f1,f2,d⟩
theorem Inv.unpinned{pins pl:`U}{σ:St}{H:Hp}{s:Shared}(I:Inv X (pins++pl) σ H s):`J:=I.pins_of fun p hp=>I.pin p (List.mem_append_right _ (List.mem_append_left _ hp))
theorem ps_for{iter:Expr}{body:List Stmt}{wi:TI}{g:TG}{tb:TS}{pos:Pos}(hp:PassesOwn `X X.A X.env X.xe)(hc:X.calm=true)(hi:PI X tg iter wi)(hg:PG X tg g)(hb:PSs X body tb)
  (hs:∀x,foldedSetIterable iter X.env x=pure x:=by intro _;rfl):PS X (.For tg iter body [] pos) (tFor wi g tb):=by
 intro pins s σ H D I h
 refine wpAny_For (thn (hi pins s σ H _ I h) fun v s1 h1=>thn h1 fun itv s2 h2=>?_) hs
 obtain⟨it,fp,tn,J,H2,e,I2,T,st2,f2,W,⟨m0,w0⟩,turn⟩:=h2
 subst e
 have stat:∀{H':Hp},(∀b∈fp,H' b=none)->∀b∈fp,FpOk X pins H' b:=fun hn b hb=>⟨hn b hb,(f2 b hb).2⟩
 refine codeAny_forLoop_any (fun n s'=>∃i σ' H',Inv X pins σ' H' s'/\tn i s'.heap/\(∀b∈fp,H' b=none)/\W i n σ' H') ?_ m0 ⟨0,σ,H2,I2,st2,fun b hb=>(f2 b hb).1,w0⟩
 rintro n s3⟨i,σ3,H3,I3,st3,fr3,w3⟩
 rcases turn i n σ3 H3 w3 with⟨stop,qn⟩|⟨go,N,hN,step⟩
 ·refine wpAny_passesOwn hp (thn (T.done X rfl rfl rfl hc i pins s3 σ3 H3 X.xe I3 (stat fr3) st3 stop) fun r s4⟨hr,I4⟩=>?_)
  subst hr
  exact wpAny_execs_nil ⟨σ3,H3,I4,qn⟩
 ·refine wpAny_passesOwn hp (thn (T.item X rfl rfl rfl hc i pins s3 σ3 H3 X.xe I3 (stat fr3) st3 go) fun r s4⟨u,hr,h4⟩=>?_)
  subst hr
  refine wpAny_passesOwn hp (thn h4 fun _ s5⟨x,H5,I5,r5,y5,st5,fr5⟩=>?_)
  have I5':=I5.pinned (stat fr5) (T.obj _ _ st5)
  refine wpAny_passesOwn hp (thn (hg _ s5 σ3 H5 x u _ I5' r5 (step x H5 y5)) fun _ s6⟨σ6,H6,I6,q6⟩=>?_)
  refine wpAny_passesOwn hp (thn (hb _ s6 σ6 H6 _ I6 q6) fun f s7 q7=>?_)
  have again:∀{σ7:St}{H7:Hp},Inv X (pins++pinsAt fp s5.heap) σ7 H7 s7->N σ7 H7->∃m,m<n/\∃i σ' H',Inv X pins σ' H' s7/\tn i s7.heap/\(∀b∈fp,H' b=none)/\W i m σ' H':=fun{σ7 H7}I7 n7=>by
   obtain⟨m',hm,w7⟩:=hN σ7 H7 n7
   refine⟨m',hm,i+1,σ7,H7,I7.unpinned,T.keep _ _ _ st5 fun b hb o e=>(I7.pin (b,o) (List.mem_append_right _ (List.mem_append_right _ (mem_pinsAt hb e)))).1,fun b hb=>?_,w7⟩
   obtain⟨o,e,d⟩:=T.obj _ _ st5 b hb
   exact(I7.pin (b,o) (List.mem_append_right _ (List.mem_append_right _ (mem_pinsAt hb e)))).2.1
  cases f with
  |next=>obtain⟨σ7,H7,I7,n7⟩:=q7;exact again I7 n7
  |cont=>obtain⟨σ7,H7,I7,n7⟩:=q7;exact again I7 n7
  |brk=>obtain⟨σ7,H7,I7,q7⟩:=q7;exact⟨σ7,H7,I7.unpinned,q7⟩
  |ret v=>obtain⟨x7,σ7,H7,I7,r7,q7⟩:=q7;exact⟨x7,σ7,H7,I7.unpinned,r7,q7⟩
end
theorem for_list{K:W.Frag}{a:Addr}{xs:`E}{g:TG}{tb:TS}{D:Ends}{σ:St}{H:Hp}(Pv:Nat->St->`M)(h0:Pv 0 σ H)(hl:∀i σ H,i<=xs.length->Pv i σ H->SqL K H a xs)
  (hs:∀i x σ H,xs[i]?=some x->Pv i σ H->g x σ H fun σ2 H2=>tb {D with nx:=Pv (i+1),ct:=Pv (i+1),bk:=D.nx} σ2 H2)(hd:∀σ H,Pv xs.length σ H->D.nx σ H):
  ∃W:Nat->Nat->St->`M,(∃m,W 0 m σ H)/\∀i m σ H,W i m σ H->
   ((Itl K a).stop i H/\D.nx σ H)\/((Itl K a).go i H/\∃N:St->`M,(∀σ' H',N σ' H'->∃m',m'<m/\W (i+1) m' σ' H')/\∀x H',(Itl K a).yld i H x H'->g x σ H' fun σ2 H2=>tb {D with nx:=N,ct:=N,bk:=D.nx} σ2 H2):=by
 refine⟨fun i m σ H=>m=xs.length-i/\i<=xs.length/\Pv i σ H,⟨xs.length,`G,`W,h0⟩,?_⟩
 rintro i m σ H⟨rfl,hi,p⟩
 have q:=hl i σ H hi p
 by_cases hlt:i<xs.length
 ·refine .inr ⟨⟨xs,xs[i],q,by simp[hlt]⟩,Pv (i+1),fun σ' H' p'=>⟨xs.length-(i+1),`A,rfl,hlt,p'⟩,fun x H' y=>?_⟩
  obtain⟨e,y⟩:=y
  subst e
  exact hs i x σ _ (y xs q) p
 ·have e:i=xs.length:=`A
  subst e
  exact .inl ⟨⟨xs,q,`K⟩,hd σ H p⟩
theorem Hy{lo:Int}{n:Nat}{g:TG}{tb:TS}{D:Ends}{σ:St}{H:Hp}(Pv:Nat->St->`M)(h0:Pv 0 σ H)
  (hs:∀i σ H,i<n->Pv i σ H->g (.int (lo+i)) σ H fun σ2 H2=>tb {D with nx:=Pv (i+1),ct:=Pv (i+1),bk:=D.nx} σ2 H2)(hd:∀σ H,Pv n σ H->D.nx σ H):
  ∃W:Nat->Nat->St->`M,(∃m,W 0 m σ H)/\∀i m σ H,W i m σ H->
   ((Itr lo n).stop i H/\D.nx σ H)\/((Itr lo n).go i H/\∃N:St->`M,(∀σ' H',N σ' H'->∃m',m'<m/\W (i+1) m' σ' H')/\∀x H',(Itr lo n).yld i H x H'->g x σ H' fun σ2 H2=>tb {D with nx:=N,ct:=N,bk:=D.nx} σ2 H2):=by
 refine⟨fun i m σ H=>m=n-i/\i<=n/\Pv i σ H,⟨n,`G,`W,h0⟩,?_⟩
 rintro i m σ H⟨rfl,hi,p⟩
 by_cases hlt:i<n
 ·refine .inr ⟨hlt,Pv (i+1),fun σ' H' p'=>⟨n-(i+1),`A,rfl,hlt,p'⟩,fun x H' y=>?_⟩
  obtain⟨e,y⟩:=y
  subst e y
  exact hs i σ _ hlt p
 ·have e:i=n:=`A
  subst e
  exact .inl ⟨`K,hd σ H p⟩
abbrev R2:=V->V->Hp->VK->Prop
def OpR(X:Cx)(f:Value->Value->Sem Value)(r:R2):Prop:=
 ∀(pins:`U)(s:Shared)(σ:St)(H:Hp)(x y:V)(v u:Value)(Q:VK),`J->RelV x v->RelV y u->r x y H Q->
  wpAny `X X.A (f v u) (EP X pins σ Q) X.xe s
def UnR(X:Cx)(f:Value->Sem Value)(r:V->Hp->VK->Prop):Prop:=
 ∀(pins:`U)(s:Shared)(σ:St)(H:Hp)(x:V)(v:Value)(Q:VK),`J->RelV x v->r x H Q->
  wpAny `X X.A (f v) (EP X pins σ Q) X.xe s
def CallR(X:Cx)(f:Value)(r:`E->Hp->VK->Prop):Prop:=
 ∀(pins:`U)(s:Shared)(σ:St)(H:Hp)(xs:`E)(us:`L)(Q:VK),`J->Vals xs us->r xs H Q->
  wpAny `X X.A (call f us) (EP X pins σ Q) X.xe s
def asT(X:Cx)(r:V->Hp->(Bool->`M)->Prop):Prop:=
 ∀(pins:`U)(s:Shared)(σ:St)(H:Hp)(x:V)(v:Value)(Q:Bool->`M),`J->RelV x v->r x H Q->
  wpAny `X X.A (truthy v) (TP X pins σ Q) X.xe s
def tOp(r:R2)(ta tb:TE):TE:=fun σ H Q=>ta σ H fun x H1=>tb σ H1 fun y H2=>r x y H2 Q
def tUn(r:V->Hp->VK->Prop)(ta:TE):TE:=fun σ H Q=>ta σ H fun x H1=>r x H1 Q
def rI(C:Int->Int->Prop)(g:Int->Int->V):R2:=fun x y H Q=>∃i j,x=.int i/\y=.int j/\C i j/\Q (g i j) H
def rI0(g:Int->Int->V):R2:=fun x y H Q=>∃i j,x=.int i/\y=.int j/\Q (g i j) H
def rU(g:Int->V):V->Hp->VK->Prop:=fun x H Q=>∃i,x=.int i/\Q (g i) H
section
variable{X:Cx}{a b c:Expr}{ta tb tc:TE}{pos:Pos}
theorem binT(ha:PE X a ta)(hb:PE X b tb){pins:`U}{s:Shared}{σ:St}{H:Hp}{R:V->V->`M}(I:`J)
  (h:ta σ H fun x H1=>tb σ H1 fun y H2=>R x y H2){Q:`V}{f:Value->Value->Sem Value}
  (hf:∀v u s2 x y H2,Inv X pins σ H2 s2->RelV x v->RelV y u->R x y H2->wpAny `X X.A (f v u) Q X.xe s2):
  wpAny `X X.A (eval a X.env) (fun v s₁=>wpAny `X X.A (eval b X.env) (fun u s₂=>wpAny `X X.A (f v u) Q X.xe s₂) X.xe s₁) X.xe s:=by
 refine thn (ha pins s σ H _ I h) fun v s1⟨x,H1,I1,r1,q1⟩=>?_
 refine thn (hb pins s1 σ H1 _ I1 q1) fun u s2⟨y,H2,I2,r2,q2⟩=>?_
 exact hf v u s2 x y H2 I2 r1 r2 q2
theorem pe_op{op:Operator}{r:R2}(ho:OpR X (binaryOp op) r)(ha:PE X a ta)(hb:PE X b tb):PE X (.BinOp a op b pos) (tOp r ta tb):=by
 intro pins s σ H Q I h
 exact wpAny_BinOp (binT ha hb I h fun v u s2 x y H2 I2 rx ry q=>ho pins s2 σ H2 x y v u Q I2 rx ry q)
theorem ahF{op:UnaryOp}{r:V->Hp->VK->Prop}(ho:UnR X (unaryOp op) r)(ha:PE X a ta):PE X (.UnaryOp op a pos) (tUn r ta):=by
 intro pins s σ H Q I h
 exact UnaryOp_ (thn (ha pins s σ H _ I h) fun v s1⟨x,H1,I1,r1,q1⟩=>ho pins s1 σ H1 x v Q I1 r1 q1)
theorem opI{f:Value->Value->Sem Value}{C:Int->Int->Prop}{g:Int->Int->Int}
  (rule:∀(i j:Int)(t u:Tok)(s:Shared)(Q:`V)(E:`V),C i j->Q (.int (g i j) s.toks) {s with toks:=s.toks+1}->wpAny `X X.A (f (.int i t) (.int j u)) Q E s):
  OpR X f (rI C fun i j=>.int (g i j)):=by
 intro pins s σ H x y v u Q I rx ry h
 obtain⟨i,j,rfl,rfl,hc,q⟩:=h
 obtain⟨t,rfl⟩:=rx
 obtain⟨t',rfl⟩:=ry
 exact rule i j t t' s _ _ hc ⟨.int (g i j),H,I.tok _,⟨_,rfl⟩,q⟩
theorem opI0{f:Value->Value->Sem Value}{g:Int->Int->Int}
  (rule:∀(i j:Int)(t u:Tok)(s:Shared)(Q:`V)(E:`V),Q (.int (g i j) s.toks) {s with toks:=s.toks+1}->wpAny `X X.A (f (.int i t) (.int j u)) Q E s):
  OpR X f (rI0 fun i j=>.int (g i j)):=by
 intro pins s σ H x y v u Q I rx ry h
 obtain⟨i,j,rfl,rfl,q⟩:=h
 obtain⟨t,rfl⟩:=rx
 obtain⟨t',rfl⟩:=ry
 exact rule i j t t' s _ _ ⟨.int (g i j),H,I.tok _,⟨_,rfl⟩,q⟩
theorem opB0{f:Value->Value->Sem Value}{g:Int->Int->Bool}
  (rule:∀(i j:Int)(t u:Tok)(s:Shared)(Q:`V)(E:`V),Q (.bool (g i j)) s->wpAny `X X.A (f (.int i t) (.int j u)) Q E s):
  OpR X f (rI0 fun i j=>.bl (g i j)):=by
 intro pins s σ H x y v u Q I rx ry h
 obtain⟨i,j,rfl,rfl,q⟩:=h
 obtain⟨t,rfl⟩:=rx
 obtain⟨t',rfl⟩:=ry
 exact rule i j t t' s _ _ ⟨.bl (g i j),H,I,rfl,q⟩
def CDiv(i j:Int):Prop:=0<j/\j<1073741824
def asU(i j:Int):Prop:=0<=j/\j<=1000000/\i.natAbs<2^64
def CMul(i j:Int):Prop:=(-(2^64)<i/\i<2^64)\/(-(2^64)<j/\j<2^64)
theorem CMul.ok{i j:Int}(h:CMul i j):IntMulOk i j:=by
 rcases h with⟨h1,h2⟩|⟨h1,h2⟩
 ·exact .of_left (intBits_le_64 h1 h2)
 ·exact .of_right (intBits_le_64 h1 h2)
theorem op_add:OpR X (binaryOp .Add) (rI0 fun i j=>.int (i+j)):=opI0 fun _ _ _ _ _ _ _ q=>add_int q
theorem op_sub:OpR X (binaryOp .Sub) (rI0 fun i j=>.int (i-j)):=opI0 fun _ _ _ _ _ _ _ q=>sub_int q
theorem vh:OpR X (binaryOp .Mult) (rI CMul fun i j=>.int (i*j)):=opI fun _ _ _ _ _ _ _ hc q=>mul_int q hc.ok
theorem op_fdiv:OpR X (binaryOp .FloorDiv) (rI CDiv fun i j=>.int (i/j)):=opI fun i j _ _ _ _ _ hc q=>by
 have h1:(0:Int)<j:=hc.1
 have h2:j<1073741824:=hc.2
 exact floordiv_int `A (by rw[Int.fdiv_eq_ediv_of_nonneg i `A];exact q) (.inl (PyProof.noPylong_small `A))
theorem op_mod:OpR X (binaryOp .Mod) (rI (fun _ j=>0<j) fun i j=>.int (i%j)):=opI fun i j _ _ _ _ _ hc q=>by
 have h1:(0:Int)<j:=hc
 exact mod_int' `A (by rw[Int.fmod_eq_emod_of_nonneg i `A];exact q)
theorem aj9:OpR X (binaryOp .Pow) (rI asU fun i j=>.int (i^j.toNat)):=opI fun _ _ _ _ _ _ _ hc q=>pow_int_small hc.1 hc.2.1 hc.2.2 q
theorem unI{f:Value->Sem Value}{g:Int->Int}
  (rule:∀(i:Int)(t:Tok)(s:Shared)(Q:`V)(E:`V),Q (.int (g i) s.toks) {s with toks:=s.toks+1}->wpAny `X X.A (f (.int i t)) Q E s):
  UnR X f (rU fun i=>.int (g i)):=by
 intro pins s σ H x v Q I rx h
 obtain⟨i,rfl,q⟩:=h
 obtain⟨t,rfl⟩:=rx
 exact rule i t s _ _ ⟨.int (g i),H,I.tok _,⟨_,rfl⟩,q⟩
theorem j4:UnR X (unaryOp .USub) (rU fun i=>.int (-i)):=unI fun _ _ _ _ _ q=>neg_int q
end
def scal:V->V->Bool
 | .non,.non=>true| .non,.int _=>true| .int _,.non=>true| .non,.bl _=>true| .bl _,.non=>true| .non,.str _=>true| .str _,.non=>true
 | .int _,.int _=>true| .bl _,.bl _=>true| .str _,.str _=>true| .byt _,.byt _=>true
 | .int _,.str _=>true| .str _,.int _=>true| .bl _,.str _=>true| .str _,.bl _=>true
 |_,_=>false
def rEq:R2:=fun x y H Q=>scal x y=true/\Q (.bl (decide (x=y))) H
def rNe:R2:=fun x y H Q=>scal x y=true/\Q (.bl (!decide (x=y))) H
theorem dec_int{i j:Int}:decide (V.int i=V.int j)=(i==j):=by
 rw[Bool.eq_iff_iff]
 simp
theorem dec_bl{i j:Bool}:decide (V.bl i=V.bl j)=(i==j):=by
 rw[Bool.eq_iff_iff]
 simp
theorem dec_str{i j:Str}:decide (V.str i=V.str j)=(i==j):=by
 rw[Bool.eq_iff_iff]
 simp
theorem dec_byt{i j:Array UInt8}:decide (V.byt i=V.byt j)=(i.toList==j.toList):=by
 rw[Bool.eq_iff_iff]
 cases i
 cases j
 simp
section
variable{X:Cx}{a b c:Expr}{ta tb tc:TE}{pos:Pos}
theorem fin_bl{pins:`U}{σ:St}{H:Hp}{s:Shared}{Q:VK}{k k':Bool}(I:`J)(q:Q (.bl k) H)(e:k=k'):EP X pins σ Q (.bool k') s:=by
 subst e
 exact⟨.bl k,H,I,rfl,q⟩
theorem op_eq:OpR X (compareOp .Eq) rEq:=by
 intro pins s σ H x y v u Q I rx ry h
 obtain⟨hs,q⟩:=h
 cases x with
 |non=>
  cases rx
  cases y with
  |non=>cases ry;exact PySem.EqNone.eq_none_none (fin_bl I q `G)
  |bl j=>cases ry;exact PySem.EqNone.eq_none_bool (fin_bl I q `G)
  |int j=>obtain⟨t',rfl⟩:=ry;exact PySem.EqNone.eq_none_int (fin_bl I q `G)
  |str j=>obtain⟨t',rfl⟩:=ry;exact PySem.EqNone.eq_none_str (fin_bl I q `G)
  |_=>exact absurd (show false=true from hs) Bool.false_ne_true
 |bl i=>
  cases rx
  cases y with
  |non=>cases ry;exact PySem.EqNone.eq_bool_none (fin_bl I q `G)
  |bl j=>cases ry;exact eq_bool (fin_bl I q dec_bl)
  |str j=>obtain⟨t',rfl⟩:=ry;exact PySem.EqMixed.eq_bool_str (fin_bl I q `G)
  |_=>exact absurd (show false=true from hs) Bool.false_ne_true
 |int i=>
  obtain⟨t,rfl⟩:=rx
  cases y with
  |non=>cases ry;exact PySem.EqNone.eq_int_none (fin_bl I q `G)
  |int j=>obtain⟨t',rfl⟩:=ry;exact eq_int (fin_bl I q dec_int)
  |str j=>obtain⟨t',rfl⟩:=ry;exact PySem.EqMixed.eq_int_str (fin_bl I q `G)
  |_=>exact absurd (show false=true from hs) Bool.false_ne_true
 |str i=>
  obtain⟨t,rfl⟩:=rx
  cases y with
  |non=>cases ry;exact PySem.EqNone.eq_str_none (fin_bl I q `G)
  |bl j=>cases ry;exact PySem.EqMixed.eq_str_bool (fin_bl I q `G)
  |int j=>obtain⟨t',rfl⟩:=ry;exact PySem.EqMixed.eq_str_int (fin_bl I q `G)
  |str j=>obtain⟨t',rfl⟩:=ry;exact eq_str (fin_bl I q dec_str)
  |_=>exact absurd (show false=true from hs) Bool.false_ne_true
 |byt i=>
  obtain⟨t,rfl⟩:=rx
  cases y with
  |byt j=>obtain⟨t',rfl⟩:=ry;exact W.eq_bytes (fin_bl I q dec_byt)
  |_=>exact absurd (show false=true from hs) Bool.false_ne_true
 |_=>cases y<;>exact absurd (show false=true from hs) Bool.false_ne_true
theorem op_ne:OpR X (compareOp .NotEq) rNe:=by
 intro pins s σ H x y v u Q I rx ry h
 obtain⟨hs,q⟩:=h
 cases x with
 |non=>
  cases rx
  cases y with
  |non=>cases ry;exact PySem.EqNone.ne_none_none (fin_bl I q `G)
  |bl j=>cases ry;exact PySem.EqNone.ne_none_bool (fin_bl I q `G)
  |int j=>obtain⟨t',rfl⟩:=ry;exact PySem.EqNone.ne_none_int (fin_bl I q `G)
  |str j=>obtain⟨t',rfl⟩:=ry;exact PySem.EqNone.ne_none_str (fin_bl I q `G)
  |_=>exact absurd (show false=true from hs) Bool.false_ne_true
 |bl i=>
  cases rx
  cases y with
  |non=>cases ry;exact PySem.EqNone.ne_bool_none (fin_bl I q `G)
  |bl j=>cases ry;exact ne_bool (fin_bl I q (congrArg not dec_bl))
  |str j=>obtain⟨t',rfl⟩:=ry;exact PySem.EqMixed.ne_bool_str (fin_bl I q `G)
  |_=>exact absurd (show false=true from hs) Bool.false_ne_true
 |int i=>
  obtain⟨t,rfl⟩:=rx
  cases y with
  |non=>cases ry;exact PySem.EqNone.ne_int_none (fin_bl I q `G)
  |int j=>obtain⟨t',rfl⟩:=ry;exact ne_int (fin_bl I q (congrArg not dec_int))
  |str j=>obtain⟨t',rfl⟩:=ry;exact PySem.EqMixed.ne_int_str (fin_bl I q `G)
  |_=>exact absurd (show false=true from hs) Bool.false_ne_true
 |str i=>
  obtain⟨t,rfl⟩:=rx
  cases y with
  |non=>cases ry;exact PySem.EqNone.ne_str_none (fin_bl I q `G)
  |bl j=>cases ry;exact PySem.EqMixed.ne_str_bool (fin_bl I q `G)
  |int j=>obtain⟨t',rfl⟩:=ry;exact PySem.EqMixed.ne_str_int (fin_bl I q `G)
  |str j=>obtain⟨t',rfl⟩:=ry;exact ne_str (fin_bl I q (congrArg not dec_str))
  |_=>exact absurd (show false=true from hs) Bool.false_ne_true
 |byt i=>
  obtain⟨t,rfl⟩:=rx
  cases y with
  |byt j=>obtain⟨t',rfl⟩:=ry;exact W.ne_bytes (fin_bl I q (congrArg not dec_byt))
  |_=>exact absurd (show false=true from hs) Bool.false_ne_true
 |_=>cases y<;>exact absurd (show false=true from hs) Bool.false_ne_true
theorem ahI:OpR X (compareOp .Lt) (rI0 fun i j=>.bl (decide (i<j))):=opB0 fun _ _ _ _ _ _ _ q=>lt_int q
theorem al4:OpR X (compareOp .LtE) (rI0 fun i j=>.bl (decide (i<=j))):=opB0 fun _ _ _ _ _ _ _ q=>le_int q
theorem Jx:OpR X (compareOp .Gt) (rI0 fun i j=>.bl (decide (j<i))):=opB0 fun _ _ _ _ _ _ _ q=>gt_int q
theorem W0:OpR X (compareOp .Is) (fun x y H Q=>y=.non/\Q (.bl (decide (x=.non))) H):=by
 intro pins s σ H x y v u Q I rx ry h
 obtain⟨rfl,q⟩:=h
 cases ry
 refine is_none_gen (fin_bl I q ?_)
 cases x<;>first
  |(cases rx;rfl)
  |(obtain⟨t,rfl⟩:=rx;rfl)
theorem nomark(b:Expr){op:CmpOp}(h:op≠.In:=by decide)(h2:op≠.NotIn:=by decide):behindInMarks op b=false:=by
 have e1:(op==CmpOp.In)=false:=by cases op<;>first|rfl|exact absurd rfl h
 have e2:(op==CmpOp.NotIn)=false:=by cases op<;>first|rfl|exact absurd rfl h2
 cases b<;>simp[behindInMarks,e1,e2]
theorem pe_cmpR{op:CmpOp}{r:R2}(ho:OpR X (compareOp op) r)(ha:PE X a ta)(hb:PE X b tb)(hm:behindInMarks op b=false):PE X (.Compare a [op] [b] pos) (tOp r ta tb):=by
 intro pins s σ H Q I h
 exact wpAny_Compare1 (binT ha hb I h fun v u s2 x y H2 I2 rx ry q=>ho pins s2 σ H2 x y v u Q I2 rx ry q) hm
def tTest(t:TE):TT:=fun σ H Q=>t σ H fun x H'=>∃k,x=.bl k/\Q k H'
theorem pt_cmpR{op:CmpOp}{r:R2}(ho:OpR X (compareOp op) r)(ha:PE X a ta)(hb:PE X b tb)(hm:behindInMarks op b=false):PT X (.Compare a [op] [b] pos) (tTest (tOp r ta tb)):=by
 intro pins s σ H Q I h
 refine wpAny_isTrue_Compare1 (thn (ha pins s σ H _ I h) fun v s1⟨x,H1,I1,r1,q1⟩=>thn (hb pins s1 σ H1 _ I1 q1) fun u s2⟨y,H2,I2,r2,q2⟩=>
  thn (ho pins s2 σ H2 x y v u _ I2 r1 r2 q2) fun c s3⟨z,H3,I3,r3,k,e,q3⟩=>?_) hm
 subst e
 cases r3
 exact wpAny_truthy_bool ⟨H3,I3,q3⟩
def Y7(K:W.Frag)(x:V)(H:Hp)(k:Bool):Prop:=
 match x with
 | .non=>k=false
 | .bl b=>k=b
 | .int i=>k=(i !=0)
 | .str y=>y.length<=sizeLine/\k=((y.length:Int)!=0)
 | .byt y=>y.size<=sizeLine/\k=((y.size:Int)!=0)
 | .ref p=>(∃xs,SqL K H p xs/\k=!xs.isEmpty)\/(∃xs,SqT K H p xs/\k=!xs.isEmpty)\/∃kvs,H p=some (.dK kvs)/\k=!kvs.isEmpty
 |_=>False
theorem acG{κ:Type}{kvs:List (κ×V)}{vs:List (κ×Value)}(r:KV kvs vs):(!vs.isEmpty)=!kvs.isEmpty:=by
 cases r<;>rfl
theorem Pz{xs:`E}{its:`L}(r:Vals xs its):(!its.toArray.isEmpty)=!xs.isEmpty:=by
 cases r<;>simp
theorem line63:(sizeLine:Nat)<2^63:=by rw[sizeLine_eq];decide
theorem adI:asT X (fun x H Q=>∃k,Y7 X.K x H k/\Q k H):=by
 intro pins s σ H x v Q I rx h
 obtain⟨k,e,q⟩:=h
 have hl:=line63
 have hs:sizeLine=16777216:=sizeLine_eq
 cases x with
 |non=>
  cases rx
  have e':k=false:=e
  subst e'
  exact truthy_none ⟨H,I,q⟩
 |bl b=>
  cases rx
  have e':k=b:=e
  subst e'
  exact wpAny_truthy_bool ⟨H,I,q⟩
 |int i=>
  obtain⟨t,rfl⟩:=rx
  have e':k=(i !=0):=e
  subst e'
  exact PySem.P.truthy_int ⟨H,I,q⟩
 |str y=>
  obtain⟨t,rfl⟩:=rx
  obtain⟨hy,e'⟩:y.length<=sizeLine/\k=((y.length:Int)!=0):=e
  subst e'
  exact PySem.P.truthy_str `A ⟨H,I.tok _,q⟩
 |byt y=>
  obtain⟨t,rfl⟩:=rx
  obtain⟨hy,e'⟩:y.size<=sizeLine/\k=((y.size:Int)!=0):=e
  subst e'
  exact W.truthy_bytes `A ⟨H,I.tok _,q⟩
 |ref p=>
  cases rx
  have e':(∃xs,SqL X.K H p xs/\k=!xs.isEmpty)\/(∃xs,SqT X.K H p xs/\k=!xs.isEmpty)\/∃kvs,H p=some (.dK kvs)/\k=!kvs.isEmpty:=e
  rcases e' with⟨xs,hx,e'⟩|⟨xs,hx,e'⟩|⟨kvs,hx,e'⟩
  ·subst e'
   obtain⟨its,r,pl,hz⟩:=I.list hx
   have hlen:=r.length
   exact wpAny_truthy_list pl.isList (by simp only[List.size_toArray];lia) ⟨H,I.tok _,by rw[Pz r];exact q⟩
  ·subst e'
   obtain⟨its,r,pl,hz⟩:=I.tuple hx
   have hlen:=r.length
   exact truthy_tuple pl (by simp only[List.size_toArray];lia) ⟨H,I.tok _,by rw[Pz r];exact q⟩
  ·subst e'
   obtain⟨hz,hS,vs,r,m⟩:kvs.length<=sizeLine/\(p==sysModules)=false/\∃vs,KV kvs vs/\s.heap.DictOf (mixKind X.prog X.w) p vs:=I.hok p _ hx
   have hlen:kvs.length=vs.length:=Paired.length r
   exact wpAny_truthy_dict hS m `A ⟨H,I.tok _,by rw[acG r];exact q⟩
 |_=>exact(show False from e).elim
theorem WD(ha:PE X a ta)(he:∀whole,isTrue a X.env whole=(do let v<-whole;standAt a.pos;holding [v] (truthy v))):
  PT X a (fun σ H Q=>ta σ H fun x H'=>∃k,Y7 X.K x H' k/\Q k H'):=by
 intro pins s σ H Q I h
 exact isTrue_plain (thn (ha pins s σ H _ I h) fun v s1⟨x,H1,I1,r1,q1⟩=>adI pins s1 σ H1 x v Q I1 r1 q1) (he _)
theorem Pg:OpR X (binaryOp .Add) (fun x y H Q=>∃i j,x=.str i/\y=.str j/\i.length+j.length<=sizeLine/\Q (.str (i++j)) H):=by
 intro pins s σ H x y v u Q I rx ry h
 obtain⟨i,j,rfl,rfl,hz,q⟩:=h
 obtain⟨t,rfl⟩:=rx
 obtain⟨t',rfl⟩:=ry
 exact add_str (fun t' tk=>⟨.str (i++j),H,I.tok _,⟨_,rfl⟩,q⟩) hz
theorem vals1{x:V}{us:`L}(r:Vals [x] us):∃u,us=[u]/\RelV x u:=by
 cases r with
 |cons r1 r2=>cases r2;exact⟨_,rfl,r1⟩
theorem vals2{x y:V}{us:`L}(r:Vals [x,y] us):∃u w',us=[u,w']/\RelV x u/\RelV y w':=by
 cases r with
 |cons r1 r2=>
  cases r2 with
  |cons r3 r4=>cases r4;exact⟨_,_,rfl,r1,r3⟩
theorem UJ(hc:X.calm=true):CallR X (.builtin "min") (fun xs H Q=>∃i j,xs=[.int i,.int j]/\Q (.int (if j<i then j else i)) H):=by
 intro pins s σ H xs us Q I r h
 obtain⟨i,j,rfl,q⟩:=h
 obtain⟨u,w',rfl,⟨t,rfl⟩,⟨t',rfl⟩⟩:=vals2 r
 refine min_two_ints (I.ok.hd hc) fun h' tk k=>⟨_,H,I.kept k,?_,q⟩
 by_cases hj:j<i
 ·rw[if_pos hj,if_pos hj];exact⟨_,rfl⟩
 ·rw[if_neg hj,if_neg hj];exact⟨_,rfl⟩
end
structure ObjM(h:Heap)(x dx C:Addr)(mA:`Y):Prop where
 obj:h.get? x=some (W.instObj C dx)
 ns:h.Ns1 dx mA
 ne:dx≠x
theorem lookIn_ns{h:Heap}{dx:Addr}{mA:`Y}(n:h.Ns1 dx mA):∃od,h.get? dx=some od/\∀name,W.lookIn name od=some (mA name):=by
 obtain⟨o,es,ep,ho,hd,hk,_,hm⟩:=n
 refine⟨o,ho,fun name=>?_⟩
 have e:=hm name
 unfold nsFind findBy at e
 rw[<-Array.find?_toList]at e
 unfold W.lookIn
 rw[hd]
 dsimp only
 split
 ·rename_i y q
  rw[q]at e
  exact congrArg some e
 ·rename_i q
  rw[q]at e
  have a:es.toList.any (·.refKey)=false:=by
   rw[List.any_eq_false]
   intro y hy
   obtain⟨z,t,hkey⟩:=hk y (Array.mem_toList_iff.mp hy)
   simp[DictEntry.refKey,hkey]
  have a':¬es.toList.any (·.refKey)=true:=by rw[a];exact Bool.false_ne_true
  rw[if_neg a']
  exact congrArg some e
theorem ObjM.look{h:Heap}{x dx C:Addr}{mA:`Y}(I:ObjM h x dx C mA):∃od,W.InstAt h x (W.instObj C dx) C (some od)/\∀name,W.lookIn name od=some (mA name):=
 let⟨od,ho,hl⟩:=lookIn_ns I.ns
 ⟨od,⟨I.obj,rfl,rfl,ho⟩,hl⟩
section
variable{prog:Program}{w:World}{A:Around}{E:`V}{s:Shared}{K:W.Frag}{x dx C f:Addr}{mA:`Y}{name:Str}{v:Value}
theorem get_map{expr:Bool}{Q:`V}(X:K.In s.heap)(I:ObjM s.heap x dx C mA)(hg:W.plainGet K C name=true)(hh:W.hasDictIn K C=true)
  (ha:W.findIn K (.ref C) name=some none)(hv:mA name=some v)(hv':W.handedIn v=true)(h:Q v {s with toks:=s.toks+1}):
  wpAny `b A (getAttr (.ref x) name expr) Q E s:=by
 obtain⟨od,J,hl⟩:=I.look
 exact W.get_value X J (W.plainGet_of hg).1 (W.findObj_own hh ha rfl (by rw[hl,hv])) hv' h
theorem get_meth{pl:Sem Bool}{Q:Value×`L->Shared->Prop}(X:K.In s.heap)(I:ObjM s.heap x dx C mA)(hg:W.plainGet K C name=true)
  (hf:W.findIn K (.ref C) name=some (some (.ref f)))(ht:W.isFn K (.ref f)=true)(hv:mA name=none)(h:Q (.ref f,[.ref x]) s):
  wpAny `b A (getMethod (.ref x) name pl) Q E s:=by
 obtain⟨od,J,hl⟩:=I.look
 exact W.method_fn X J (W.plainGet_of hg).1 (W.plainGet_of hg).2 hf (beq_iff_eq.mp ht) (by show(W.lookIn name od).map (·.isSome)=some false;rw[hl,hv];rfl) h
theorem set_map{ns:List Str}{Q:Unit->Shared->Prop}(X:K.In s.heap)(I:ObjM s.heap x dx C mA)
  (hs:W.findIn K (.ref C) "__setattr__"=some (some (.builtin "object.__setattr__")))(hp:W.plainOver K C=true)(ht:W.takerIn K C name=some none)(hh:W.hasDictIn K C=true)
  (hw:PySem.Within mA ns)(hsz:ns.length<=sizeLine)
  (h:∀h',ObjM h' x dx C (fun y=>if y=name then some v else mA y)->Heap.SameBut dx s.heap h'->Q () {s with heap:=h',toks:=s.toks+2}):
  wpAny `b A (setAttr (.ref x) name v) Q E s:=by
 obtain⟨od,J,hl⟩:=I.look
 refine W.set_plain X J hs (W.osa_open (s:={s with toks:=s.toks+1}) (r:=none) X J hp ht fun b=>?_)
 obtain⟨cd,hc,hd'⟩:=W.any_some hh
 have hx:s.heap.get? x=some ⟨.ref C,some dx,.plain,#[]⟩:=I.obj
 refine wpAny_bind (wpAny_pure (wpAny_bind (wpAny_bind (wpAny_loadPart hx (wpAny_bind (W.Looks.here (s:={s with toks:=s.toks+1}) (W.looks_clsIn X hc) ?_))))))
 rw[hd']
 refine wpAny_pure (a:=some dx) (wpAny_bind (wpAny_pure (wpAny_bind ?_)))
 refine wpAny_nsSet1 (s:={s with toks:=s.toks+1}) I.ns fun h' hn2 hs2=>?_
 obtain⟨oD,esD,epD,hoD,hdD,hcD⟩:=hn2.count (PySem.Within.cons name v hw)
 refine wpAny_bind (wpAny_lookBehind hoD (by rw[hdD];exact pastItsLine_dict (Nat.le_trans hcD (by rw[List.length_cons];lia))) ?_)
 exact wpAny_pure (h _ ⟨(hs2.2 _ (Ne.symm I.ne)).trans I.obj,hn2,I.ne⟩ hs2)
theorem make_map{R:Result->Shared->Prop}{vs:`L}{kw:List (Str×Value)}(X:K.In s.heap)(hm:W.makesIn K C=true)
  (hi:W.findIn K (.ref C) "__init__"=some (some (.ref f)))(hf:W.typeIn K (.ref f)=some (.type "function"))
  (h:codeAny `b (A.under (.builtin "type.__call__" ⟨.ref C::vs,kw⟩)) (.call (.ref f) ⟨.ref (s.heap.objs.size+1)::vs,kw⟩) (W.InitBack (s.heap.objs.size+1) R)
   {s with heap:=(s.heap.push W.emptyDict).push (W.instObj C s.heap.objs.size)}):
  codeAny `b A (.call (.ref C) ⟨vs,kw⟩) R s:=by
 obtain⟨hh,g,d,t,os⟩:=s
 exact W.make_core (W.makes_of X hm) (W.looks_findIn X hi) (fun self=>W.bind_fn X self hf) (.inl rfl) h
end
def putF(f:Str)(v:V):`c->`c
 |[]=>[(f,v)]
 |(g,x)::r=>if g=f then(g,v)::r else(g,x)::putF f v r
theorem lookup_putF(f g:Str)(v:V):∀fs:`c,(putF f v fs).lookup g=if g=f then some v else fs.lookup g
 |[]=>by
  show List.lookup g [(f,v)]=_
  by_cases h:g=f
  ·have hb:(g==f)=true:=beq_iff_eq.mpr h
   simp only[List.lookup,hb,if_pos h]
  ·have hb:(g==f)=false:=beq_eq_false_iff_ne.mpr h
   simp only[List.lookup,hb,if_neg h]
 |(k,x)::r=>by
  have ih:=lookup_putF f g v r
  rw[show putF f v ((k,x)::r)=(if k=f then(k,v)::r else(k,x)::putF f v r)from rfl]
  by_cases hk:k=f
  ·rw[if_pos hk]
   by_cases h:g=k
   ·have hb:(g==k)=true:=beq_iff_eq.mpr h
    simp only[List.lookup,hb,if_pos (h.trans hk)]
   ·have hb:(g==k)=false:=beq_eq_false_iff_ne.mpr h
    simp only[List.lookup,hb,if_neg (fun e:g=f=>h (e.trans hk.symm))]
  ·rw[if_neg hk]
   by_cases h:g=k
   ·have hb:(g==k)=true:=beq_iff_eq.mpr h
    simp only[List.lookup,hb,if_neg (fun e:g=f=>hk (h.symm.trans e))]
   ·have hb:(g==k)=false:=beq_eq_false_iff_ne.mpr h
    simp only[List.lookup,hb]
    exact ih
theorem keys_putF(f:Str)(v:V):∀fs:`c,f∈(putF f v fs).map (·.1)/\∀g,g∈fs.map (·.1)->g∈(putF f v fs).map (·.1)
 |[]=>⟨by simp[putF],fun g h=>by simp at h⟩
 |(k,x)::r=>by
  obtain⟨i1,i2⟩:=keys_putF f v r
  rw[show putF f v ((k,x)::r)=(if k=f then(k,v)::r else(k,x)::putF f v r)from rfl]
  by_cases hk:k=f
  ·rw[if_pos hk]
   subst hk
   exact⟨`G,fun g h=>by simpa using h⟩
  ·rw[if_neg hk]
   refine⟨?_,fun g h=>?_⟩
   ·rw[List.map_cons]
    exact List.mem_cons_of_mem _ i1
   ·rw[List.map_cons]at h|-
    rcases List.mem_cons.mp h with e|e
    ·exact List.mem_cons.mpr (.inl e)
    ·exact List.mem_cons_of_mem _ (i2 g e)
theorem length_putF(f:Str)(v:V):∀fs:`c,(putF f v fs).length<=fs.length+1
 |[]=>by simp[putF]
 |(k,x)::r=>by
  have ih:=length_putF f v r
  rw[show putF f v ((k,x)::r)=(if k=f then(k,v)::r else(k,x)::putF f v r)from rfl]
  by_cases hk:k=f
  ·rw[if_pos hk,List.length_cons,List.length_cons];lia
  ·rw[if_neg hk,List.length_cons,List.length_cons];lia
theorem RelO.some_of{v:V}{o:Option Value}(r:RelO (some v) o):∃u,o=some u/\RelV v u:=by
 cases o with
 |none=>exact(show False from r).elim
 |some u=>exact⟨u,rfl,r⟩
theorem RelO.none_of{o:Option Value}(r:RelO none o):o=none:=by
 cases o with
 |none=>rfl
 |some u=>exact(show False from r).elim
theorem handed_of{v:V}{u:Value}(r:RelV v u):W.handedIn u=true:=by
 cases v with
 |non=>cases(show u=Value.none from r);rfl
 |bl b=>cases(show u=Value.bool b from r);rfl
 |int i=>obtain⟨t,e⟩:=(show∃t,u=Value.int i t from r);cases e;rfl
 |str x=>obtain⟨t,e⟩:=(show∃t,u=Value.str x t from r);cases e;rfl
 |byt b=>obtain⟨t,e⟩:=(show∃t,u=Value.bytes b t from r);cases e;rfl
 |flt b=>obtain⟨t,e⟩:=(show∃t,u=Value.float b t from r);cases e;rfl
 |ref a=>cases(show u=Value.ref a from r);rfl
 |ty n=>cases(show u=Value.type n from r);rfl
section
variable{P:Program}{w:World}{H H':Hp}{h h':Heap}{a C dx:Addr}{fs fs':`c}
theorem ins_get(hok:HOk P w H h)(e:H a=some (.ins C dx fs)):∃mA,ObjM h a dx C mA/\(∀f,RelO (fs.lookup f) (mA f))/\PySem.Within mA (fs.map (·.1))/\fs.length<=1000/\H dx=some (.own a):=by
 obtain⟨d,z,ne,ob,mA,n,r,q⟩:=(show ObjOk P w H h a (.ins C dx fs)from hok a _ e)
 exact⟨mA,⟨ob,n,ne⟩,r,q,z,d⟩
end
structure Cls(K:W.Frag)(C:Addr):Prop where
 pg:W.plainGet K C Str.empty=true
 hd:W.hasDictIn K C=true
 po:W.plainOver K C=true
 sa:W.findIn K (.ref C) "__setattr__"=some (some (.builtin "object.__setattr__"))
theorem Cls.get{K:W.Frag}{C:Addr}(c:Cls K C)(f:Str):W.plainGet K C f=true:=c.pg
def NoAttr(K:W.Frag)(C:Addr)(f:Str):Prop:=W.findIn K (.ref C) f=some none
theorem NoAttr.taker{K:W.Frag}{C:Addr}{f:Str}(n:NoAttr K C f):W.takerIn K C f=some none:=by
 unfold W.takerIn
 rw[show W.findIn K (.ref C) f=some none from n]
 rfl
structure Meth(K:W.Frag)(C:Addr)(m:Str)(f:Addr):Prop where
 at_:W.findIn K (.ref C) m=some (some (.ref f))
 fn:W.isFn K (.ref f)=true
 kp:W.keepIn K (.ref f)=true
section
variable{X:Cx}{pins:`U}{σ:St}{H:Hp}{s:Shared}{a C dx:Addr}{fs:`c}{f:Str}{v:V}{A:Around}{E:`V}
theorem getattr_ok{b:Bool}{Q:`V}(I:`J)(e:H a=some (.ins C dx fs))(c:Cls X.K C)(n:NoAttr X.K C f)(l:fs.lookup f=some v)
  (h:∀u s',Inv X pins σ H s'->RelV v u->Q u s'):wpAny `X A (getAttr `I f b) Q E s:=by
 obtain⟨mA,O,r,_,_,_⟩:=ins_get I.hok e
 obtain⟨u,hu,ru⟩:=RelO.some_of (v:=v) (o:=mA f) (by rw[<-l];exact r f)
 exact get_map I.kIn O (c.get f) c.hd n hu (handed_of ru) (h u _ (I.tok _) ru)
theorem getmeth_ok{m:Str}{g:Addr}{pl:Sem Bool}{Q:Value×`L->Shared->Prop}(I:`J)(e:H a=some (.ins C dx fs))(c:Cls X.K C)(k:Meth X.K C m g)(l:fs.lookup m=none)
  (h:Q (.ref g,[`I]) s):wpAny `X A (getMethod `I m pl) Q E s:=by
 obtain⟨mA,O,r,_,_,_⟩:=ins_get I.hok e
 have hn:mA m=none:=RelO.none_of (by rw[<-l];exact r m)
 exact get_meth I.kIn O (c.get m) k.at_ k.fn hn h
theorem setattr_ok{y:V}{u:Value}{Q:Unit->Shared->Prop}(I:`J)(e:H a=some (.ins C dx fs))(c:Cls X.K C)(n:NoAttr X.K C f)(hl:fs.length<1000)(ry:RelV y u)
  (h:∀s',Inv X pins σ (upd H a (.ins C dx (putF f y fs))) s'->Q () s'):wpAny `X A (setAttr `I f u) Q E s:=by
 obtain⟨mA,O,r,wi,_,ho⟩:=ins_get I.hok e
 have hz:(fs.map (·.1)).length<=sizeLine:=by rw[List.length_map,sizeLine_eq];lia
 refine set_map I.kIn O c.sa c.po n.taker c.hd wi hz fun h' O' sb=>h _ ?_
 have hd:∃o,h'.get? dx=some o:=let⟨o,_,_,e',_⟩:=O'.ns;⟨o,e'⟩
 refine I.write (x:=a) (e:=dx) (by rw[e];exact True.intro) (.inr ho) (fun b q hb z=>(sb.2 b hb).trans z) hd ?_
 refine⟨by rw[upd_ne O.ne];exact ho,?_,O.ne,O'.obj,_,O'.ns,fun g=>?_,fun g hg=>?_⟩
 ·have:=length_putF f y fs;lia
 ·show RelO ((putF f y fs).lookup g) (if g=f then some u else mA g)
  rw[lookup_putF]
  by_cases q:g=f
  ·rw[if_pos q,if_pos q];exact ry
  ·rw[if_neg q,if_neg q];exact r g
 ·by_cases q:g=f
  ·rw[q];exact(keys_putF f y fs).1
  ·refine(keys_putF f y fs).2 g (wi g fun z=>hg ?_)
   show(if g=f then some u else mA g)=none
   rw[if_neg q];exact z
theorem Inv.made(I:`J):Inv X pins σ (upd (upd H s.heap.objs.size (.own (s.heap.objs.size+1))) (s.heap.objs.size+1) (.ins C s.heap.objs.size []))
  {s with heap:=(s.heap.push W.emptyDict).push (W.instObj C s.heap.objs.size)}:=by
 have e1:(s.heap.push W.emptyDict).get? s.heap.objs.size=some W.emptyDict:=Heap.get?_push_size s.heap rfl
 have e2:((s.heap.push W.emptyDict).push (W.instObj C s.heap.objs.size)).get? (s.heap.objs.size+1)=some (W.instObj C s.heap.objs.size):=by
  have:=Heap.get?_push_size (s.heap.push W.emptyDict) (o:=W.instObj C s.heap.objs.size) rfl
  rwa[Heap.size_push]at this
 have e3:(s.heap.push W.emptyDict).Ns s.heap.objs.size (fun _=>none):=⟨W.emptyDict,#[],_,e1,rfl,(fun e he=>absurd he `G),fun _=>rfl⟩
 have I1:=I.laid (a:=s.heap.objs.size) (o:=.own (s.heap.objs.size+1)) (h':=s.heap.push W.emptyDict) (t':=s.toks) (fun b u q=>Heap.get?_push_of_some _ q) `K ⟨_,e1⟩
 refine I1.laid (a:=s.heap.objs.size+1) (o:=.ins C s.heap.objs.size []) (t':=s.toks) (fun b u q=>Heap.get?_push_of_some _ q) (Nat.le_of_eq (Heap.size_push _ _)) ?_
 have ne:s.heap.objs.size≠s.heap.objs.size+1:=Nat.ne_of_lt (Nat.lt_succ_self _)
 refine⟨by rw[upd_ne ne,upd_same],`W,ne,e2,fun _=>none,(Heap.Ns1.of_empty e3).at fun o q=>Heap.get?_push_of_some _ q,fun _=>True.intro,fun y hy=>absurd rfl hy⟩
theorem attr_of{prog:Program}{w:World}{env:Env}{e:Expr}{f:Str}{pos:Pos}{s:Shared}{Q:`V}(hb:attributeBase e f env (eval e env)=eval e env)
  (h:wpAny `b A (eval e env) (fun o s₁=>wpAny `b A (getAttr o f true) Q E s₁) E s):wpAny `b A (eval (.Attribute e f pos) env) Q E s:=
 Attribute_any_ h (by rw[arm_eval_Attribute,hb])
end
def tFld(K:W.Frag)(ta:TE)(f:Str):TE:=fun σ H Q=>ta σ H fun x H1=>∃a C dx fs v,x=`I/\H1 a=some (.ins C dx fs)/\Cls K C/\NoAttr K C f/\fs.lookup f=some v/\Q v H1
def sFld(K:W.Frag)(ta tv:TE)(f:Str):TS:=fun D σ H=>tv σ H fun y H1=>ta σ H1 fun x H2=>∃a C dx fs,x=`I/\H2 a=some (.ins C dx fs)/\Cls K C/\NoAttr K C f/\fs.length<1000/\
 D.nx σ (upd H2 a (.ins C dx (putF f y fs)))
def adg(X:Cx)(op:Operator)(rd:V->V->Hp->VK->Prop):Prop:=
 ∀(pins:`U)(s:Shared)(σ:St)(H:Hp)(x y:V)(u v:Value)(Q:VK),`J->RelV x u->RelV y v->rd x y H Q->wpAny `X X.A (inplaceOp op u v) (EP X pins σ Q) X.xe s
def aa5(K:W.Frag)(ta tv:TE)(rd:V->V->Hp->VK->Prop)(f:Str):TS:=fun D σ H=>ta σ H fun x H1=>∃a C dx fs v,x=`I/\H1 a=some (.ins C dx fs)/\Cls K C/\NoAttr K C f/\fs.lookup f=some v/\
 tv σ H1 fun y H2=>rd v y H2 fun z H3=>∃dx' fs',H3 a=some (.ins C dx' fs')/\fs'.length<1000/\D.nx σ (upd H3 a (.ins C dx' (putF f z fs')))
section
variable{X:Cx}{o e value:Expr}{f:Str}{pos pos' tpos:Pos}{ta tv:TE}
theorem pe_fld(he:PE X e ta)(hb:attributeBase e f X.env (eval e X.env)=eval e X.env):PE X (.Attribute e f pos) (tFld X.K ta f):=by
 intro pins s σ H Q I h
 refine attr_of hb (thn (he pins s σ H _ I h) fun u s1⟨x,H1,I1,rx,a,C,dx,fs,v,ex,ea,c,n,l,q⟩=>?_)
 subst ex
 obtain rfl:u=Value.ref a:=rx
 exact getattr_ok I1 ea c n l fun u' s2 I2 ru=>⟨v,H1,I2,ru,q⟩
theorem ps_fld(ha:PE X o ta)(hv:PE X value tv)(hs:swapsWith value (some (.Attribute o f pos')) pos.line X.env=pure false):PS X (.Assign [.Attribute o f pos'] value pos) (sFld X.K ta tv f):=by
 intro pins s σ H D I h
 refine plainObj_wpAny_Assign_Attribute (thn (hv pins s σ H _ I h) fun u s1⟨y,H1,I1,ry,q⟩=>thn (ha pins s1 σ H1 _ I1 q) fun ov s2⟨x,H2,I2,rx,a,C,dx,fs,ex,ea,c,n,l,q2⟩=>?_) hs
 subst ex
 obtain rfl:ov=Value.ref a:=rx
 exact setattr_ok I2 ea c n l ry fun s3 I3=>⟨σ,_,I3,q2⟩
theorem aee{op:Operator}{rd:V->V->Hp->VK->Prop}(ha:PE X o ta)(hv:PE X value tv)(hop:adg X op rd):PS X (.AugAssign (.Attribute o f tpos) op value pos) (aa5 X.K ta tv rd f):=by
 intro pins s σ H D I h
 refine wpAny_AugAssign_AttributeAny (thn (ha pins s σ H _ I h) fun ov s1⟨x,H1,I1,rx,a,C,dx,fs,v,ex,ea,c,n,l,q⟩=>?_)
 subst ex
 obtain rfl:ov=Value.ref a:=rx
 refine getattr_ok I1 ea c n l fun u s2 I2 ru=>thn (hv pins s2 σ H1 _ I2 q) fun w3 s3⟨y,H2,I3,ry,q3⟩=>thn (hop pins s3 σ H2 v y u w3 _ I3 ru ry q3) fun w4 s4⟨z,H3,I4,rz,dx',fs',ea',l',q4⟩=>?_
 exact setattr_ok I4 ea' c n l' rz fun s5 I5=>⟨σ,_,I5,q4⟩
def anf:V->V->Hp->VK->Prop:=fun x y H Q=>∃i j,x=.int i/\y=.int j/\Q (.int (i+j)) H
def am8:V->V->Hp->VK->Prop:=fun x y H Q=>∃i j,x=.int i/\y=.int j/\Q (.int (i-j)) H
theorem akz:adg X .Add anf:=by
 rintro pins s σ H x y u v Q I rx ry⟨i,j,rfl,rfl,q⟩
 obtain⟨t,rfl⟩:=(show∃t,u=Value.int i t from rx)
 obtain⟨t',rfl⟩:=(show∃t',v=Value.int j t' from ry)
 exact PyProof.Rows.iadd_int ⟨.int (i+j),H,I.tok _,⟨_,rfl⟩,q⟩
theorem akx:adg X .Sub am8:=by
 rintro pins s σ H x y u v Q I rx ry⟨i,j,rfl,rfl,q⟩
 obtain⟨t,rfl⟩:=(show∃t,u=Value.int i t from rx)
 obtain⟨t',rfl⟩:=(show∃t',v=Value.int j t' from ry)
 exact PyProof.Rows.isub_int ⟨.int (i-j),H,I.tok _,⟨_,rfl⟩,q⟩
end
section
variable{X:Cx}{pins:`U}{σ:St}{H:Hp}{s:Shared}{A:Around}{E:`V}{Q:`V}{c:Value}{b:Bool}
inductive TyOf(K:W.Frag)(H:Hp):V->Value->Prop where
 |non:TyOf K H .non (.type "NoneType")
 |bl(x:Bool):TyOf K H (.bl x) (.type "bool")
 |int(i:Int):TyOf K H (.int i) (.type "int")
 |str(x:Str):TyOf K H (.str x) (.type "str")
 |flt(x:UInt64):TyOf K H (.flt x) (.type "float")
 |lst{a:Addr}{xs:`E}(e:H a=some (.lst xs)):TyOf K H `I (.type "list")
 |frz{a:Addr}{o:Obj}{xs:`E}(e:H a=some (.frz o (.lst xs))):TyOf K H `I (.type "list")
 |tup{a:Addr}{xs:`E}(e:H a=some (.tup xs)):TyOf K H `I `a
 |dK{a:Addr}{kvs:List (Key×V)}(e:H a=some (.dK kvs)):TyOf K H `I (.type "dict")
 |dT{a:Addr}{kvs:List (List Key×V)}(e:H a=some (.dT kvs)):TyOf K H `I (.type "dict")
 |ins{a C dx:Addr}{fs:`c}(e:H a=some (.ins C dx fs))(cl:Cls K C)(ha:W.findIn K (.ref C) "__class__"=some (some (.builtin "object.__class__")))
   (hn:W.specialIn K (.builtin "object.__class__") "__get__"=some (some (.builtin "getset_descriptor.__get__")))(htk:W.takesIn K (.builtin "object.__class__")=some true)
   (hm:W.mroIn K C (.type "object")=some true):TyOf K H `I (.ref C)
theorem Uw{x:V}{u t:Value}(I:`J)(rx:RelV x u)(ty:TyOf X.K H x t)(e:W.kitOne X.K t c=some b)(h:∀tk,Q (.bool b) {s with toks:=tk}):
  wpAny `X A (call (.builtin "isinstance") [u,c]) Q E s:=by
 cases ty with
 |non=>cases(show u=Value.none from rx);exact W.kia_one W.kitx_none I.kIn True.intro e (fun z=>nomatch z) h
 |bl y=>cases(show u=Value.bool y from rx);exact W.kia_one W.kitx_bool I.kIn True.intro e (fun z=>nomatch z) h
 |int i=>obtain⟨t,q⟩:=(show∃t,u=Value.int i t from rx);cases q;exact W.kia_one W.kitx_int I.kIn True.intro e (fun z=>nomatch z) h
 |str y=>obtain⟨t,q⟩:=(show∃t,u=Value.str y t from rx);cases q;exact W.kia_one W.kitx_str I.kIn True.intro e (fun z=>nomatch z) h
 |flt y=>obtain⟨t,q⟩:=(show∃t,u=Value.float y t from rx);cases q;exact W.kia_one W.kitx_float I.kIn True.intro e (fun z=>nomatch z) h
 | @lst a xs ea=>
  cases(show u=Value.ref a from rx)
  obtain⟨_,_,n,_,h1⟩:=(show ObjOk X.prog X.w H s.heap a (.lst xs)from I.hok a _ ea)
  exact W.kia_one W.kitx_list I.kIn ⟨_,h1,rfl⟩ e (fun z=>nomatch z) h
 | @frz a ob xs ea=>
  cases(show u=Value.ref a from rx)
  obtain⟨_,_,_,n,_,h1⟩:=(show ObjOk X.prog X.w H s.heap a (.frz ob (.lst xs))from I.hok a _ ea)
  exact W.kia_one W.kitx_list I.kIn ⟨_,h1,rfl⟩ e (fun z=>nomatch z) h
 | @tup a xs ea=>
  cases(show u=Value.ref a from rx)
  obtain⟨_,_,_,p⟩:=(show ObjOk X.prog X.w H s.heap a (.tup xs)from I.hok a _ ea)
  obtain⟨o,h1,h2,_⟩:=p
  exact W.kia_one W.kitx_tuple I.kIn ⟨o,h1,h2⟩ e (fun z=>nomatch z) h
 | @dK a kvs ea=>
  cases(show u=Value.ref a from rx)
  obtain⟨_,_,vs,_,p⟩:=(show ObjOk X.prog X.w H s.heap a (.dK kvs)from I.hok a _ ea)
  obtain⟨o,es,ep,h1,h2,_⟩:=p
  exact W.kia_one W.kitx_dict I.kIn ⟨o,h1,h2.1⟩ e (fun z=>nomatch z) h
 | @dT a kvs ea=>
  cases(show u=Value.ref a from rx)
  obtain⟨_,_,xs,_,o,es,ep,h1,h2,_⟩:=(show ObjOk X.prog X.w H s.heap a (.dT kvs)from I.hok a _ ea)
  exact W.kia_one W.kitx_dict I.kIn ⟨o,h1,h2.1⟩ e (fun z=>nomatch z) h
 | @ins a C dx fs ea cl ha hn htk hm=>
  cases(show u=Value.ref a from rx)
  obtain⟨mA,O,_⟩:=ins_get I.hok ea
  obtain⟨od,J,_⟩:=O.look
  exact W.kia_one (W.kitx_own (cl.get _) cl.hd ha hn htk hm) I.kIn J e (fun z=>nomatch z) h
end
structure Room(k:Nat)(A:Around):Prop where
 hd:A.handled=none
 dp:A.depth+k+5<recursionLimit
 un:A.units+16*k+200<cLine
theorem Room.mono{j k:Nat}{A:Around}(r:Room k A)(h:j<=k):Room j A:=⟨r.hd,by have:=r.dp;lia,by have:=r.un;lia⟩
theorem Room.deeper{k:Nat}{A:Around}(r:Room (k+1) A)(env:Env):Room k (A.deeper env):=
 ⟨r.hd,by have:=r.dp;show A.depth+1+k+5<_;lia,by have:=r.un;show A.units+3+16*k+200<_;lia⟩
theorem make_depth{A:Around}{C:Addr}{us:`L}{kw:List (Str×Value)}:(A.under (.builtin "type.__call__" ⟨.ref C::us,kw⟩)).depth=A.depth+1:=by
 first|rfl|simp[Around.under,Code.weight,Code.isCreation,Code.isGuard,Code.isCaller,Code.frames,Code.isFrame,guardIds]
theorem make_units{A:Around}{C:Addr}{us:`L}{kw:List (Str×Value)}:(A.under (.builtin "type.__call__" ⟨.ref C::us,kw⟩)).units=A.units+1:=by
 first|rfl|simp[Around.under,Code.cUnits,Code.frames,Code.isFrame]
theorem Room.make{k:Nat}{A:Around}(r:Room (k+1) A)(C:Addr)(us:`L)(kw:List (Str×Value)):Room k (A.under (.builtin "type.__call__" ⟨.ref C::us,kw⟩)):=
 ⟨r.hd,by have:=r.dp;rw[make_depth];lia,by have:=r.un;rw[make_units];lia⟩
theorem Room.depth{k:Nat}{A:Around}(r:Room k A):A.depth<recursionLimit:=by have:=r.dp;lia
def tNil:TA:=fun _ H Q=>Q [] H
def tCons(ta:TE)(tr:TA):TA:=fun σ H Q=>ta σ H fun x H1=>tr σ H1 fun xs H2=>Q (x::xs) H2
section
variable{X:Cx}{e:Expr}{es:List Expr}{te:TE}{t:TA}{pos:Pos}
theorem pa_nil:PA X [] tNil:=fun _ _ _ _ H Q I h=>Calls.spliced_nil ⟨[],H,I,.nil,h⟩
theorem pa_cons(ha:PE X e te)(hr:PA X es t)(hs:starEach (e::es) X.env=(false,eval e X.env)::starEach es X.env:=by rfl):PA X (e::es) (tCons te t):=by
 intro pos pins s σ H Q I h
 rw[hs]
 show wpAny _ _ (spliced ((false,eval e X.env)::backTo pos (starEach es X.env))) _ _ s
 refine Calls.spliced_cons (thn (ha pins s σ H _ I h) fun u s1⟨x,H1,I1,r1,q1⟩=>?_)
 exact thn (hr pos pins s1 σ H1 _ I1 q1) fun us s2⟨xs,H2,I2,r2,q2⟩=>⟨x::xs,H2,I2,.cons r1 r2,q2⟩
def ajy(t:TA):TE:=fun σ H Q=>t σ H fun xs H1=>xs.length<=sizeLine/\∀p,H1 p=none->Q (.ref p) (upd H1 p (.tup xs))
def tLst(t:TA):TE:=fun σ H Q=>t σ H fun xs H1=>xs.length<=sizeLine/\∀p,H1 p=none->Q (.ref p) (upd H1 p (.lst xs))
theorem aj3{x1}(h:PA X es t):PE X (.Tuple es x1 pos) (ajy t):=by
 intro pins s σ H Q I hq
 refine wpAny_Tuple_spliced (thn (h pos pins s σ H _ I hq) fun us s1⟨xs,H1,I1,r,z,q⟩=>⟨by rw[<-r.length];exact z,?_⟩)
 have hf:H1 s1.heap.objs.size=none:=I1.hok.fresh `K
 refine⟨.ref s1.heap.objs.size,upd H1 s1.heap.objs.size (.tup xs),I1.laid (t':=s1.toks) (fun b u e=>Heap.get?_push_of_some _ e) `K ?_,rfl,q _ hf⟩
 exact⟨z,us,r,⟨_,`i,rfl,_,rfl⟩⟩
theorem pe_lst(h:PA X es t):PE X (.List es pos) (tLst t):=by
 intro pins s σ H Q I hq
 refine wpAny_List_spliced (thn (h pos pins s σ H _ I hq) fun us s1⟨xs,H1,I1,r,z,q⟩=>⟨by rw[<-r.length];exact z,?_⟩)
 have hf:H1 s1.heap.objs.size=none:=I1.hok.fresh `K
 refine⟨.ref s1.heap.objs.size,upd H1 s1.heap.objs.size (.lst xs),I1.laid (t':=s1.toks) (fun b u e=>Heap.get?_push_of_some _ e) `K ?_,rfl,q _ hf⟩
 exact⟨z,us,0,r,`i⟩
end
abbrev Sp:=`E->Hp->VK->XK->Prop
abbrev CXT:=List Env->Hp->Shared->XK->`V
structure Env0(P:Program)(w:World)(K:W.Frag)(mg:`Y)(base:Heap)(A:Around)(outer:List Env)(s:Shared)(H:Hp):Prop where
 frames:A.frames=some outer
 mod:Mod K mg base
 bs:∀b o,base.get? b=some o->s.heap.get? b=some o/\H b=none
 bsz:base.objs.size<=s.heap.objs.size
 funs:s.heap.FunFrames base outer
 frf:∀b∈frs outer,H b=none
 hok:HOk P w H s.heap
 bare:AllBare s.gens
def CE(outer:List Env)(P:Program)(w:World)(H:Hp)(s:Shared)(Q:VK)(u:Value)(s':Shared):Prop:=
 ∃v H',s'.os=s.os/\AllBare s'.gens/\Un (frs outer) [] H H' s.heap s'.heap/\HOk P w H' s'.heap/\RelV v u/\Q v H'
def CR(CX:CXT)(outer:List Env)(P:Program)(w:World)(H:Hp)(s:Shared)(Q:VK)(E:XK)(r:Result)(s':Shared):Prop:=
 match r with
 | .ok (.ret u)=>CE outer P w H s Q u s'
 | .ok _=>False
 | .error e=>CX outer H s E e s'
structure FnOk(P:Program)(w:World)(K:W.Frag)(mg:`Y)(base:Heap)(CX:CXT)(k:Nat)(f:Addr)(fd:FuncData)(ps:List Str)(sp:Sp):Prop where
 len:∀vs H Q E,sp vs H Q E->vs.length=ps.length
 run:∀(A:Around)(outer:List Env)(s:Shared)(H:Hp)(args:Args)(us:`L)(vs:`E)(Q:VK)(E:XK),Room k A->Env0 P w K mg base A outer s H->BindsTo s fd args (ps.zip us)->Vals vs us->sp vs H Q E->
  codeAny (model P w) A (.call (.ref f) args) (CR CX outer P w H s Q E) s
theorem FnOk.mono{P:Program}{w:World}{K:W.Frag}{mg:`Y}{base:Heap}{CX:CXT}{j k:Nat}{f:Addr}{fd:FuncData}{ps:List Str}{sp:Sp}(F:FnOk P w K mg base CX j f fd ps sp)(h:j<=k):
  FnOk P w K mg base CX k f fd ps sp:=⟨F.len,fun A outer s H args us vs Q E hr=>F.run A outer s H args us vs Q E (hr.mono h)⟩
theorem FnOk.imp{P:Program}{w:World}{K:W.Frag}{mg:`Y}{base:Heap}{CX:CXT}{k:Nat}{f:Addr}{fd:FuncData}{ps:List Str}{sp sp':Sp}(F:FnOk P w K mg base CX k f fd ps sp)
  (h:∀vs H Q E,sp' vs H Q E->sp vs H Q E):FnOk P w K mg base CX k f fd ps sp':=
 ⟨fun vs H Q E q=>F.len vs H Q E (h _ _ _ _ q),fun A outer s H args us vs Q E hr he hb hv hs=>F.run A outer s H args us vs Q E hr he hb hv (h _ _ _ _ hs)⟩
theorem Env0.make{P:Program}{w:World}{K:W.Frag}{mg:`Y}{base:Heap}{A:Around}{outer:List Env}{s:Shared}{H:Hp}(e:Env0 P w K mg base A outer s H)(C:Addr)(us:`L)(kw:List (Str×Value)):
  Env0 P w K mg base (A.under (.builtin "type.__call__" ⟨.ref C::us,kw⟩)) outer s H:=⟨by first|exact e.frames|(simpa[Around.under,Code.envs,Code.isFrame,pushEnvs]using e.frames),e.mod,e.bs,e.bsz,e.funs,e.frf,e.hok,e.bare⟩
section
variable{X:Cx}{pins:`U}{σ:St}{H:Hp}{s s':Shared}
theorem Inv.env0(I:`J):Env0 X.prog X.w X.K X.mg X.base X.A X.stack s H:=
 ⟨I.ok.frames,I.ok.mod,I.bs,Nat.le_trans I.ok.bsz I.sz,I.stack,I.stkFree,I.hok,I.bare⟩
theorem Inv.after{Q:VK}{u:Value}(I:`J)(h:CE X.stack X.prog X.w H s Q u s'):EP X pins σ Q u s':=by
 obtain⟨v,H',os,bare,un,hok,r,q⟩:=h
 obtain⟨hh,g,d,t,os'⟩:=s'
 obtain rfl:os'=s.os:=os
 exact⟨v,H',I.call (h':=hh) (g':=g) (d':=d) (t':=t) (ch:=[]) un hok bare (fun b z=>absurd z `G),r,q⟩
end
def tCall(sp:Sp)(dvs:`E)(E:XK)(t:TA):TE:=fun σ H Q=>t σ H fun vs H1=>sp (vs++dvs) H1 Q E
def tMeth(C:Addr)(m:Str)(sp:Sp)(dvs:`E)(E:XK)(ta:TE)(t:TA):TE:=fun σ H Q=>ta σ H fun x H1=>∃a dx fs,x=`I/\H1 a=some (.ins C dx fs)/\fs.lookup m=none/\
 t σ H1 fun vs H2=>sp (x::(vs++dvs)) H2 Q E
def tMake(C:Addr)(sp:Sp)(dvs:`E)(E:XK)(t:TA):TE:=fun σ H Q=>t σ H fun vs H1=>∀x dx,H1 x=none->H1 dx=none->dx≠x->
 sp (.ref x::(vs++dvs)) (upd (upd H1 dx (.own x)) x (.ins C dx [])) (fun v H2=>v=.non/\Q (.ref x) H2) E
def Binds(K:W.Frag)(fd:FuncData)(ps:List Str)(ds:`L):Prop:=
 ∀(s:Shared)(us:`L),K.In s.heap->(us++ds).length=ps.length->BindsTo s fd ⟨us,[]⟩ (ps.zip (us++ds))
theorem Binds.all{K:W.Frag}{fd:FuncData}{ps:List Str}(h:∀us:`L,us.length=ps.length->bindArgs fd ⟨us,[]⟩=pure (ps.zip us)):Binds K fd ps []:=fun s us _ hl=>by
 rw[List.append_nil]at hl|-
 exact .of_eq (h us hl)
def Passes(CX:CXT)(X:Cx)(E:XK):Prop:=∀(pins:`U)(σ:St)(H:Hp)(s:Shared)(e:Value)(s':Shared),`J->CX X.stack H s E e s'->X.xe e s'
section
variable{X:Cx}{CX:CXT}{k:Nat}{f C:Addr}{fd:FuncData}{ps:List Str}{sp:Sp}{dvs:`E}{ds:`L}{E:XK}{x m:Str}{p pos apos:Pos}{e o:Expr}{es:List Expr}{ta:TE}{t:TA}
theorem run_fn{pins:`U}{σ:St}{H:Hp}{s:Shared}{Q:VK}{us:`L}{vs:`E}(F:FnOk X.prog X.w X.K X.mg X.base CX k f fd ps sp)(hr:Room k X.A)(hb:Binds X.K fd ps ds)(hd:Vals dvs ds)(hx:Passes CX X E)
  (I:`J)(r:Vals vs us)(h:sp (vs++dvs) H Q E):wpAny `X X.A (call (.ref f) us) (EP X pins σ Q) X.xe s:=by
 have r2:Vals (vs++dvs) (us++ds):=r.append hd
 have hl:(us++ds).length=ps.length:=by rw[<-r2.length];exact F.len _ _ _ _ h
 refine wpAny_call (codeAny_mono (F.run X.A X.stack s H ⟨us,[]⟩ (us++ds) (vs++dvs) Q E hr I.env0 (hb s us I.kIn hl) r2 h) fun r s' hq=>?_)
 cases r with
 |error e=>exact hx pins σ H s e s' I hq
 |ok fl=>
  cases fl with
  |ret u=>exact I.after hq
  |next=>exact False.elim hq
  |brk=>exact False.elim hq
  |cont=>exact False.elim hq
theorem pe_call(F:FnOk X.prog X.w X.K X.mg X.base CX k f fd ps sp)(hr:Room k X.A)(hg:Gl X x)(hm:X.mg x=some (.ref f))(hk:W.keepIn X.K (.ref f)=true)(hb:Binds X.K fd ps ds)(hd:Vals dvs ds)(hx:Passes CX X E)
  (ha:PA X (e::es) t)(hdb:`l:=by decide)(he:starEach (e::es) X.env=(false,eval e X.env)::starEach es X.env:=by rfl)(hpl:(backTo pos (starEach es X.env)).any (·.1)=false:=by rfl):
  PE X (.Call (.Name x p) (e::es) [] pos) (tCall sp dvs E t):=by
 intro pins s σ H Q I h
 refine wpAny_Call_Name_kw (ld_glob I hg hm ?_ hdb)
 refine W.callWith_K (h₀:=X.base) I.ok.mod.kin hk (thn (ha pos pins s σ H _ I h) fun us s1⟨vs,H1,I1,r,q⟩=>⟨I1.kIn,?_⟩) he hpl
 exact run_fn F hr hb hd hx I1 r q
theorem agg(F:FnOk X.prog X.w X.K X.mg X.base CX k f fd ps sp)(hr:Room k X.A)(hg:Gl X x)(hm:X.mg x=some (.ref f))(hk:W.keepIn X.K (.ref f)=true)(hb:Binds X.K fd ps ds)(hd:Vals dvs ds)(hx:Passes CX X E)
  (hdb:`l:=by decide):PE X (.Call (.Name x p) [] [] pos) (tCall sp dvs E tNil):=by
 intro pins s σ H Q I h
 refine wpAny_Call_Name_kw (ld_glob I hg hm ?_ hdb)
 exact W.callWith_K0 I.kIn hk (run_fn (us:=[]) F hr hb hd hx I .nil h)
theorem pe_meth{pl:Sem Bool}(he:PE X o ta)(c:Cls X.K C)(hm:Meth X.K C m f)(F:FnOk X.prog X.w X.K X.mg X.base CX k f fd ps sp)(hr:Room k X.A)(hb:Binds X.K fd ps ds)(hd:Vals dvs ds)(hx:Passes CX X E)(ha:PA X (e::es) t)
  (hst:starEach (e::es) X.env=(false,eval e X.env)::starEach es X.env:=by rfl)(hpl:(backTo pos (starEach es X.env)).any (·.1)=false:=by rfl)
  (ht:eval (.Call (.Attribute o m apos) (e::es) [] pos) X.env=(do
   let ov<-eval o X.env
   standAt apos.atName
   let(f,first)<-holding [ov] (getMethod ov m pl)
   callWith pos f first (backTo pos (starEach (e::es) X.env)) (backToKw pos (keywordEach [] X.env))):=by rfl):
  PE X (.Call (.Attribute o m apos) (e::es) [] pos) (tMeth C m sp dvs E ta t):=by
 intro pins s σ H Q I h
 refine W.methodCall_KW (pl:=pl) (thn (he pins s σ H _ I h) fun u s1⟨x,H1,I1,rx,a,dx,fs,ex,ea,l,q⟩=>?_) ht
 subst ex
 obtain rfl:u=Value.ref a:=rx
 refine getmeth_ok I1 ea c hm l ?_
 refine W.callWith_K (first:=[`I]) (h₀:=X.base) I.ok.mod.kin hm.kp (thn (ha pos pins s1 σ H1 _ I1 q) fun us s2⟨vs,H2,I2,r,q2⟩=>⟨I2.kIn,?_⟩) hst hpl
 exact run_fn (us:=`I::us) (vs:=`I::vs) F hr hb hd hx I2 (.cons rfl r) q2
theorem agd{pl:Sem Bool}(he:PE X o ta)(c:Cls X.K C)(hm:Meth X.K C m f)(F:FnOk X.prog X.w X.K X.mg X.base CX k f fd ps sp)(hr:Room k X.A)(hb:Binds X.K fd ps ds)(hd:Vals dvs ds)(hx:Passes CX X E)
  (ht:eval (.Call (.Attribute o m apos) [] [] pos) X.env=(do
   let ov<-eval o X.env
   standAt apos.atName
   let(f,first)<-holding [ov] (getMethod ov m pl)
   callWith pos f first (backTo pos (starEach [] X.env)) (backToKw pos (keywordEach [] X.env))):=by rfl):
  PE X (.Call (.Attribute o m apos) [] [] pos) (tMeth C m sp dvs E ta tNil):=by
 intro pins s σ H Q I h
 refine W.methodCall_KW (pl:=pl) (thn (he pins s σ H _ I h) fun u s1⟨x,H1,I1,rx,a,dx,fs,ex,ea,l,q⟩=>?_) ht
 subst ex
 obtain rfl:u=Value.ref a:=rx
 refine getmeth_ok I1 ea c hm l ?_
 exact W.callWith_K0 (first:=[`I]) I1.kIn hm.kp (run_fn (us:=[`I]) (vs:=[`I]) F hr hb hd hx I1 (.cons rfl .nil) q)
structure Mk(K:W.Frag)(C f:Addr):Prop where
 makes:W.makesIn K C=true
 init:W.findIn K (.ref C) "__init__"=some (some (.ref f))
 fn:W.isFn K (.ref f)=true
 kp:W.keepIn K (.ref C)=true
theorem run_make{pins:`U}{σ:St}{H:Hp}{s:Shared}{Q:VK}{us:`L}{vs:`E}(M:Mk X.K C f)(F:FnOk X.prog X.w X.K X.mg X.base CX k f fd ps sp)(hr:Room (k+1) X.A)(hb:Binds X.K fd ps ds)(hd:Vals dvs ds)
  (hx:Passes CX X E)(I:`J)(r:Vals vs us)
  (h:∀x dx,H x=none->H dx=none->dx≠x->sp (.ref x::(vs++dvs)) (upd (upd H dx (.own x)) x (.ins C dx [])) (fun v H2=>v=.non/\Q (.ref x) H2) E):
  wpAny `X X.A (call (.ref C) us) (EP X pins σ Q) X.xe s:=by
 have hq:=h (s.heap.objs.size+1) s.heap.objs.size (I.hok.fresh (Nat.le_succ _)) (I.hok.fresh `K) (Nat.ne_of_lt (Nat.lt_succ_self _))
 have I2:=Inv.made (C:=C) I
 have r2:Vals (V.ref (s.heap.objs.size+1)::(vs++dvs)) (Value.ref (s.heap.objs.size+1)::(us++ds)):=.cons rfl (r.append hd)
 have hl:(Value.ref (s.heap.objs.size+1)::us++ds).length=ps.length:=by
  have e:=r2.length
  rw[F.len _ _ _ _ hq]at e
  exact e.symm
 refine wpAny_call (make_map (f:=f) I.kIn M.makes M.init (beq_iff_eq.mp M.fn) (codeAny_mono (F.run _ X.stack _ _ ⟨Value.ref (s.heap.objs.size+1)::us,[]⟩ (Value.ref (s.heap.objs.size+1)::(us++ds)) _ _ E (hr.make C us [])
  (I2.env0.make C us []) (hb _ (Value.ref (s.heap.objs.size+1)::us) I2.kIn hl) r2 hq) fun r s' hq'=>?_))
 cases r with
 |error e=>exact hx pins σ _ _ e s' I2 hq'
 |ok fl=>
  cases fl with
  |ret u=>
   obtain⟨v,H',I3,rv,ev,q3⟩:=I2.after hq'
   subst ev
   exact⟨rv,⟨V.ref (s.heap.objs.size+1),H',I3,rfl,q3⟩⟩
  |next=>exact False.elim hq'
  |brk=>exact False.elim hq'
  |cont=>exact False.elim hq'
theorem aiy(M:Mk X.K C f)(F:FnOk X.prog X.w X.K X.mg X.base CX k f fd ps sp)(hr:Room (k+1) X.A)(hg:Gl X x)(hm:X.mg x=some (.ref C))(hb:Binds X.K fd ps ds)(hd:Vals dvs ds)(hx:Passes CX X E)
  (ha:PA X (e::es) t)(hdb:`l:=by decide)(he:starEach (e::es) X.env=(false,eval e X.env)::starEach es X.env:=by rfl)(hpl:(backTo pos (starEach es X.env)).any (·.1)=false:=by rfl):
  PE X (.Call (.Name x p) (e::es) [] pos) (tMake C sp dvs E t):=by
 intro pins s σ H Q I h
 refine wpAny_Call_Name_kw (ld_glob I hg hm ?_ hdb)
 refine W.callWith_K (h₀:=X.base) I.ok.mod.kin M.kp (thn (ha pos pins s σ H _ I h) fun us s1⟨vs,H1,I1,r,q⟩=>⟨I1.kIn,?_⟩) he hpl
 exact run_make M F hr hb hd hx I1 r q
theorem pe_make0(M:Mk X.K C f)(F:FnOk X.prog X.w X.K X.mg X.base CX k f fd ps sp)(hr:Room (k+1) X.A)(hg:Gl X x)(hm:X.mg x=some (.ref C))(hb:Binds X.K fd ps ds)(hd:Vals dvs ds)(hx:Passes CX X E)
  (hdb:`l:=by decide):PE X (.Call (.Name x p) [] [] pos) (tMake C sp dvs E tNil):=by
 intro pins s σ H Q I h
 refine wpAny_Call_Name_kw (ld_glob I hg hm ?_ hdb)
 exact W.callWith_K0 I.kIn M.kp (run_make (us:=[]) M F hr hb hd hx I .nil h)
end
section
variable{X:Cx}{CX:CXT}{k:Nat}{f C:Addr}{fd:FuncData}{ps ks:List Str}{sp:Sp}{E:XK}{x m:Str}{p pos apos kpos:Pos}{e o:Expr}{es:List Expr}{kws:List Keyword}{te ta:TE}{t tk:TA}{nm:Option Str}
variable{g:`L->`L->`L}{gV:`E->`E->`E}
end
structure FnScope(N P:List Str)(sc:Scope):Prop where
 kind:sc.kind=.function
 co:sc.isCoroutine=false
 gen:sc.isGenerator=false
 nd:N.Nodup
 pre:N.take P.length=P
 par:∀x∈P,sc.names.lookup x=some .local\/sc.names.lookup x=some .cell
 nofree:∀y∈sc.names,y.2≠.free
theorem bindL_out{kindOf:Str->Option NameKind}{x:Str}:∀{binds:List (Str×Value)}{m:`Y},(∀v,(x,v)∉binds)->bindL kindOf binds m x=m x
 |[],_,_=>rfl
 |(n,v)::r,m,h=>by
  unfold bindL
  rw[bindL_out fun w hw=>h w (List.mem_cons_of_mem _ hw)]
  split
  ·have:x≠n:=by rintro rfl;exact h v List.mem_cons_self
   simp[this]
  ·rfl
theorem bindC_out{kindOf:Str->Option NameKind}{x:Str}:∀{binds:List (Str×Value)}{m:`Y},(∀v,(x,v)∉binds)->bindC kindOf binds m x=m x
 |[],_,_=>rfl
 |(n,v)::r,m,h=>by
  unfold bindC
  rw[bindC_out fun w hw=>h w (List.mem_cons_of_mem _ hw)]
  split
  ·rfl
  ·have:x≠n:=by rintro rfl;exact h v List.mem_cons_self
   simp[this]
theorem bindL_get{kindOf:Str->Option NameKind}{x:Str}{v:Value}:∀{P:List Str}{vs:`L}{i:Nat}{m:`Y},P.Nodup->P[i]?=some x->vs[i]?=some v->kindOf x=some .local->
  bindL kindOf (P.zip vs) m x=some v
 |[],_,_,_,_,h,_,_=>by simp at h
 |_::_,[],_,_,_,_,h,_=>by simp at h
 |p::P,w::vs,0,m,nd,h1,h2,hk=>by
  simp at h1 h2;subst h1;subst h2
  show bindL kindOf ((p,w)::P.zip vs) m p=_
  unfold bindL
  rw[bindL_out fun v hv=>(List.nodup_cons.mp nd).1 (List.of_mem_zip hv).1,if_pos hk]
  simp
 |p::P,w::vs,i+1,m,nd,h1,h2,hk=>by
  show bindL kindOf ((p,w)::P.zip vs) m x=_
  unfold bindL
  exact bindL_get (i:=i) (List.nodup_cons.mp nd).2 (by simpa using h1) (by simpa using h2) hk
theorem bindC_get{kindOf:Str->Option NameKind}{x:Str}{v:Value}:∀{P:List Str}{vs:`L}{i:Nat}{m:`Y},P.Nodup->P[i]?=some x->vs[i]?=some v->kindOf x≠some .local->
  bindC kindOf (P.zip vs) m x=some v
 |[],_,_,_,_,h,_,_=>by simp at h
 |_::_,[],_,_,_,_,h,_=>by simp at h
 |p::P,w::vs,0,m,nd,h1,h2,hk=>by
  simp at h1 h2;subst h1;subst h2
  show bindC kindOf ((p,w)::P.zip vs) m p=_
  unfold bindC
  rw[bindC_out fun v hv=>(List.nodup_cons.mp nd).1 (List.of_mem_zip hv).1,if_neg hk]
  simp
 |p::P,w::vs,i+1,m,nd,h1,h2,hk=>by
  show bindC kindOf ((p,w)::P.zip vs) m x=_
  unfold bindC
  exact bindC_get (i:=i) (List.nodup_cons.mp nd).2 (by simpa using h1) (by simpa using h2) hk
def start(N:List Str)(vs:`E):St:=vs.map some++List.replicate (N.length-vs.length) none
def cxOf(CX:CXT)(P:Program)(w:World)(K:W.Frag)(mg:`Y)(base:Heap)(N:List Str)(qual:Str)(scope:Scope)(f:Addr)(cd:Value)(A:Around)(outer:List Env)(s:Shared)(H:Hp)(E:XK):Cx where
 prog:=P
 w:=w
 K:=K
 mg:=mg
 base:=base
 A:=A.deeper (envOfC qual scope s.heap.objs.size f cd)
 N:=N
 s₀:=s
 H₀:=H
 env:=envOfC qual scope s.heap.objs.size f cd
 outer:=outer
 stack:=envOfC qual scope s.heap.objs.size f cd::outer
 ex:=[]
 calm:=true
 fn:=fun _=>true
 pn:=[]
 xe:=fun e s'=>wpAny (model P w) (A.deeper (envOfC qual scope s.heap.objs.size f cd)) (leaving (envOfC qual scope s.heap.objs.size f cd) e) (fun _ s''=>CX outer H s E e s'') (fun e' s''=>CX outer H s E e' s'') s'
theorem cell_has{sc:Scope}{n:Nat}{x:Str}(h:sc.names.lookup x=some .cell):∃c,(cellsFrom n sc.names []).lookup x=some c:=by
 have q:=W.cellsFrom_some sc.names n [] (.inl h)
 exact Option.isSome_iff_exists.mp q
theorem inv_start{CX:CXT}{P:Program}{w:World}{K:W.Frag}{mg:`Y}{base:Heap}{N ps:List Str}{qual:Str}{scope:Scope}{f:Addr}{cd:Value}{A:Around}{outer:List Env}{s s1:Shared}{H:Hp}{E:XK}{us:`L}{vs:`E}
  (S:FnScope N ps scope)(hd:A.handled=none)(e0:Env0 P w K mg base A outer s H)(hl:vs.length=ps.length)(r:Vals vs us)
  (x:InCallC s s.heap.objs.size (bindL (envOfC qual scope s.heap.objs.size f cd).kindOf (ps.zip us) fun _=>none) (cellsFrom (s.heap.objs.size+1) scope.names []) (bindC (envOfC qual scope s.heap.objs.size f cd).kindOf (ps.zip us) fun _=>none) s1):
  Inv (cxOf CX P w K mg base N qual scope f cd A outer s H E) [] (start N vs) H s1:=by
 have hpl:ps.length<=N.length:=by have:=congrArg List.length S.pre;rw[List.length_take]at this;lia
 obtain⟨h1,tk,rfl,hk⟩:=x.done
 have noA:∀b:Addr,b∉(cxOf CX P w K mg base N qual scope f cd A outer s H E).ex:=fun b z=>absurd (show b∈([]:List Addr)from z) `G
 refine⟨⟨e0.mod,S.kind,rfl,rfl,`K,fun y z c h1 h2=>?_,fun y hy=>?_,fun y c _ h=>?_,fun _=>hd,Around.frames_deeper e0.frames,.inr ⟨rfl,rfl⟩,fun b z=>absurd z (noA b),e0.bs,e0.bsz,fun b _ _=>noA b,fun b z=>absurd z (noA b),e0.funs,e0.frf⟩,
  rfl,e0.bare,Un.kept hk,⟨_,x.toInCall.ns,fun i y v h1 h2 h3=>?_⟩,fun y c h=>⟨_,x.cell y c h⟩,e0.hok.fresh `K,fun y c h=>?_,fun p hp=>absurd (show p∈([]:`U)from hp) `G,e0.hok.kept hk,?_⟩
 ·exact name_of_addr x.apart (PySem.mem_of_lookup h1) (PySem.mem_of_lookup h2)
 ·have hy:scope.names.lookup y=some .cell\/scope.names.lookup y=some .free:=hy
  rcases hy with hy|hy
  ·exact cell_has hy
  ·exact absurd rfl (S.nofree _ (PySem.mem_of_lookup hy))
 ·exact Nat.le_of_lt (x.above y c (PySem.mem_of_lookup h))
 ·have hi:i<vs.length:=by
   unfold start at h2
   by_cases hi:i<vs.length
   ·exact hi
   ·rw[List.getElem?_append_right (by simpa using hi)]at h2
    rw[List.getElem?_replicate]at h2
    split at h2<;>cases h2
  have ha:vs[i]?=some v:=by
   unfold start at h2
   rw[List.getElem?_append_left (by simpa using hi),List.getElem?_map]at h2
   cases e:vs[i]? with
   |none=>rw[e]at h2;cases h2
   |some a=>rw[e]at h2;cases h2;rfl
  obtain⟨u,hu,rv⟩:=r.get ha
  have hp:ps[i]?=some y:=by
   rw[<-S.pre,List.getElem?_take_of_lt `A];exact h1
  have ndP:ps.Nodup:=by rw[<-S.pre];exact S.nd.sublist (List.take_sublist _ _)
  refine⟨u,rv,?_⟩
  rcases S.par y (List.mem_of_getElem? hp)with k|k
  ·exact .inl ⟨k,bindL_get ndP hp hu k⟩
  ·obtain⟨c,e⟩:=cell_has (n:=s.heap.objs.size+1) k
   refine .inr ⟨.inl k,c,e,?_⟩
   have q:=x.cell y c e
   rw[bindC_get ndP hp hu (by show scope.names.lookup y≠_;rw[k];decide)]at q
   exact q
 ·exact e0.hok.fresh (Nat.le_of_lt (x.above y c (PySem.mem_of_lookup h)))
 ·unfold start
  show _=N.length
  rw[List.length_append,List.length_map,List.length_replicate]
  lia
theorem fn_of{CX:CXT}{P:Program}{w:World}{K:W.Frag}{mg:`Y}{base:Heap}{k:Nat}{f:Addr}{name qual:Str}{params:Arguments}{body:List Stmt}{scope:Scope}{dV kV doc pm cdv ct oc:Value}{an od:Option Addr}
  {osl:`f}{N ps:List Str}{sp:Sp}(lk:K.lookup f=some ⟨oc,od,.func (W.fnOf name qual params body scope dV kV doc pm an cdv ct),osl⟩)(hcd:W.codeIn K cdv qual=true)(S:FnScope N ps scope)
  (len:∀vs H Q E,sp vs H Q E->vs.length=ps.length)
  (hbody:∀(A:Around)(outer:List Env)(s:Shared)(H:Hp)(vs:`E)(Q:VK)(E:XK),Room k (A.deeper (envOfC qual scope s.heap.objs.size f cdv))->sp vs H Q E->
   ∃t,PSs (cxOf CX P w K mg base N qual scope f cdv A outer s H E) body t/\t {nx:=fun _ H'=>Q .non H',rt:=Q} (start N vs) H):
  FnOk P w K mg base CX (k+1) f (W.fnOf name qual params body scope dV kV doc pm an cdv ct) ps sp:=by
 refine⟨len,fun A outer s H args us vs Q E hr e0 hb r hsp=>?_⟩
 have hl:=len _ _ _ _ hsp
 have KX:K.In s.heap:=e0.mod.kin.keeps fun b o e=>(e0.bs b o e).1
 have lim:s.heap.NoLimit:=e0.mod.nolimit.keeps fun b o e=>(e0.bs b o e).1
 have hkind:∀y∈ps.zip us,scope.names.lookup y.1=some .local\/(scope.names.lookup y.1=some .cell/\((cellsFrom (s.heap.objs.size+1) scope.names []).lookup y.1).isSome=true):=fun⟨n,v⟩hy=>by
  rcases S.par n (List.of_mem_zip hy).1 with q|q
  ·exact .inl q
  ·exact .inr ⟨q,W.cellsFrom_some _ _ _ (.inl q)⟩
 refine codeAny_call_function hr.depth (KX _ _ lk) rfl S.co S.gen rfl (W.codeRec_of KX hcd) (hb _ _ _ _ ?_)
 refine wpAny_newFunctionEnv_cells S.kind hkind fun env he s1 x=>?_
 subst he
 refine⟨lim.keeps x.toInCall.keep,codeAny_func ?_⟩
 obtain⟨t,ht,hq⟩:=hbody A outer s H vs Q E (hr.deeper _) hsp
 have I:Inv (cxOf CX P w K mg base N qual scope f cdv A outer s H E) [] (start N vs) H s1:=inv_start S hr.hd e0 hl r x
 refine wpAny_mono (ht [] s1 (start N vs) H _ I hq) (fun fl s' hs=>?_) fun e s' hs=>hs
 have fin:∀{σ':St}{H':Hp}{v:V}{u:Value},Inv (cxOf CX P w K mg base N qual scope f cdv A outer s H E) [] σ' H' s'->RelV v u->Q v H'->CE outer P w H s Q u s':=
  fun{σ' H' v u}J rv q=>⟨v,H',J.os,J.bare,J.base,J.hok,rv,q⟩
 cases fl with
 |ret u=>
  obtain⟨v,σ',H',J,rv,q⟩:=hs
  exact fin J rv q
 |next=>
  obtain⟨σ',H',J,q⟩:=hs
  exact fin (v:=V.non) (u:=Value.none) J rfl q
 |brk=>
  obtain⟨_,_,_,q⟩:=hs
  exact False.elim q
 |cont=>
  obtain⟨_,_,_,q⟩:=hs
  exact False.elim q
section
variable{X:Cx}{x:Str}{p pos:Pos}{e:Expr}{es:List Expr}{t:TA}{id T:String}{r:`E->Hp->VK->Prop}
def tCB(r:`E->Hp->VK->Prop)(t:TA):TE:=fun σ H Q=>t σ H fun vs H1=>r vs H1 Q
theorem pe_callB(hc:CallR X (.builtin id) r)(hg:Gl X x)(hm:X.mg x=none)(hv:bootBuiltins x=some (.builtin id))(ha:PA X (e::es) t)(hn:x≠"__name__":=by decide)(hdb:`l:=by decide)
  (he:starEach (e::es) X.env=(false,eval e X.env)::starEach es X.env:=by rfl)(hpl:(backTo pos (starEach es X.env)).any (·.1)=false:=by rfl):PE X (.Call (.Name x p) (e::es) [] pos) (tCB r t):=by
 intro pins s σ H Q I h
 refine wpAny_Call_Name_kw (ld_blt I hg hm hv ?_ hn hdb)
 exact PyProof.Rows.callWith_builtin1 (thn (ha pos pins s σ H _ I h) fun us s1⟨vs,H1,I1,r1,q1⟩=>hc pins s1 σ H1 vs us Q I1 r1 q1) he hpl
theorem Ul(hc:CallR X (.type T) r)(hg:Gl X x)(hm:X.mg x=none)(hv:bootBuiltins x=some (.type T))(ha:PA X (e::es) t)(hn:x≠"__name__":=by decide)(hdb:`l:=by decide)
  (he:starEach (e::es) X.env=(false,eval e X.env)::starEach es X.env:=by rfl)(hpl:(backTo pos (starEach es X.env)).any (·.1)=false:=by rfl):PE X (.Call (.Name x p) (e::es) [] pos) (tCB r t):=by
 intro pins s σ H Q I h
 refine wpAny_Call_Name_kw (ld_blt I hg hm hv ?_ hn hdb)
 exact PyProof.Rows.callWith_type1 (thn (ha pos pins s σ H _ I h) fun us s1⟨vs,H1,I1,r1,q1⟩=>hc pins s1 σ H1 vs us Q I1 r1 q1) he hpl
end
end L2
namespace HT
open PySem PyProof.Rows
section
open PySem.SeqAt
open PySem.AutoSeq1(wpAny_loadPart')
open PySem.MeetsSeq PySem.MeetsSeq2 PySem.MeetsSeq3
end
section
variable{prog:Program}{w:World}{A:Around}{E:`V}{s:Shared}
theorem aja{t b:Addr}{vs ws:`L}{Q:`V}(ht:IsTup s.heap t vs.toArray)(hb:IsTup s.heap b ws.toArray)(hv:vs≠[])
  (h1:ws=[]->Q (.ref t) s)(h2:ws≠[]->Q `g {s with heap:=s.heap.push {cls:=`a,data:=.seq (vs++ws).toArray}})
  (hsz:vs.length+ws.length<=sizeLine):wpAny `b A (binaryOp .Add (.ref t) (.ref b)) Q E s:=by
 obtain⟨⟨cls,dd,data,sl⟩,ho,hc,n,hd⟩:=id ht
 obtain⟨⟨cls2,dd2,data2,sl2⟩,ho2,hc2,n2,hd2⟩:=id hb
 simp only at hc hd hc2 hd2
 subst hc hd hc2 hd2
 have e:vs.toArray++ws.toArray=(vs++ws).toArray:=`G
 by_cases hw:ws=[]
 ·exact concat_meets ⟨_,ho,rfl⟩ ⟨_,ho2,rfl⟩ noFill_tuple_add seq_tuple_add PySem.F.slot_tuple_add PySem.F.entry_tuple_add (PySem.F.args_tuple_add_2 _ _)
   (tuple_addW1 t b vs.toArray ws.toArray n n2 dd dd2 sl sl2 (by simpa using hv) (by simp[hw])) ⟨ho,ho2,h1 hw⟩
 ·refine concat_meets ⟨_,ho,rfl⟩ ⟨_,ho2,rfl⟩ noFill_tuple_add seq_tuple_add PySem.F.slot_tuple_add PySem.F.entry_tuple_add (PySem.F.args_tuple_add_2 _ _)
   (tuple_addW2 t b vs.toArray ws.toArray n n2 dd dd2 sl sl2 (by simpa using hv) (by simpa using hw) (by rw[List.size_toArray,List.size_toArray];exact hsz)) ⟨ho,ho2,?_⟩
  rw[e]
  exact h2 hw
def sIx(n d:Nat):Option Int->Nat
 |none=>d
 |some v=>if v<0 then(v+(n:Int)).toNat else min v.toNat n
theorem Ws(n d:Nat):sIx n d none=d:=rfl
theorem tY(n d k:Nat):sIx n d (some (k:Int))=min k n:=by
 show(if(k:Int)<0 then((k:Int)+(n:Int)).toNat else min (k:Int).toNat n)=min k n
 rw[if_neg `A,Int.toNat_natCast]
theorem Wt(n d:Nat)(hd:d<=n)(o:Option Int):sIx n d o<=n:=by
 cases o with
 |none=>exact hd
 |some v=>
  show(if v<0 then(v+(n:Int)).toNat else min v.toNat n)<=n
  by_cases hv:v<0
  ·rw[if_pos hv];lia
  ·rw[if_neg hv];exact Nat.min_le_right _ _
theorem abr(v:Int)(n d:Nat):(if v<0 then max (v+(n:Int)) 0 else min v (n:Int))=((sIx n d (some v):Nat):Int):=by
 show(if v<0 then max (v+(n:Int)) 0 else min v (n:Int))=(((if v<0 then(v+(n:Int)).toNat else min v.toNat n):Nat):Int)
 by_cases hv:v<0
 ·simp only[if_pos hv];lia
 ·simp only[if_neg hv];lia
theorem ac7(lo hi:Option Int)(n:Nat):Builtin.Slice.sliceAdjust lo hi 1 (n:Int)=(((sIx n 0 lo:Nat):Int),((sIx n n hi:Nat):Int)):=by
 have h1:¬((1:Int)<0):=`A
 unfold Builtin.Slice.sliceAdjust
 simp only[h1,if_false]
 refine Prod.ext ?_ ?_
 ·cases lo with
  |none=>rfl
  |some v=>exact abr v n 0
 ·cases hi with
  |none=>rfl
  |some v=>exact abr v n n
theorem ab4(i j:Nat):Builtin.Slice.slicePlaces (i:Int) (j:Int) 1=j-i:=by
 unfold Builtin.Slice.slicePlaces
 have h1:(1:Int)>0:=`A
 simp only[h1,if_true,Int.ediv_one]
 split<;>lia
theorem Ol{v:Value}{o:Option Int}{Q:Option Int->Shared->Prop}(p:IsPart v o)(h:Q o s):wpAny `b A (Builtin.Slice.slicePartIndex v) Q E s:=by
 cases p with
 |none=>exact slicePart_none h
 |int i t=>exact slicePart_int h
theorem xP{sl:Addr}{vl vu:Value}{lo hi:Option Int}{n:Nat}{Q:Int×Int×Nat->Shared->Prop}(hs:s.heap.IsSliceOf sl vl vu .none)(pl:IsPart vl lo)(pu:IsPart vu hi)
  (h:Q (((sIx n 0 lo:Nat):Int),1,sIx n n hi-sIx n 0 lo) s):wpAny `b A (Builtin.Slice.sliceApplied (.ref sl) (pure (n:Int))) Q E s:=by
 obtain⟨os,hos,hcs,hds⟩:=id hs
 unfold Builtin.Slice.sliceApplied Builtin.Slice.sliceFields
 refine wpAny_bind (wpAny_bind (wpAny_field hos hds (x:=vl) rfl (wpAny_bind (wpAny_field hos hds (x:=vu) rfl (wpAny_bind (wpAny_field hos hds (x:=.none) rfl (wpAny_pure ?_)))))))
 refine wpAny_bind (slicePart_none ?_)
 show wpAny _ _ (if((1:Int)==0)=true then _ else _) _ _ s
 rw[if_neg `B]
 refine wpAny_bind (Ol pl (wpAny_bind (Ol pu (wpAny_bind (wpAny_pure ?_)))))
 show wpAny _ _ (match Builtin.Slice.sliceAdjust lo hi 1 (n:Int)with|(lo,hi)=>pure (lo,(1:Int),Builtin.Slice.slicePlaces lo hi 1)) _ _ s
 rw[ac7 lo hi n]
 show wpAny _ _ (pure (((sIx n 0 lo:Nat):Int),(1:Int),Builtin.Slice.slicePlaces ((sIx n 0 lo:Nat):Int) ((sIx n n hi:Nat):Int) 1)) _ _ s
 rw[ab4]
 exact wpAny_pure h
theorem agb(xs:Array Value)(i k:Nat):((List.range k).filterMap fun(m:Nat)=>xs[((i:Int)+(m:Int)*1).toNat]?).toArray=((xs.toList.drop i).take k).toArray:=by
 have e:(fun(m:Nat)=>xs[((i:Int)+(m:Int)*1).toNat]?)=fun m=>xs[i+m]?:=by
  funext m
  have:((i:Int)+(m:Int)*1).toNat=i+m:=`A
  rw[this]
 rw[e]
 have:=pick_run xs i k
 rw[List.filterMap_map]at this
 have e2:((fun x=>xs[x]?)∘fun x=>i+x)=fun m=>xs[i+m]?:=rfl
 rw[e2]at this
 rw[this]
theorem J6{t sl:Addr}{items:Array Value}{vl vu:Value}{lo hi:Option Int}{Q:`V}(ht:IsTup s.heap t items)(hs:s.heap.IsSliceOf sl vl vu .none)(pl:IsPart vl lo)(pu:IsPart vu hi)
  (hw:¬(sIx items.size 0 lo=0/\sIx items.size items.size hi=items.size))
  (h:Q `g {s with heap:=s.heap.push {cls:=`a,data:=.seq ((items.toList.drop (sIx items.size 0 lo)).take (sIx items.size items.size hi-sIx items.size 0 lo)).toArray}})
  (hsz:items.size<=sizeLine):wpAny `b A (getItem (.ref t) (.ref sl)) Q E s:=by
 have Vq:sizeOk (.seq ((items.toList.drop (sIx items.size 0 lo)).take (sIx items.size items.size hi-sIx items.size 0 lo)).toArray):=by
  show((items.toList.drop (sIx items.size 0 lo)).take (sIx items.size items.size hi-sIx items.size 0 lo)).toArray.size<=sizeLine
  rw[List.size_toArray,List.length_take,List.length_drop,Array.length_toList]
  lia
 have hj:sIx items.size items.size hi<=items.size:=Wt _ _ `K hi
 obtain⟨os,hos,hcs,hds⟩:=id hs
 have hTs:s.TypeIs (.ref sl) "slice":=⟨os,hos,hcs⟩
 unfold getItem
 try with_reducible refine wpAny_holding ?_
 first|refine wpAny_bind (wpAny_pure ?_)|skip
 refine wpAny_bind (wpAny_sequenceKey ht.typeIs `B ?_)
 refine wpAny_bind (wpAny_callSpecial?_slot (name:=Str.ofString "__getitem__") ht.typeIs PyProof.Rows.slot_tuple_getitem
  (wpAny_call_entry PyProof.Rows.slot_tuple_getitem ht.typeIs entry_tuple_getitem ?_ (args_tuple_getitem _ _)))
 show wpAny _ _ (Builtin.Tuple.tupleItemsOf (.ref t)>>=_) _ _ s
 refine wpAny_bind (tupleItemsOf_ ht ?_)
 refine wpAny_bind (wpAny_typeOf hTs ?_)
 rw[if_pos `B]
 refine wpAny_bind (xP hs pl pu ?_)
 have hno:¬((((sIx items.size 0 lo:Nat):Int)==0&&(1:Int)==1&&(sIx items.size items.size hi-sIx items.size 0 lo)==items.size)=true):=by
  intro q
  rw[Bool.and_eq_true,Bool.and_eq_true]at q
  have q1:((sIx items.size 0 lo:Nat):Int)=0:=eq_of_beq q.1.1
  have q2:sIx items.size items.size hi-sIx items.size 0 lo=items.size:=eq_of_beq q.2
  exact hw ⟨`A,`A⟩
 show wpAny _ _ (if(((sIx items.size 0 lo:Nat):Int)==0&&(1:Int)==1&&(sIx items.size items.size hi-sIx items.size 0 lo)==items.size)=true then _ else _) _ _ s
 rw[if_neg hno,agb]
 first
  |exact wpAny_bind (m:=Builtin.Tuple.tupleExact _) (wpAny_newObj_type (wpAny_pure ⟨_,rfl,wpAny_pure h⟩) Vq)
  |exact wpAny_bind (m:=Builtin.Tuple.tupleExact _) (wpAny_newObj_type (wpAny_bind (wpAny_pure (wpAny_pure ⟨_,rfl,wpAny_pure h⟩))) Vq)
  |exact wpAny_bind (wpAny_bind (m:=Builtin.Tuple.tupleExact _) (wpAny_newObj_type (wpAny_pure (wpAny_pure ⟨_,rfl,wpAny_pure h⟩)) Vq))
  |exact wpAny_bind (wpAny_bind (m:=Builtin.Tuple.tupleExact _) (wpAny_newObj_type (wpAny_pure ⟨_,rfl,wpAny_pure h⟩) Vq))
end
end HT
namespace L2
open PySem PySem.Spec PyProof.Rows
abbrev TO:=St->Hp->(Option Int->`M)->Prop
def PO(X:Cx)(e:Option Expr)(t:TO):Prop:=
 ∀(pins:`U)(s:Shared)(σ:St)(H:Hp)(Q:Option Int->`M),`J->t σ H Q->
  wpAny `X X.A (evalPart e X.env) (fun u s'=>∃o H',Inv X pins σ H' s'/\IsPart u o/\Q o H') X.xe s
def QJ:TO:=fun _ H Q=>Q none H
def ahs(t:TE):TO:=fun σ H Q=>t σ H fun x H1=>∃i,x=.int i/\Q (some i) H1
theorem intsAre_of{ns:List Int}:∀{us:`L},Vals (ns.map V.int) us->IntsAre us ns:=by
 induction ns with
 |nil=>intro us r;rw[List.map_nil]at r;cases r;exact .nil
 |cons n ns ih=>
  intro us r
  rw[List.map_cons]at r
  cases r with
  |cons r1 r2=>
   obtain⟨t,e⟩:=r1
   subst e
   exact .cons n t (ih r2)
section
variable{X:Cx}{e:Expr}{te:TE}{lo hi:Option Expr}{tl th:TO}{pos p2:Pos}
theorem air:PO X none QJ:=by
 intro pins s σ H Q I h
 rw[evalPart_none]
 exact wpAny_pure ⟨none,H,I,.none,h⟩
theorem aiq(h:PE X e te):PO X (some e) (ahs te):=by
 intro pins s σ H Q I hw
 rw[evalPart_some]
 refine thn (h pins s σ H _ I hw) fun u s1⟨x,H1,I1,r1,q1⟩=>?_
 obtain⟨i,rfl,q⟩:=q1
 obtain⟨t,rfl⟩:=r1
 exact⟨some i,H1,I1,.int i t,q⟩
def SlR(X:Cx)(r:V->Option Int->Option Int->Hp->VK->Prop):Prop:=
 ∀(pins:`U)(s:Shared)(σ:St)(H:Hp)(x:V)(v vl vu:Value)(lo hi:Option Int)(sl:Addr)(Q:VK),`J->RelV x v->s.heap.IsSliceOf sl vl vu .none->IsPart vl lo->IsPart vu hi->r x lo hi H Q->
  ∃T id,typeLookup (.type T) "__getitem__"=pure (some (.builtin id))/\s.TypeIs v T/\wpAny `X X.A (getItem v (.ref sl)) (EP X pins σ Q) X.xe s
def tSl(r:V->Option Int->Option Int->Hp->VK->Prop)(te:TE)(tl th:TO):TE:=fun σ H Q=>te σ H fun x H1=>tl σ H1 fun l H2=>th σ H2 fun u H3=>r x l u H3 Q
theorem agc{r:V->Option Int->Option Int->Hp->VK->Prop}(hr:SlR X r)(he:PE X e te)(hl:PO X lo tl)(hu:PO X hi th):PE X (.Subscript e (.Slice lo hi none p2) pos) (tSl r te tl th):=by
 intro pins s σ H Q I h
 refine Subscript_ (thn (he pins s σ H _ I h) fun v s1⟨x,H1,I1,r1,q1⟩=>?_)
 refine wpAny_Slice (thn (hl pins s1 σ H1 _ I1 q1) fun vl s2⟨l,H2,I2,pl,q2⟩=>thn (hu pins s2 σ H2 _ I2 q2) fun vu s3⟨u,H3,I3,pu,q3⟩=>?_)
 rw[evalPart_none]
 refine wpAny_pure ?_
 have I4:Inv X pins σ H3 {s3 with heap:=s3.heap.push {cls:=.type "slice",data:=.fields #[vl,vu,.none]}}:=I3.kept (t':=s3.toks) fun b ob q=>Heap.get?_push_of_some _ q
 obtain⟨T,id,hT,ht,hg⟩:=hr pins {s3 with heap:=s3.heap.push {cls:=.type "slice",data:=.fields #[vl,vu,.none]}} σ H3 x v vl vu l u s3.heap.objs.size Q I4 r1 (Heap.IsSliceOf.new ..) pl pu q3
 show wpAny `X X.A (subscriptTail e (.Slice lo hi none p2) v (.ref s3.heap.objs.size)) (EP X pins σ Q) X.xe {s3 with heap:=s3.heap.push {cls:=.type "slice",data:=.fields #[vl,vu,.none]}}
 exact tail_any (ops:=[.ref s3.heap.objs.size,v]) ht hT hg (by with_unfolding_all rfl)
def jT(xs:`E)(lo hi:Option Int):`E:=(xs.drop (HT.sIx xs.length 0 lo)).take (HT.sIx xs.length xs.length hi-HT.sIx xs.length 0 lo)
theorem Kp(xs:`E)(lo hi:Option Int):(jT xs lo hi).length<=xs.length:=by
 unfold jT
 rw[List.length_take,List.length_drop]
 lia
def am9(K:W.Frag):V->Option Int->Option Int->Hp->VK->Prop:=fun x lo hi H Q=>∃a xs,x=`I/\SqT K H a xs/\
 ¬(HT.sIx xs.length 0 lo=0/\HT.sIx xs.length xs.length hi=xs.length)/\∀p,H p=none->Q (.ref p) (upd H p (.tup (jT xs lo hi)))
theorem ajH:SlR X (am9 X.K):=by
 intro pins s σ H x v vl vu lo hi sl Q I rx hs pl pu h
 obtain⟨a,xs,rfl,hx,hw,q⟩:=h
 cases rx
 obtain⟨its,r,ht,hz⟩:=I.tuple hx
 have hlen:its.toArray.size=xs.length:=by rw[List.size_toArray];exact r.length.symm
 refine⟨"tuple",_,PyProof.Rows.slot_tuple_getitem.lookup,ht.typeIs,?_⟩
 refine HT.J6 ht hs pl pu (by rw[hlen];exact hw) ?_ (by rw[hlen];exact hz)
 rw[hlen]
 refine⟨`g,_,I.laid (t':=s.toks) (o:=.tup (jT xs lo hi)) (fun b ob q=>Heap.get?_push_of_some _ q) `K ?_,rfl,q _ (I.hok.fresh `K)⟩
 exact⟨Nat.le_trans (Kp xs lo hi) hz,_,(r.drop (HT.sIx xs.length 0 lo)).take (HT.sIx xs.length xs.length hi-HT.sIx xs.length 0 lo),IsTup.new _ _⟩
def al0(K:W.Frag):R2:=fun x y H Q=>∃a b xs ys,x=`I/\y=.ref b/\SqT K H a xs/\SqT K H b ys/\xs≠[]/\xs.length+ys.length<=sizeLine/\
 (ys=[]->Q `I H)/\(ys≠[]->∀p,H p=none->Q (.ref p) (upd H p (.tup (xs++ys))))
theorem Vals.Ca{xs:`E}{us:`L}(r:Vals xs us):us=[]↔xs=[]:=by
 cases r with
 |nil=>simp
 |cons _ _=>simp
theorem aiD:OpR X (binaryOp .Add) (al0 X.K):=by
 intro pins s σ H x y v u Q I rx ry h
 obtain⟨a,b,xs,ys,rfl,rfl,ha,hb,hx,hz,q1,q2⟩:=h
 cases rx
 cases ry
 obtain⟨its,r1,p1,_⟩:=I.tuple ha
 obtain⟨its2,r2,p2,_⟩:=I.tuple hb
 refine HT.aja p1 p2 (fun z=>hx (r1.Ca.mp z)) (fun z=>⟨`I,H,I,rfl,q1 (r2.Ca.mp z)⟩) (fun z=>?_) (by rw[<-r1.length,<-r2.length];exact hz)
 refine⟨`g,_,I.laid (t':=s.toks) (o:=.tup (xs++ys)) (fun b ob q=>Heap.get?_push_of_some _ q) `K ?_,rfl,q2 (fun w=>z (r2.Ca.mpr w)) _ (I.hok.fresh `K)⟩
 exact⟨by rw[List.length_append];exact hz,_,r1.append r2,IsTup.new _ _⟩
end
def ixN(n:Nat)(i:Int):Option Nat:=if 0<=i then(if i<n then some i.toNat else none)else if-(n:Int)<=i then some (i+n).toNat else none
def atI{α:Type}(xs:List α)(i:Int):Option α:=(ixN xs.length i).bind fun j=>xs[j]?
theorem ixN_seq{n:Nat}{i:Int}{j:Nat}(h:ixN n i=some j):seqIndex? i n=some j/\j<n/\-(n:Int)<=i/\i<n:=by
 unfold ixN at h
 by_cases h0:0<=i
 ·rw[if_pos h0]at h
  by_cases h1:i<n
  ·rw[if_pos h1]at h
   have e:i.toNat=j:=Option.some.inj h
   exact⟨by rw[seqIndex_of h0 h1,e],`A,`A,h1⟩
  ·rw[if_neg h1]at h;cases h
 ·rw[if_neg h0]at h
  by_cases h1:-(n:Int)<=i
  ·rw[if_pos h1]at h
   have e:(i+n).toNat=j:=Option.some.inj h
   exact⟨by rw[seqIndex_neg `A h1,e],`A,h1,`A⟩
  ·rw[if_neg h1]at h;cases h
theorem atI_get{α:Type}{xs:List α}{i:Int}{v:α}(h:atI xs i=some v):∃j,seqIndex? i xs.length=some j/\xs[j]?=some v/\j<xs.length/\-(xs.length:Int)<=i/\i<xs.length:=by
 unfold atI at h
 cases e:ixN xs.length i with
 |none=>rw[e]at h;cases h
 |some j=>
  rw[e]at h
  obtain⟨h1,h2,h3,h4⟩:=ixN_seq e
  exact⟨j,h1,h,h2,h3,h4⟩
theorem atI_nat{α:Type}{xs:List α}{j:Nat}{v:α}(h:xs[j]?=some v):atI xs (j:Int)=some v:=by
 have hj:j<xs.length:=(List.getElem?_eq_some_iff.mp h).1
 have e:ixN xs.length (j:Int)=some j:=by
  unfold ixN
  rw[if_pos `A,if_pos `A];simp
 unfold atI;rw[e];exact h
def PlainIx(b:Expr):Prop:=∀o i,subscripted b false o i=operate [o,i] (getItem o i)
def IxR(X:Cx)(r:R2):Prop:=
 ∀(value slice:Expr)(pins:`U)(s:Shared)(σ:St)(H:Hp)(x y:V)(v u:Value)(Q:VK),`J->RelV x v->RelV y u->r x y H Q->
  subscripted slice false v u=operate [v,u] (getItem v u)->wpAny `X X.A (subscriptTail value slice v u) (EP X pins σ Q) X.xe s
def MtR(X:Cx)(id:String)(r:V->`E->Hp->VK->Prop):Prop:=
 ∀(pins:`U)(s:Shared)(σ:St)(H:Hp)(x:V)(xs:`E)(v:Value)(us:`L)(Q:VK),`J->RelV x v->Vals xs us->r x xs H Q->
  wpAny `X X.A (call (.builtin id) (v::us)) (EP X pins σ Q) X.xe s
section
variable{X:Cx}{a b:Expr}{ta tb:TE}{pos:Pos}
theorem pe_ix{r:R2}(hr:IxR X r)(ha:PE X a ta)(hb:PE X b tb)(hs:PlainIx b):PE X (.Subscript a b pos) (tOp r ta tb):=by
 intro pins s σ H Q I h
 exact Subscript_ (binT ha hb I h fun v u s2 x y H2 I2 rx ry q=>hr a b pins s2 σ H2 x y v u Q I2 rx ry q (hs _ _))
def rIxL(K:W.Frag):R2:=fun x y H Q=>∃p xs i v,x=.ref p/\y=.int i/\SqL K H p xs/\atI xs i=some v/\Q v H
def af3(K:W.Frag):R2:=fun x y H Q=>∃p xs i v,x=.ref p/\y=.int i/\SqT K H p xs/\atI xs i=some v/\Q v H
theorem ix_list:IxR X (rIxL X.K):=by
 intro value slice pins s σ H x y v u Q I rx ry h hs
 obtain⟨p,xs,i,z,rfl,rfl,hq,he,q⟩:=h
 cases rx
 obtain⟨t,rfl⟩:=ry
 obtain⟨its,r,pl,hz⟩:=I.list hq
 obtain⟨j,h1,h2,h3,h4,h5⟩:=atI_get he
 obtain⟨w,ew,rw'⟩:=r.get h2
 have hl:=r.length
 have hn:=line63
 have fin:EP X pins σ Q w s:=⟨z,H,I,rw',q⟩
 by_cases h0:0<=i
 ·have hj:i.toNat=j:=by
   rw[seqIndex_of h0 h5]at h1
   exact Option.some.inj h1
  exact item_listR pl.isList h0 `A (by rw[hj];simpa using ew) fin hs
 ·have hj:(i+(its.toArray.size:Int)).toNat=j:=by
   rw[seqIndex_neg `A h4]at h1
   rw[List.size_toArray,<-hl]
   exact Option.some.inj h1
  exact subscriptTail_builtinR (x:=w) pl.isList.typeIs slot_list_getitem.lookup
   (wpAny_getItem_list_neg (Q:=fun r s'=>r=w/\EP X pins σ Q r s') pl.isList `A (by rw[List.size_toArray]<;>lia) `A (by rw[hj];simpa using ew) ⟨rfl,fin⟩) hs
theorem gY:IxR X (af3 X.K):=by
 intro value slice pins s σ H x y v u Q I rx ry h hs
 obtain⟨p,xs,i,z,rfl,rfl,hq,he,q⟩:=h
 cases rx
 obtain⟨t,rfl⟩:=ry
 obtain⟨its,r,pl,hz⟩:=I.tuple hq
 obtain⟨j,h1,h2,h3,h4,h5⟩:=atI_get he
 obtain⟨w,ew,rw'⟩:=r.get h2
 have hl:=r.length
 have hn:=line63
 have fin:EP X pins σ Q w s:=⟨z,H,I,rw',q⟩
 exact subscriptTail_builtinR (x:=w) pl.typeIs slot_tuple_getitem.lookup
  (getItem_tuple (j:=j) (Q:=fun r s'=>r=w/\EP X pins σ Q r s') pl `A `A (by rw[List.size_toArray,<-hl];exact h1) (by simpa using ew) ⟨rfl,fin⟩) hs
theorem acv(its:`L)(n j:Nat)(u:Value):Obj.mapSeq (·.setIfInBounds j u) {cls:=.type "list",data:=.seq its.toArray n}={cls:=.type "list",data:=.seq (its.set j u).toArray n}:=by
 simp[Obj.mapSeq]
theorem Inv.lst{pins:`U}{σ:St}{H:Hp}{s:Shared}{p:Addr}{xs:`E}(I:`J)(h:H p=some (.lst xs)):
  ∃(its:`L)(n:Nat),Vals xs its/\s.heap.get? p=some {cls:=.type "list",data:=.seq its.toArray n}/\xs.length<=sizeLine:=by
 obtain⟨z,its,n,r,e⟩:=I.hok p _ h
 exact⟨its,n,r,e,z⟩
theorem Inv.aks{pins:`U}{σ:St}{H:Hp}{s:Shared}{p:Addr}{xs ys:`E}{its its':`L}{n n':Nat}{f:Obj->Obj}(I:`J)(h:H p=some (.lst xs))
  (ho:s.heap.get? p=some {cls:=.type "list",data:=.seq its.toArray n})(hf:f {cls:=.type "list",data:=.seq its.toArray n}={cls:=.type "list",data:=.seq its'.toArray n'})(r:Vals ys its')(hz:ys.length<=sizeLine)(t:Nat):
  Inv X pins σ (upd H p (.lst ys)) {s with heap:=s.heap.update p f,toks:=t}:=by
 have e:(s.heap.update p f).get? p=some {cls:=.type "list",data:=.seq its'.toArray n'}:=by
  rw[Heap.get?_update_self f ho (by rw[hf]<;>rfl),hf]
 refine I.write (x:=p) (e:=p) (by rw[h];trivial) (.inl rfl) (fun b u hb q=>(Heap.get?_update_other _ _ (Ne.symm hb)).trans q) ⟨_,e⟩ ?_
 exact⟨hz,its',n',r,e⟩
def alX:V->V->V->Hp->`M->Prop:=fun o i v H Q=>∃p xs k j,o=.ref p/\i=.int k/\H p=some (.lst xs)/\ixN xs.length k=some j/\Q (upd H p (.lst (xs.set j v)))
theorem set_list:Y_ X alX:=by
 intro pins s σ H o i v ov iv u Q I ro ri rv h
 obtain⟨p,xs,k,j,rfl,rfl,hp,hj,q⟩:=h
 cases ro
 obtain⟨t,rfl⟩:=ri
 obtain⟨its,n,r,ho,hz⟩:=I.lst hp
 obtain⟨h1,h2,h3,h4⟩:=ixN_seq hj
 have hl:=r.length
 have hn:=line63
 have I':Inv X pins σ (upd H p (.lst (xs.set j v))) {s with heap:=s.heap.update p (Obj.mapSeq (·.setIfInBounds j u))}:=
  I.aks hp ho (acv its n j u) (r.set rv j) (by rw[List.length_set];exact hz) s.toks
 by_cases h0:0<=k
 ·have hk:k.toNat=j:=by
   rw[seqIndex_of h0 h4]at h1
   exact Option.some.inj h1
  exact W.ki_setAt ho h0 `A (by rw[List.size_toArray,<-hl];exact h4) (by rw[hk];exact⟨_,I',q⟩)
 ·have hk:(k+(its.toArray.size:Int)).toNat=j:=by
   rw[seqIndex_neg `A h3]at h1
   rw[List.size_toArray,<-hl]
   exact Option.some.inj h1
  exact W.ki_setBack ho `A (by rw[List.size_toArray,<-hl];exact h3) `A (by rw[hk];exact⟨_,I',q⟩)
theorem Gu(lo hi:Option Int)(n:Nat):(sliceBounds lo hi none n).1=((HT.sIx n 0 lo:Nat):Int)/\(sliceBounds lo hi none n).2.1=((HT.sIx n n hi:Nat):Int)/\(sliceBounds lo hi none n).2.2=1:=by
 refine⟨?_,?_,rfl⟩
 ·cases lo with
  |none=>simp[sliceBounds,HT.sIx]
  |some i=>
   simp only[sliceBounds,HT.sIx,Option.getD_none,show(1:Int)>0 by decide,if_true]
   by_cases h:i<0
   ·simp only[h,if_true]<;>lia
   ·simp only[h,if_false]<;>lia
 ·cases hi with
  |none=>simp[sliceBounds,HT.sIx]
  |some i=>
   simp only[sliceBounds,HT.sIx,Option.getD_none,show(1:Int)>0 by decide,if_true]
   by_cases h:i<0
   ·simp only[h,if_true]<;>lia
   ·simp only[h,if_false]<;>lia
theorem U4(its:`L)(lo hi:Option Int):slicePick its.toArray lo hi none=((its.drop (HT.sIx its.length 0 lo)).take (HT.sIx its.length its.length hi-HT.sIx its.length 0 lo)).toArray:=by
 obtain⟨h1,h2,h3⟩:=Gu lo hi its.toArray.size
 unfold slicePick
 rw[h1,h2,h3]
 simp only[sliceRange_one,pick_run,List.size_toArray]<;>rfl
def ana(K:W.Frag):V->Option Int->Option Int->Hp->VK->Prop:=fun x lo hi H Q=>∃a xs,x=`I/\SqL K H a xs/\∀p,H p=none->Q (.ref p) (upd H p (.lst (jT xs lo hi)))
theorem aa3:SlR X (ana X.K):=by
 intro pins s σ H x v vl vu lo hi sl Q I rx hs pl pu h
 obtain⟨a,xs,rfl,hx,q⟩:=h
 cases rx
 obtain⟨its,r,ht,hz⟩:=I.list hx
 have hlen:=r.length
 refine⟨"list",_,slot_list_getitem.lookup,ht.isList.typeIs,?_⟩
 refine wpAny_getItem_list_slice ht.isList hs pl pu .none `G ?_ (by rw[List.size_toArray]<;>lia)
 rw[U4,<-hlen]
 refine⟨`g,_,I.laid (t':=s.toks) (o:=.lst (jT xs lo hi)) (fun b ob q=>Heap.get?_push_of_some _ q) `K ?_,rfl,q _ (I.hok.fresh `K)⟩
 exact⟨Nat.le_trans (Kp xs lo hi) hz,_,0,(r.drop (HT.sIx xs.length 0 lo)).take (HT.sIx xs.length xs.length hi-HT.sIx xs.length 0 lo),`i⟩
def uQ:V->Bool
 | .non=>true
 | .bl _=>true
 | .int _=>true
 | .str _=>true
 |_=>false
def eqV:V->V->Bool
 | .non,.non=>true
 | .bl a,.bl b=>a==b
 | .bl a,.int b=>(if a then 1 else 0)==b
 | .int a,.bl b=>a==(if b then 1 else 0)
 | .int a,.int b=>a==b
 | .str a,.str b=>a==b
 |_,_=>false
theorem akL{A:Around}{s:Shared}{y x:V}{u v:Value}(ry:RelV y u)(rx:RelV x v)(fy:uQ y=true)(fx:uQ x=true):SeqAt.EqAt A s u v (eqV y x):=by
 cases y with
 |non=>
  cases ry
  cases x with
  |non=>cases rx;exact SeqAt.EqAt.same _
  |bl b=>cases rx;exact SeqAt.EqAt.none_bool b
  |int b=>obtain⟨t,rfl⟩:=rx;exact SeqAt.EqAt.none_int b t
  |str b=>obtain⟨t,rfl⟩:=rx;exact SeqAt.EqAt.none_str b t
  |_=>exact absurd (show false=true from fx) Bool.false_ne_true
 |bl a=>
  cases ry
  cases x with
  |non=>cases rx;exact SeqAt.EqAt.bool_none a
  |bl b=>cases rx;exact SeqAt.EqAt.bool_bool a b
  |int b=>obtain⟨t,rfl⟩:=rx;exact SeqAt.EqAt.bool_int a b t
  |str b=>obtain⟨t,rfl⟩:=rx;exact SeqAt.EqAt.bool_str a b t
  |_=>exact absurd (show false=true from fx) Bool.false_ne_true
 |int a=>
  obtain⟨t',rfl⟩:=ry
  cases x with
  |non=>cases rx;exact SeqAt.EqAt.int_none a t'
  |bl b=>cases rx;exact SeqAt.EqAt.int_bool a t' b
  |int b=>obtain⟨t,rfl⟩:=rx;exact SeqAt.EqAt.int_int a t' b t
  |str b=>obtain⟨t,rfl⟩:=rx;exact SeqAt.EqAt.int_str a t' b t
  |_=>exact absurd (show false=true from fx) Bool.false_ne_true
 |str a=>
  obtain⟨t',rfl⟩:=ry
  cases x with
  |non=>cases rx;exact SeqAt.EqAt.str_none a t'
  |bl b=>cases rx;exact SeqAt.EqAt.str_bool a t' b
  |int b=>obtain⟨t,rfl⟩:=rx;exact SeqAt.EqAt.str_int a t' b t
  |str b=>obtain⟨t,rfl⟩:=rx;exact SeqAt.EqAt.str_str a t' b t
  |_=>exact absurd (show false=true from fx) Bool.false_ne_true
 |_=>exact absurd (show false=true from fy) Bool.false_ne_true
def eqU(x:V)(u:Value):Bool:=match u with
 | .none=>eqV .non x
 | .bool b=>eqV (.bl b) x
 | .int i _=>eqV (.int i) x
 | .str z _=>eqV (.str z) x
 |_=>false
theorem PL{x y:V}{u:Value}(r:RelV y u)(f:uQ y=true):eqU x u=eqV y x:=by
 cases y with
 |non=>cases r;rfl
 |bl b=>cases r;rfl
 |int i=>obtain⟨t,rfl⟩:=r;rfl
 |str z=>obtain⟨t,rfl⟩:=r;rfl
 |_=>exact absurd (show false=true from f) Bool.false_ne_true
theorem Tn{x:V}:∀{xs:`E}{us:`L},Vals xs us->xs.all uQ=true->us.any (eqU x)=xs.any fun y=>eqV y x
 |_,_,.nil,_=>rfl
 |y::xs,u::us,.cons r t,f=>by
  rw[List.all_cons,Bool.and_eq_true]at f
  rw[List.any_cons,List.any_cons,PL r f.1,Tn t f.2]
theorem yp{A:Around}{s:Shared}{x:V}{v:Value}(rx:RelV x v)(fx:uQ x=true):∀{xs:`E}{us:`L},Vals xs us->xs.all uQ=true->∀u∈us,SeqAt.EqAt A s u v (eqU x u)
 |_,_,.nil,_=>fun u hu=>by cases hu
 |y::xs,u::us,.cons r t,f=>fun u' hu=>by
  rw[List.all_cons,Bool.and_eq_true]at f
  rcases List.mem_cons.mp hu with rfl|hu
  ·rw[PL r f.1];exact akL r rx f.1 fx
  ·exact yp rx fx t f.2 u' hu
def inV(x:V)(xs:`E):Bool:=xs.any fun y=>eqV y x
def rIn(K:W.Frag)(neg:Bool):R2:=fun x y H Q=>∃p xs,y=.ref p/\(SqL K H p xs\/SqT K H p xs)/\uQ x=true/\xs.all uQ=true/\Q (.bl (if neg then !inV x xs else inV x xs)) H
theorem G_:OpR X (compareOp .In) (rIn X.K false):=by
 intro pins s σ H x y v u Q I rx ry h
 obtain⟨p,xs,rfl,hq,fx,fs,q⟩:=h
 cases ry
 rcases hq with hq|hq
 ·obtain⟨its,r,pl,hz⟩:=I.list hq
  refine SeqAt.in_listAt (eqU x) pl.isList (fun w hw=>yp rx fx r fs w (by simpa using hw)) ⟨.bl _,H,I,rfl,?_⟩
  rw[show its.toArray.any (eqU x)=its.any (eqU x)by simp,Tn r fs]
  exact q
 ·obtain⟨its,r,pl,hz⟩:=I.tuple hq
  refine SeqAt.in_tupleAt (eqU x) pl (fun w hw=>yp rx fx r fs w (by simpa using hw)) ⟨.bl _,H,I,rfl,?_⟩
  rw[show its.toArray.any (eqU x)=its.any (eqU x)by simp,Tn r fs]
  exact q
theorem call_len_seq:CallR X (.builtin "len") (fun xs H Q=>∃p ys,xs=[.ref p]/\(SqL X.K H p ys\/SqT X.K H p ys)/\Q (.int ys.length) H):=by
 intro pins s σ H xs us Q I r h
 obtain⟨p,ys,rfl,hq,q⟩:=h
 obtain⟨u,rfl,rx⟩:=vals1 r
 cases rx
 have hn:=line63
 rcases hq with hq|hq
 ·obtain⟨its,r',pl,hz⟩:=I.list hq
  have hlen:=r'.length
  exact Calls.call_len_list pl.isList (by simp only[List.size_toArray]<;>lia) ⟨.int ys.length,H,I.tok _,⟨s.toks+1,by rw[List.size_toArray,hlen]⟩,q⟩
 ·obtain⟨its,r',pl,hz⟩:=I.tuple hq
  have hlen:=r'.length
  exact len_tuple pl (by simp only[List.size_toArray]<;>lia) ⟨.int ys.length,H,I.tok _,⟨s.toks+1,by rw[List.size_toArray,hlen]⟩,q⟩
theorem dW:CallR X `a (fun xs H Q=>∃p ys,xs=[.ref p]/\((SqL X.K H p ys/\∀l,H l=none->Q (.ref l) (upd H l (.tup ys)))\/(SqT X.K H p ys/\Q (.ref p) H))):=by
 intro pins s σ H xs us Q I r h
 obtain⟨p,ys,rfl,h⟩:=h
 obtain⟨u,rfl,rx⟩:=vals1 r
 cases rx
 rcases h with⟨hq,q⟩|⟨hq,q⟩
 ·obtain⟨its,r',pl,hz⟩:=I.list hq
  have hlen:=r'.length
  refine call_tuple_list pl.isList (fun h' kp=>?_) (by simp only[List.size_toArray]<;>lia)
  have I1:Inv X pins σ H {s with heap:=h'}:=I.kept (t':=s.toks) kp
  have I2:Inv X pins σ (upd H h'.objs.size (.tup ys)) {s with heap:=h'.push {cls:=`a,data:=.seq its.toArray}}:=
   I1.laid (t':=s.toks) (fun b o e=>Heap.get?_push_of_some _ e) `K (show ObjOk X.prog X.w _ _ _ (.tup ys)from⟨hz,its,r',IsTup.new _ _⟩)
  exact⟨.ref h'.objs.size,_,I2,rfl,q _ (I1.hok.fresh `K)⟩
 ·obtain⟨its,r',pl,hz⟩:=I.tuple hq
  exact call_tuple_same pl ⟨.ref p,H,I,rfl,q⟩
def tyV(K:W.Frag)(T:String)(x:V)(H:Hp):Prop:=match x with
 | .str _=>T="str"
 | .int _=>T="int"
 | .ref p=>(T="list"/\∃xs,SqL K H p xs)\/(T="tuple"/\∃o,K.lookup p=some o/\o.cls=`a/\o.dict=none)\/
   (T="dict"/\((∃kvs,H p=some (.dK kvs))\/∃kvs,H p=some (.dT kvs)))\/(T="set"/\∃S n,H p=some (.set S n))
 |_=>False
theorem adC{pins:`U}{σ:St}{H:Hp}{s:Shared}{T:String}{x:V}{v:Value}(I:`J)(r:RelV x v)(ty:tyV X.K T x H):
  s.TypeIs v T/\∀a,v=`I->∃ob,s.heap.get? a=some ob/\ob.dict=none:=by
 cases x with
 |str z=>
  obtain⟨t,rfl⟩:=r
  cases(show T="str"from ty)
  exact⟨typeIs_str s z t,fun _ e=>nomatch e⟩
 |int i=>
  obtain⟨t,rfl⟩:=r
  cases(show T="int"from ty)
  exact⟨typeIs_int s i t,fun _ e=>nomatch e⟩
 |ref p=>
  cases r
  rcases ty with⟨rfl,xs,hq⟩|⟨rfl,o,hk,hc,hd⟩|⟨rfl,hk⟩|⟨rfl,S,n,hk⟩
  ·obtain⟨its,_,pl,_⟩:=I.list hq
   refine⟨pl.isList.typeIs,fun a e=>?_⟩
   cases e
   obtain⟨o,n,e,c,hd,_⟩:=pl
   exact⟨o,e,hd⟩
  ·refine⟨⟨o,I.kIn p o hk,hc⟩,fun a e=>?_⟩
   cases e
   exact⟨o,I.kIn _ o hk,hd⟩
  ·have z:∃o,s.heap.get? p=some o/\o.ExactDict:=by
    rcases hk with⟨kvs,hk⟩|⟨kvs,hk⟩
    ·obtain⟨_,_,_,_,o,_,_,e,ex,_⟩:=I.hok p _ hk
     exact⟨o,e,ex⟩
    ·obtain⟨_,_,_,_,o,_,_,e,ex,_⟩:=I.hok p _ hk
     exact⟨o,e,ex⟩
   obtain⟨o,e,ex⟩:=z
   refine⟨⟨o,e,ex.1⟩,fun a e2=>?_⟩
   cases e2
   exact⟨o,e,ex.2.1⟩
  ·obtain⟨o,_,_,_,e,ex,_⟩:=I.hok p _ hk
   refine⟨⟨o,e,ex.1⟩,fun a e2=>?_⟩
   cases e2
   exact⟨o,e,ex.2.1⟩
 |_=>exact False.elim ty
def ajD(K:W.Frag)(T:String)(r:V->`E->Hp->VK->Prop)(to:TE):TE:=fun σ H Q=>to σ H fun x H1=>tyV K T x H1/\r x [] H1 Q
def tBM(K:W.Frag)(T:String)(r:V->`E->Hp->VK->Prop)(to:TE)(t:TA):TE:=fun σ H Q=>to σ H fun x H1=>tyV K T x H1/\t σ H1 fun xs H2=>r x xs H2 Q
variable{o e:Expr}{es:List Expr}{to:TE}{t:TA}{name:Str}{apos cpos:Pos}{T id:String}{r:V->`E->Hp->VK->Prop}
theorem WT(pa:PlainAttrs T)(slot:Slot T name id)(hty:typeOf (.builtin id)=pure (.type "method_descriptor"))(hm:MtR X id r)(ho:PE X o to)
  (hbase:attributeBase o name X.env (eval o X.env)=eval o X.env:=by rfl)(hline:(apos.endLine==cpos.line)=true:=by rfl):PE X (.Call (.Attribute o name apos) [] [] cpos) (ajD X.K T r to):=by
 intro pins s σ H Q I h
 refine wpAny_Call_method0_late hbase hline (thn (ho pins s σ H _ I h) fun v s1⟨x,H1,I1,r1,ty,q1⟩=>?_)
 obtain⟨h1,h2⟩:=adC I1 r1 ty
 exact⟨T,id,pa,slot,hty,h1,h2,Calls.callWith_builtin rfl (PySem.evalArgs_none (hm pins s1 σ H1 x [] v [] Q I1 r1 .nil q1))⟩
theorem zx(pa:PlainAttrs T)(slot:Slot T name id)(hty:typeOf (.builtin id)=pure (.type "method_descriptor"))(hm:MtR X id r)(ho:PE X o to)(ha:PA X (e::es) t)
  (hbase:attributeBase o name X.env (eval o X.env)=eval o X.env:=by rfl)
  (hfew:((backTo cpos (starEach (e::es) X.env)).all (fun x=>!x.1)&&(backToKw cpos (keywordEach [] X.env)).all (fun x=>x.1.isSome)
   &&decide ((e::es).length+([]:List Keyword).length+(if([]:List Keyword).isEmpty then 0 else 1)<30))=true:=by rfl)
  (hline:(apos.endLine==cpos.line)=true:=by rfl)(hs:starEach (e::es) X.env=(false,eval e X.env)::starEach es X.env:=by rfl)(hplain:(backTo cpos (starEach es X.env)).any (·.1)=false:=by rfl):
  PE X (.Call (.Attribute o name apos) (e::es) [] cpos) (tBM X.K T r to t):=by
 intro pins s σ H Q I h
 refine wpAny_Call_method_late hbase hfew hline rfl (thn (ho pins s σ H _ I h) fun v s1⟨x,H1,I1,r1,ty,q1⟩=>?_)
 obtain⟨h1,h2⟩:=adC I1 r1 ty
 refine⟨T,id,pa,slot,hty,h1,h2,?_⟩
 have hA:=ha cpos pins s1 σ H1 _ I1 q1
 rw[hs]at hA|-
 refine Calls.callWith_builtin (by show(false||(backTo cpos (starEach es X.env)).any (·.1))=false;rw[hplain]<;>rfl) (Calls.evalArgs_plain ?_)
 exact thn hA fun us s2⟨vs,H2,I2,r2,q2⟩=>hm pins s2 σ H2 x vs v us Q I2 r1 r2 q2
end
def MtM(X:Cx)(id:String)(r:V->`E->Hp->VK->Prop):Prop:=
 ∀(pins:`U)(s:Shared)(σ:St)(H:Hp)(x:V)(xs:`E)(v:Value)(us:`L)(Q:VK),`J->RelV x v->Vals xs us->r x xs H Q->
  wpAny `X X.A (call (.builtin id) (v::us)) (EP X pins σ Q) X.xe s
theorem Vals.one:∀{x:V}{us:`L},Vals [x] us->∃u,us=[u]/\RelV x u
 |_,_,.cons r .nil=>⟨_,rfl,r⟩
theorem Vals.zero:∀{us:`L},Vals [] us->us=[]
 |_,.nil=>rfl
theorem Vals.dropLast{xs:`E}{us:`L}(h:Vals xs us):Vals xs.dropLast us.dropLast:=by
 induction h with
 |nil=>exact .nil
 |cons r t ih=>
  cases t with
  |nil=>exact .nil
  |cons q t'=>exact .cons r ih
theorem Vals.eraseIdx:∀{xs:`E}{us:`L}(i:Nat),Vals xs us->Vals (xs.eraseIdx i) (us.eraseIdx i)
 |_,_,_,.nil=>.nil
 |_,_,0,.cons _ t=>t
 |_,_,i+1,.cons r t=>.cons r (Vals.eraseIdx i t)
theorem Vals.reverse{xs:`E}{us:`L}(h:Vals xs us):Vals xs.reverse us.reverse:=by
 induction h with
 |nil=>exact .nil
 |cons r t ih=>rw[List.reverse_cons,List.reverse_cons];exact Vals.append ih (.cons r .nil)
theorem Vals.rep{xs:`E}{us:`L}(h:Vals xs us):∀k:Nat,Vals (List.replicate k xs).flatten (List.replicate k us).flatten
 |0=>.nil
 |k+1=>by
  rw[List.replicate_succ,List.replicate_succ,List.flatten_cons,List.flatten_cons]
  exact Vals.append h (Vals.rep h k)
theorem acL{α:Type}(l:List α):l.eraseIdx (l.length-1)=l.dropLast:=by
 induction l with
 |nil=>rfl
 |cons a r ih=>
  cases r with
  |nil=>rfl
  |cons b r=>
   have e:(a::b::r).length-1=((b::r).length-1)+1:=by
    have h1:(a::b::r).length=r.length+2:=rfl
    have h2:(b::r).length=r.length+1:=rfl
    lia
   rw[e,List.eraseIdx_cons_succ,ih]
   all_goals rfl
theorem Us{α:Type}:∀(l:List α)(i:Nat),(l.eraseIdx i).length<=l.length
 |[],_=>`K
 |_::_,0=>Nat.le_succ _
 |_::r,i+1=>Nat.succ_le_succ (Us r i)
theorem foldl_rep(its:`L):∀(k:Nat)(acc:`L),
  List.foldl (fun x1 x2=>x1++x2) acc.toArray (List.replicate k its.toArray)=(acc++(List.replicate k its).flatten).toArray
 |0,acc=>`G
 |k+1,acc=>by
  have e:acc.toArray++its.toArray=(acc++its).toArray:=`G
  have e2:(acc++its)++(List.replicate k its).flatten=acc++(List.replicate (k+1) its).flatten:=by
   rw[List.replicate_succ,List.flatten_cons,List.append_assoc]
  rw[<-e2,<-foldl_rep its k (acc++its),<-e,List.replicate_succ,List.foldl_cons]
section
variable{X:Cx}{pins:`U}{σ:St}{H:Hp}{s:Shared}{l b:Addr}{xs ys zs:`E}
theorem Inv.RN{its its':`L}{n:Nat}{f:Array Value->Array Value}{t':Nat}(I:`J)(hH:H l=some (.lst xs))
  (e:s.heap.get? l=some {cls:=.type "list",data:=.seq its.toArray n})(hf:f its.toArray=its'.toArray)(hv:Vals ys its')(hz:ys.length<=sizeLine):
  Inv X pins σ (upd H l (.lst ys)) {s with heap:=s.heap.update l (Obj.mapSeq f),toks:=t'}:=by
 have q:=PySem.IsL.update e f
 rw[hf]at q
 refine I.write (x:=l) (e:=l) (by rw[hH];exact trivial) (.inl rfl) (fun b' u hb hu=>(Heap.get?_update_other s.heap (Obj.mapSeq f) (Ne.symm hb)).trans hu) ⟨_,q⟩ ?_
 exact⟨hz,its',_,hv,q⟩
theorem Inv.lnew{its:`L}{t':Nat}(I:`J)(hv:Vals ys its)(hz:ys.length<=sizeLine):
  Inv X pins σ (upd H s.heap.objs.size (.lst ys)) {s with heap:=s.heap.push {cls:=.type "list",data:=.seq its.toArray},toks:=t'}:=
 I.laid (fun _ _ q=>Heap.get?_push_of_some _ q) `K ⟨hz,its,0,hv,`i⟩
theorem Inv.fresh(I:`J):H s.heap.objs.size=none:=I.hok.fresh `K
theorem Inv.lstM(I:`J)(hH:H l=some (.lst xs)):xs.length<=sizeLine/\∃(its:`L)(n:Nat),Vals xs its/\xs.length=its.length/\s.heap.get? l=some {cls:=.type "list",data:=.seq its.toArray n}:=by
 obtain⟨z,its,n,r,e⟩:=I.hok l _ hH
 exact⟨z,its,n,r,r.length,e⟩
theorem Dz{n:Nat}(h:n<=sizeLine):Builtin.List.listTooLong n=false:=by
 unfold Builtin.List.listTooLong
 exact decide_eq_false `A
end
section
variable{X:Cx}
def aie:V->`E->Hp->VK->Prop:=fun x vs H Q=>∃l xs y,x=.ref l/\vs=[y]/\H l=some (.lst xs)/\xs.length<sizeLine/\Q .non (upd H l (.lst (xs++[y])))
theorem bW:MtM X "list.append" aie:=by
 intro pins s σ H x vs v us Q I rx rv h
 obtain⟨l,xs,y,rfl,rfl,hH,hz,q⟩:=h
 cases rx
 obtain⟨u,rfl,ru⟩:=rv.one
 obtain⟨z,its,n,r,hl,e⟩:=I.lstM hH
 refine call_meets F.slot_list_append ⟨_,e,rfl⟩ F.entry_list_append (F.args_list_append_2 _ _) (PySem.list_append l its.toArray n u (by rw[List.size_toArray];lia)) ⟨e,?_⟩
 refine⟨.non,_,I.RN (its':=its++[u]) hH e `G (r.append (.cons ru .nil)) ?_,rfl,q⟩
 rw[List.length_append,List.length_singleton]
 lia
def aic:V->`E->Hp->VK->Prop:=fun x vs H Q=>∃l b xs zs,x=.ref l/\vs=[.ref b]/\H l=some (.lst xs)/\H b=some (.lst zs)/\xs.length+zs.length<=sizeLine/\Q .non (upd H l (.lst (xs++zs)))
theorem Uq:MtM X "list.extend" aic:=by
 intro pins s σ H x vs v us Q I rx rv h
 obtain⟨l,b,xs,zs,rfl,rfl,hH,hB,hz,q⟩:=h
 cases rx
 obtain⟨u,rfl,ru⟩:=rv.one
 cases ru
 obtain⟨z,its,n,r,hl,e⟩:=I.lstM hH
 obtain⟨z2,its2,n2,r2,hl2,e2⟩:=I.lstM hB
 have hsz:its.toArray.size+its2.toArray.size<=sizeLine:=by rw[List.size_toArray,List.size_toArray];lia
 have PB:¬(!its.toArray.isEmpty&&Builtin.List.listTooLong (its.toArray.size+its2.toArray.size))=true:=by
  rw[Dz hsz,Bool.and_false]
  exact Bool.false_ne_true
 refine call_meets F.slot_list_extend ⟨_,e,rfl⟩ F.entry_list_extend (F.args_list_extend_2 _ _)
  (AutoSeq1.list_extend_list_list_0 l its.toArray n b its2.toArray n2 PB (by rw[List.size_toArray];lia) `A) ⟨e,e2,?_⟩
 refine⟨.non,_,I.RN (its':=its++its2) hH e `G (r.append r2) ?_,rfl,q⟩
 rw[List.length_append]
 lia
def anc:V->`E->Hp->VK->Prop:=fun x vs H Q=>∃l xs y,x=.ref l/\vs=[]/\H l=some (.lst xs)/\xs[xs.length-1]?=some y/\Q y (upd H l (.lst xs.dropLast))
theorem jx:MtM X "list.pop" anc:=by
 intro pins s σ H x vs v us Q I rx rv h
 obtain⟨l,xs,y,rfl,rfl,hH,hy,q⟩:=h
 cases rx
 have hus:=rv.zero
 subst hus
 obtain⟨z,its,n,r,hl,e⟩:=I.lstM hH
 obtain⟨u,hu,ru⟩:=r.get hy
 have hy':its.toArray[its.toArray.size-1]?=some u:=by
  show its.toArray[its.length-1]?=some u
  rw[<-Array.getElem?_toList,<-hl]
  exact hu
 refine call_meets F.slot_list_pop ⟨_,e,rfl⟩ F.entry_list_pop (F.args_list_pop_1 _) (MeetsSeq.list_pop_last l its.toArray n u hy' (by rw[List.size_toArray];lia)) ⟨e,?_⟩
 refine⟨y,_,I.RN (its':=its.dropLast) hH e ?_ r.dropLast ?_,ru,q⟩
 ·show its.toArray.eraseIdxIfInBounds (its.toArray.size-1)=its.dropLast.toArray
  rw[List.size_toArray,List.eraseIdxIfInBounds_toArray,acL]
 ·rw[List.length_dropLast]
  lia
def ajN:V->`E->Hp->VK->Prop:=fun x vs H Q=>∃l xs i k y,x=.ref l/\vs=[.int i]/\H l=some (.lst xs)/\-(2^63)<=i/\i<2^63/\seqIndex? i xs.length=some k/\xs[k]?=some y/\Q y (upd H l (.lst (xs.eraseIdx k)))
theorem Ml:MtM X "list.pop" ajN:=by
 intro pins s σ H x vs v us Q I rx rv h
 obtain⟨l,xs,i,k,y,rfl,rfl,hH,h1,h2,hk,hy,q⟩:=h
 cases rx
 obtain⟨u,rfl,ru⟩:=rv.one
 obtain⟨t,rfl⟩:=ru
 obtain⟨z,its,n,r,hl,e⟩:=I.lstM hH
 obtain⟨w,hw,rw'⟩:=r.get hy
 refine call_meets F.slot_list_pop ⟨_,e,rfl⟩ F.entry_list_pop (F.args_list_pop_2 _ _)
  (MeetsSeq.list_pop_at l its.toArray n i t k w (fitsIndex_both h1 h2) (by rw[List.size_toArray,<-hl];exact hk) (by rw[<-Array.getElem?_toList];exact hw) (by rw[List.size_toArray];lia)) ⟨e,?_⟩
 refine⟨y,_,I.RN (its':=its.eraseIdx k) hH e ?_ (r.eraseIdx k) ?_,rw',q⟩
 ·show its.toArray.eraseIdxIfInBounds k=(its.eraseIdx k).toArray
  rw[List.eraseIdxIfInBounds_toArray]
 ·have:=Us xs k
  lia
def anb:R2:=fun x y H Q=>∃l k xs,x=.ref l/\y=.int k/\H l=some (.lst xs)/\-(2^63)<=k/\k<2^63/\xs.length*k.toNat<=sizeLine/\
 ∀p,H p=none->Q (.ref p) (upd H p (.lst (List.replicate k.toNat xs).flatten))
theorem len_rep{α:Type}(xs:List α)(k:Nat):(List.replicate k xs).flatten.length=k*xs.length:=by
 induction k with
 |zero=>simp
 |succ k ih=>rw[List.replicate_succ,List.flatten_cons,List.length_append,ih,Nat.succ_mul,Nat.add_comm]
theorem aj8:OpR X (binaryOp .Mult) anb:=by
 intro pins s σ H x y v u Q I rx ry h
 obtain⟨l,k,xs,rfl,rfl,hH,h1,h2,hz,q⟩:=h
 cases rx
 obtain⟨t,rfl⟩:=ry
 obtain⟨z,its,n,r,hl,e⟩:=I.lstM hH
 have hlen:its.toArray.size*k.toNat<=sizeLine:=by rw[List.size_toArray,<-hl];exact hz
 have hcap:¬its.toArray.size*k.toNat>(2^63-1)/8:=by
  have:(sizeLine:Nat)<=(2^63-1)/8:=`B
  lia
 have hfit:¬(!Builtin.List.listFitsIndex k)=true:=by
  rw[fitsIndex_both h1 h2]
  exact Bool.false_ne_true
 have PB:¬Builtin.List.listTooLong (its.toArray.size*k.toNat)=true:=by
  rw[Dz hlen]
  exact Bool.false_ne_true
 have hnew:List.foldl (fun x1 x2=>x1++x2) #[] (List.replicate (if its.toArray.isEmpty=true then 0 else k.toNat) its.toArray)=(List.replicate k.toNat its).flatten.toArray:=by
  have f0:∀m:Nat,List.foldl (fun x1 x2=>x1++x2) #[] (List.replicate m its.toArray)=(List.replicate m its).flatten.toArray:=fun m=>by
   have:=foldl_rep its m []
   rw[List.nil_append]at this
   exact this
  rw[f0]
  cases its with
  |nil=>simp
  |cons a r'=>rw[if_neg `G]
 refine wpAny_binaryOp_repeat_ref (T:="list") (U:="int") `B ⟨_,e,rfl⟩ (fun s'=>typeIs_int s' k t) noFill_list_mul F.fills_int_mul F.slot_int_rmul repeat_list F.slot_int_index.lookup
  (call_meets F.slot_int_rmul (typeIs_int s k t) F.entry_int_rmul (F.args_int_rmul_2 _ _) (int___rmul___int_list k t l its.toArray n)
   ⟨e,rfl,⟨_,e,rfl⟩,call_meets F.slot_list_mul ⟨_,e,rfl⟩ F.entry_list_mul (F.args_list_mul_2 _ _) (AutoListH.list___mul___list_int_3 l its.toArray n k t hfit hcap PB) ⟨e,?_⟩⟩)
 rw[hnew]
 exact⟨.ref _,_,I.lnew (t':=s.toks) (r.rep k.toNat) (by rw[len_rep,Nat.mul_comm];exact hz),rfl,q _ I.fresh⟩
end
section
variable{prog:Program}{w:World}{A:Around}{E:`V}{s:Shared}
end
section
variable{X:Cx}
end
end L2
namespace Att
open PySem PySem.W PySem.Calls PyProof.Rows
theorem ints_of_wellAll{P:Params}{h:Heap}:∀(ns:List Int)(vs:`L),WellAll P h vs (ns.map WData.int)->IntsAre vs ns:=by
 intro ns
 induction ns with
 |nil=>
  intro vs w
  rw[List.map_nil]at w
  cases w
  exact .nil
 |cons n ns ih=>
  intro vs w
  rw[List.map_cons]at w
  cases w with
  |cons a b=>
   cases a
   exact .cons _ _ (ih _ b)
theorem script_of{l:OpenLaw}{n:Nat}(hn:l.most=some n){P:Params}{h:Heap}{args:List WData}{vals:`L}
  (hpre:l.row.toRowW.claim.pre args=true)(hwl:WellAll P h vals args):
  ∃a vs ns,vals=[Value.ref a]/\args=[WData.list (ns.map WData.int)]/\h.get? a=some {cls:=.type "list",data:=.seq vs.toArray}/\IntsAre vs ns/\ns.length<=n:=by
 have hsh:WShape.hasAll [] args [.list .int]=true:=(pre_splitW hpre).1
 have hc:l.pre.holds [] {args:=args}=true:=(pre_splitW hpre).2
 obtain⟨d,r,rfl,h1,h2⟩:=hasAllW_cons hsh
 obtain rfl:=hasAllW_nil h2
 obtain⟨xs,rfl,h3⟩:=hasW_list h1
 obtain⟨ns,rfl⟩:=items_int h3
 have hlen:ns.length<=n:=by
  unfold OpenLaw.pre at hc
  have h4:(WTm.not (.lt (.lit (.int (n:Int))) (.len (.arg 0)))).holds [] {args:=[.list (ns.map .int)]}=true:=by
   have h4:=(holds_andW hc).1
   rw[hn]at h4
   exact h4
  have h5:=condW_of h4 (w_not (w_lt w_lit (w_len_list (w_arg rfl))))
  rw[List.length_map]at h5
  refine Nat.le_of_not_lt fun q=>?_
  have q':(n:Int)<((ns.length:Nat):Int):=`A
  first
   |(rw[decide_eq_true q']at h5;exact absurd h5 `B)
   |(simp at h5;lia)
 cases hwl with
 |cons w1 w2=>
  cases w2
  cases w1 with
  |list ho hall=>exact⟨_,_,ns,rfl,rfl,ho,ints_of_wellAll ns _ hall,hlen⟩
theorem post_true(l:OpenLaw)(args:List WData):l.row.toRowW.claim.post args (.bool true) args=true:=
 postW_of (r:=l.row.toRowW) (X:=(true==true))
  (show WShape.has [] (.bool true) .bool=true by first|rfl|decide|simp[WShape.has,WShape.arms,WShape.armsAll])
  (show(WTm.eq .res (.lit (.bool true))).value [] {args:=args,res:=some (.bool true),after:=args}=some (.bool (true==true))from w_eq_bool (w_res rfl) w_lit) rfl
theorem attach_call{l:OpenLaw}{n:Nat}{q:Program}{loose:List Str}{XP:`Y->Heap->Prop}{YP:World->Heap->Prop}{d:DefRec}
  (hn:l.most=some n)(hdf:d.params.defaults=[])
  (call:∀(w:World)(s₀ s₁:Shared)(mg mb:`Y)(fa:Addr)(o:Obj)(pm cd doc:Value)(a:Addr)(vs:`L)(ns:List Int),
   Ground q loose [] XP w s₀ mg mb s₁.heap->YP w s₁.heap->
   s₁.heap.get? fa=some o->o.data=.func (docDef d.name d.params d.body d.scope pm cd doc)->s₁.heap.CodeRec cd d.name->mg d.name=some (.ref fa)->
   s₁.heap.get? a=some {cls:=.type "list",data:=.seq vs.toArray}->IntsAre vs ns->ns.length<=n->s₁.gens=#[]->
   codeAny (model l.prog w) callerA (.call (.ref fa) ⟨[`I],[]⟩) (fun r s'=>r=.ok (.ret (.bool true))/\OldK s₁.heap s'.heap/\s'.os=s₁.os/\AllBare s'.gens) s₁):
  WalkO q loose XP YP l.row.toRowW d [] (fun f vs=>PySem.call f vs):=by
 intro w s₀ s₁ mg mb G Y fa o pm cd doc dV kV ho hd hcd hD hmg hg args vals as hpre hlay hrd hwl hlo
 obtain rfl:dV=.none:=Dflts.none hD hdf
 obtain rfl:kV=.none:=Dflts.noKw hD
 obtain⟨a,vs,ns,rfl,rfl,hobj,hints,hlen⟩:=script_of hn hpre hwl
 refine enter_call (codeAny_mono (call w s₀ s₁ mg mb fa o pm cd doc a vs ns G Y ho (fd_plain hd) hcd hmg hobj hints hlen hg) fun r s' hq=>?_)
 obtain⟨rfl,h2,h3,h4⟩:=hq
 exact⟨.inl ⟨.bool true,.bool true,[],rfl,fun _=>rfl,.bool true,post_true l _,fun _=>⟨List.Pairwise.nil,fun _ hm=>(nomatch hm)⟩⟩,h2,h3,h4⟩
section
variable{prog:Program}{w:World}{A:Around}{E:`V}{s:Shared}{K:Frag}
end
end Att
namespace L2
open PySem PySem.Spec PyProof.Rows
theorem vals_ints:∀{vs:`L}{ns:List Int},IntsAre vs ns->Vals (ns.map V.int) vs
 |_,_,.nil=>.nil
 |_,_,.cons n t h=>.cons ⟨t,rfl⟩ (vals_ints h)
def Only(H:Hp):Prop:=∀b,H b=none\/∃o xs,H b=some (.frz o (.lst xs))
theorem law_call{P:Program}{w:World}{K:W.Frag}{mg mb:`Y}{CX:CXT}{k:Nat}{fa a:Addr}{fd:FuncData}{x:Str}{sp:Sp}{s₁:Shared}{vs:`L}{ns:List Int}
  (KX:K.In s₁.heap)(hns:s₁.heap.Ns mainGlobals mg)(hb:s₁.heap.Ns builtinsNs mb)(hbb:∀x:Str,x≠"__name__"->mb x=bootBuiltins x)(hlim:s₁.heap.NoLimit)(hg:s₁.gens=#[])
  (ha:s₁.heap.get? a=some {cls:=.type "list",data:=.seq vs.toArray})(hi:IntsAre vs ns)(hl:ns.length<=sizeLine)(hr:Room k callerA)
  (F:∀base:Heap,K.In base->base.Ns mainGlobals mg->FnOk P w K mg base CX k fa fd [x] sp)(hbind:∀(s:Shared)(u:Value),BindsTo s fd ⟨[u],[]⟩ [(x,u)])
  (hsp:∀H:Hp,Only H->SqL K H a (ns.map V.int)->sp [`I] H (fun v _=>v=.bl true) fun _ _ _=>False)
  (hCX:∀H e s',CX [] H s₁ (fun _ _ _=>False) e s'->False):
  codeAny (model P w) callerA (.call (.ref fa) ⟨[`I],[]⟩) (fun r s'=>r=.ok (.ret (.bool true))/\OldK s₁.heap s'.heap/\s'.os=s₁.os/\AllBare s'.gens) s₁:=by
 have rv:=vals_ints hi
 have lenV:=hi.length
 have core:∀H:Hp,Only H->SqL K H a (ns.map V.int)->HOk P w H s₁.heap->(∀b,H b≠none->b=a)->(H a≠none->K.lookup a=none)->
   codeAny (model P w) callerA (.call (.ref fa) ⟨[`I],[]⟩) (fun r s'=>r=.ok (.ret (.bool true))/\OldK s₁.heap s'.heap/\s'.os=s₁.os/\AllBare s'.gens) s₁:=by
  intro H hO hS hok hA hK
  have base_of:∀{b:Addr}{o:Obj},s₁.heap.get? b=some o->H b=none->(hidT s₁.heap H).get? b=some o:=fun e n=>hidT_get e n
  have noA:∀{b:Addr}{o:Obj}{es:Array DictEntry}{ep:Nat},s₁.heap.get? b=some o->o.data=.dict es ep->H b=none:=fun{b o es ep}e d=>by
   cases q:H b with
   |none=>rfl
   |some u=>
    have e':b=a:=hA b (by rw[q];simp)
    subst e'
    rw[ha]at e;cases e
    have d':Data.seq vs.toArray _=Data.dict es ep:=d
    cases d'
  have nsK:∀{b:Addr}{m:`Y},s₁.heap.Ns b m->(hidT s₁.heap H).Ns b m:=fun{b m}⟨o,es,ep,e,d,r⟩=>⟨o,es,ep,base_of e (noA e d),d,r⟩
  have hKb:K.In (hidT s₁.heap H):=fun b o e=>base_of (KX b o e) (by
   cases q:H b with
   |none=>rfl
   |some u=>
    have e':b=a:=hA b (by rw[q];simp)
    subst e'
    rw[hK (by rw[q];simp)]at e;cases e)
  have hM:Mod K mg (hidT s₁.heap H):=⟨hKb,nsK hns,⟨mb,nsK hb,hbb⟩,let⟨mc,h1,h2⟩:=hlim;⟨mc,nsK h1,h2⟩⟩
  have e0:Env0 P w K mg (hidT s₁.heap H) callerA [] s₁ H:=⟨rfl,hM,fun b o e=>of_hidT e,Nat.le_of_eq (hidT_size _ _),trivial,fun b hb=>absurd (show b∈([]:List Addr)from hb) `G,hok,.of_eq hg⟩
  refine codeAny_mono ((F _ hKb (nsK hns)).run callerA [] s₁ H ⟨[`I],[]⟩ [`I] [`I] _ _ hr e0 (hbind s₁ `I) (.cons rfl .nil) (hsp H hO hS)) fun r s' h=>?_
  cases r with
  |error e=>exact(hCX H e s' h).elim
  |ok fl=>
   cases fl with
   |next=>exact False.elim h
   |brk=>exact False.elim h
   |cont=>exact False.elim h
   |ret u=>
    obtain⟨v,H',os,bare,un,hok',r',q⟩:=h
    have q':v=.bl true:=q
    subst q'
    obtain rfl:u=Value.bool true:=r'
    refine⟨rfl,OldK.of_keep fun b o e=>?_,os,bare⟩
    cases q:H b with
    |none=>exact un.keep b o e q (by intro z;exact absurd (show b∈([]:List Addr)from z) `G) `G
    |some u=>
     rcases hO b with z|⟨ob,xs,z⟩
     ·rw[q]at z;cases z
     ·have z2:=un.frzs b ob _ z
      obtain⟨e1,_⟩:=hok b _ z
      obtain⟨e2,_⟩:=hok' b _ z2
      rw[e]at e1;cases e1
      exact e2
 cases hk:K.lookup a with
 |some o=>
  have e:=KX a o hk
  rw[ha]at e
  cases e
  refine core (fun _=>none) (fun _=>.inl rfl) (.inr ⟨_,vs.toArray,_,hk,rfl,rfl,rfl,by rw[List.size_toArray,lenV];exact hl,by simpa using rv⟩) (fun b u z=>by have z':(none:Option HO)=some u:=z;cases z') (fun b z=>absurd rfl z) fun z=>absurd rfl z
 |none=>
  refine core (fun b=>if b=a then some (.frz {cls:=.type "list",data:=.seq vs.toArray} (.lst (ns.map V.int)))else none) (fun b=>?_) (.inl (.inr ⟨{cls:=.type "list",data:=.seq vs.toArray},if_pos rfl⟩)) (fun b u z=>?_) (fun b z=>?_) fun _=>hk
  ·by_cases hb:b=a
   ·exact .inr ⟨_,_,if_pos hb⟩
   ·exact .inl (if_neg hb)
  ·by_cases hb:b=a
   ·have z':=(if_pos hb).symm.trans z
    cases z'
    subst hb
    exact⟨ha,by rw[List.length_map];exact hl,vs,_,rv,ha⟩
   ·have z':=(if_neg hb).symm.trans z
    cases z'
  ·by_cases hb:b=a
   ·exact hb
   ·exact absurd (if_neg hb) z
theorem walk_of{l:W.OpenLaw}{n k:Nat}{q:Program}{loose:List Str}{XP:`Y->Heap->Prop}{YP:World->Heap->Prop}{d:DefRec}{K:Params->W.Frag}{CX:World->CXT}{sp:World->Sp}{x:Str}
  (hn:l.most=some n)(hn2:n<=sizeLine)(hdf:d.params.defaults=[])(hr:Room k callerA)
  (hY:∀(w:World)(h:Heap),YP w h->(K w.params).In h)
  (F:∀(w:World)(mg:`Y)(fa:Addr)(h:Heap),(K w.params).In h->h.Ns mainGlobals mg->mg d.name=some (.ref fa)->
   ∃fd:FuncData,(∀(s:Shared)(u:Value),BindsTo s fd ⟨[u],[]⟩ [(x,u)])/\
    ∀base:Heap,(K w.params).In base->base.Ns mainGlobals mg->FnOk l.prog w (K w.params) mg base (CX w) k fa fd [x] (sp w))
  (hsp:∀(w:World)(H:Hp)(a:Addr)(ns:List Int),ns.length<=n->Only H->SqL (K w.params) H a (ns.map V.int)->sp w [`I] H (fun v _=>v=.bl true) fun _ _ _=>False)
  (hCX:∀(w:World)(H:Hp)(s:Shared)(e:Value)(s':Shared),CX w [] H s (fun _ _ _=>False) e s'->False):
  W.WalkO q loose XP YP l.row.toRowW d [] (fun f vs=>PySem.call f vs):=by
 refine Att.attach_call hn hdf fun w s₀ s₁ mg mb fa o pm cd doc a vs ns G Y ho hd hcd hmg hobj hints hlen hg=>?_
 have KX:=hY w _ Y
 obtain⟨fd,hb,hF⟩:=F w mg fa _ KX G.T.g hmg
 exact law_call KX G.T.g G.T.b G.T.builtins G.T.nolimit hg hobj hints (Nat.le_trans hlen hn2) hr hF hb (fun H hO hS=>hsp w H a ns hlen hO hS) fun H e s'=>hCX w H s₁ e s'
def inClass(s:Stmt)(j:Nat):Stmt:=match s with
 | .ClassDef _ _ _ body _ _ _ _ _ _ _=>body.getD j (.Pass ⟨0,0,0,0⟩)
 |_=>.Pass ⟨0,0,0,0⟩
def defArgs(s:Stmt):Arguments:=match s with
 | .FunctionDef _ a _ _ _ _ _ _ _ _=>a
 |_=>{posonlyargs:=[],args:=[],vararg:=none,kwonlyargs:=[],kw_defaults:=[],kwarg:=none,defaults:=[]}
def defBody(s:Stmt):List Stmt:=match s with
 | .FunctionDef _ _ b _ _ _ _ _ _ _=>b
 |_=>[]
def defScope(s:Stmt):Scope:=match s with
 | .FunctionDef _ _ _ _ _ _ sc _ _ _=>sc
 |_=>{kind:=.function,names:=[],isGenerator:=false,isCoroutine:=false}
abbrev CX0:CXT:=fun _ _ _ _ _ _=>False
abbrev E0:XK:=fun _ _ _=>False
theorem pass0{X:Cx}:Passes CX0 X E0:=fun _ _ _ _ _ _ _ h=>h.elim
structure Fun(K:W.Frag)(x qual:Str)(st:Stmt)(f:Addr)(fd:FuncData):Prop where
 ex:∃(oc:Value)(od:Option Addr)(kV doc pm:Value)(an:Option Addr)(cdv ct:Value)(osl:`f),
  fd=W.fnOf x qual (defArgs st) (defBody st) (defScope st) .none kV doc pm an cdv ct/\K.lookup f=some ⟨oc,od,.func fd,osl⟩/\W.codeIn K cdv qual=true
 kp:W.keepIn K (.ref f)=true
section
variable{P:Program}{w:World}{K:W.Frag}{mg:`Y}{base:Heap}
theorem Fun.ok{x qual:Str}{st:Stmt}{f:Addr}{fd:FuncData}{N ps:List Str}{k:Nat}{sp:Sp}(F:Fun K x qual st f fd)(S:FnScope N ps (defScope st))(len:∀vs H Q E,sp vs H Q E->vs.length=ps.length)
  (hbody:∀(cdv:Value)(A:Around)(outer:List Env)(s:Shared)(H:Hp)(vs:`E)(Q:VK)(E:XK),Room k (A.deeper (envOfC qual (defScope st) s.heap.objs.size f cdv))->sp vs H Q E->
   ∃t,PSs (cxOf CX0 P w K mg base N qual (defScope st) f cdv A outer s H E).nox (defBody st) t/\t {nx:=fun _ H'=>Q .non H',rt:=Q} (start N vs) H):FnOk P w K mg base CX0 (k+1) f fd ps sp:=by
 obtain⟨oc,od,kV,doc,pm,an,cdv,ct,osl,rfl,lk,hcd⟩:=F.ex
 refine fn_of lk hcd S len fun A outer s H vs Q E hr hsp=>?_
 obtain⟨t,h,q⟩:=hbody cdv A outer s H vs Q E hr hsp
 exact⟨t,h.nox,q⟩
theorem Fun.binds{x qual:Str}{st:Stmt}{f:Addr}{fd:FuncData}{ps:List Str}(F:Fun K x qual st f fd)
  (h:∀(kV doc pm:Value)(an:Option Addr)(cdv ct:Value)(us:`L),us.length=ps.length->bindArgs (W.fnOf x qual (defArgs st) (defBody st) (defScope st) .none kV doc pm an cdv ct) ⟨us,[]⟩=pure (ps.zip us)):Binds K fd ps []:=by
 obtain⟨oc,od,kV,doc,pm,an,cdv,ct,osl,rfl,lk,hcd⟩:=F.ex
 exact .all (h kV doc pm an cdv ct)
theorem fun_mk{x qual:Str}{st:Stmt}{f:Addr}{oc:Value}{od an:Option Addr}{osl:`f}{kV doc pm cdv ct:Value}(l:K.lookup f=some ⟨oc,od,.func (W.fnOf x qual (defArgs st) (defBody st) (defScope st) .none kV doc pm an cdv ct),osl⟩)
  (c:W.codeIn K cdv qual=true)(k:W.keepIn K (.ref f)=true):Fun K x qual st f (W.fnOf x qual (defArgs st) (defBody st) (defScope st) .none kV doc pm an cdv ct):=⟨⟨oc,od,kV,doc,pm,an,cdv,ct,osl,rfl,l,c⟩,k⟩
end
section
variable{X:Cx}
theorem pv(i:Nat){x:Str}{pos:Pos}(hN:X.N[i]?=some x:=by rfl)(hv:Vis X.env.scope x:=by first|exact`O|exact Or.inr `O|exact Or.inr (Or.inr rfl))(hd:`l:=by decide)
  (hcd:(x==("__classdict__":Str))=false:=by decide):PE X (.Name x pos) (tVar i):=pe_var hN hv hd hcd
end
theorem iteF{A B:Prop}(h:B):if false=true then A else B:=by
 rw[if_neg Bool.false_ne_true]
 exact h
theorem iteT{A B:Prop}(h:A):if true=true then A else B:=by
 rw[if_pos rfl]
 exact h
theorem ite2{c A B:Prop}[Decidable c](h1:c->A)(h2:¬c->B):if c then A else B:=by
 by_cases h:c
 ·rw[if_pos h]
  exact h1 h
 ·rw[if_neg h]
  exact h2 h
def Same(H H':Hp):Prop:=∀b o,H b=some o->H' b=some o
theorem Same.refl(H:Hp):Same H H:=fun _ _ h=>h
theorem Same.trans{H H1 H2:Hp}(a:Same H H1)(b:Same H1 H2):Same H H2:=fun c o h=>b c o (a c o h)
theorem Same.free{H H':Hp}(e:`N){l:Addr}(h:H' l=Option.none):H l=Option.none:=by
 cases q:H l with
 |none=>rfl
 |some o=>
  rw[e l o q]at h
  cases h
theorem Same.seq{K:W.Frag}{H H':Hp}{a:Addr}{xs:`E}(e:`N)(h:SqL K H a xs):SqL K H' a xs:=by
 rcases h with(h|⟨o,h⟩)|h
 ·exact .inl (.inl (e _ _ h))
 ·exact .inl (.inr ⟨o,e _ _ h⟩)
 ·exact .inr h
end L2
set_option maxHeartbeats 4000000
namespace Sw
inductive aO{α β:Type}(R:α->β->Prop):List α->List β->Prop where
 |nil:aO R [] []
 |cons{a:α}{b:β}{as:List α}{bs:List β}:R a b->aO R as bs->aO R (a::as) (b::bs)
namespace aO
variable{α β:Type}{R S:α->β->Prop}
theorem length{as:List α}{bs:List β}(h:aO R as bs):bs.length=as.length:=by
 induction h with
 |nil=>rfl
 |cons _ _ ih=>rw[List.length_cons,List.length_cons,ih]
theorem imp{as:List α}{bs:List β}(f:∀a b,R a b->S a b)(h:aO R as bs):aO S as bs:=by
 induction h with
 |nil=>exact .nil
 |cons r _ ih=>exact .cons (f _ _ r) ih
theorem append{as as':List α}{bs bs':List β}(h:aO R as bs)(g:aO R as' bs'):aO R (as++as') (bs++bs'):=by
 induction h with
 |nil=>exact g
 |cons r _ ih=>exact .cons r ih
theorem one{a:α}{b:β}(h:R a b):aO R [a] [b]:=.cons h .nil
theorem get{as:List α}{bs:List β}(h:aO R as bs):∀{i:Nat}{b:β},bs[i]?=some b->∃a,as[i]?=some a/\R a b:=by
 induction h with
 |nil=>intro i b e;simp at e
 |cons r _ ih=>
  intro i b e
  cases i with
  |zero=>exact⟨_,rfl,by have e':=Option.some.inj e;rw[<-e'];exact r⟩
  |succ i=>exact ih (i:=i) (by simpa using e)
theorem take(n:Nat):∀{as:List α}{bs:List β},aO R as bs->aO R (as.take n) (bs.take n):=by
 induction n with
 |zero=>intro as bs _;rw[List.take_zero,List.take_zero];exact .nil
 |succ n ih=>
  intro as bs h
  cases h with
  |nil=>exact .nil
  |cons r h=>exact .cons r (ih h)
theorem of_get:∀{bs:List β}{as:List α},bs.length=as.length->(∀(i:Nat)b,bs[i]?=some b->∃a,as[i]?=some a/\R a b)->aO R as bs
 |[],[],_,_=>.nil
 |[],_::_,h,_=>by simp at h
 |_::_,[],h,_=>by simp at h
 |b::bs,a::as,h,g=>by
  obtain⟨a',e,r⟩:=g 0 b rfl
  have e':=Option.some.inj e
  refine .cons (by rw[e'];exact r) (of_get (by simpa using h) fun i b e=>?_)
  exact g (i+1) b (by simpa using e)
end aO
inductive T where
 |node(ts:`D)
namespace T
def kids:T->`D| .node ts=>ts
mutual
def parts:T->Nat| .node ts=>1+aN ts
def aN:`D->Nat
 |[]=>0
 |t::ts=>parts t+aN ts
end
mutual
def deep:T->Nat| .node ts=>bF ts
def bF:`D->Nat
 |[]=>0
 |t::ts=>max (deep t+1) (bF ts)
end
mutual
def beq:T->T->Bool| .node ts,.node us=>ig ts us
def ig:`D->`D->Bool
 |[],[]=>true
 |t::ts,u::us=>beq t u&&ig ts us
 |_,_=>false
end
mutual
theorem beq_iff:∀t u:T,beq t u=true↔t=u
 | .node ts,.node us=>by
  unfold beq
  rw[yO ts us]
  exact⟨fun h=>by rw[h],fun h=>by injection h⟩
theorem yO:∀ts us:`D,ig ts us=true↔ts=us
 |[],[]=>by simp[ig]
 |[],_::_=>by simp[ig]
 |_::_,[]=>by simp[ig]
 |t::ts,u::us=>by
  unfold ig
  rw[Bool.and_eq_true,beq_iff t u,yO ts us]
  simp
end
theorem oJ(t:T):beq t t=true:=(beq_iff t t).mpr rfl
instance:DecidableEq T:=fun t u=>if h:beq t u=true then isTrue ((beq_iff t u).mp h)else isFalse fun e=>h ((beq_iff t u).mpr e)
theorem aR(ts:`D):(T.node ts).parts=1+aN ts:=by unfold parts;rfl
theorem bC(ts:`D):(T.node ts).deep=bF ts:=by unfold deep;rfl
theorem cg:aN []=0:=by unfold aN;rfl
theorem aK(t:T)(ts:`D):aN (t::ts)=t.parts+aN ts:=by rw[aN]
theorem iC:bF []=0:=by unfold bF;rfl
theorem bf(t:T)(ts:`D):bF (t::ts)=max (t.deep+1) (bF ts):=by rw[bF]
theorem fO(t:T):1<=t.parts:=by cases t;rw[aR];lia
theorem eY(t:T):t.parts=1+aN t.kids:=by cases t;rw[aR];rfl
theorem bZ:∀a b:`D,aN (a++b)=aN a+aN b
 |[],b=>by rw[cg,List.nil_append];lia
 |t::a,b=>by rw[List.cons_append,aK,aK,bZ a b];lia
theorem oE:∀a b:`D,bF (a++b)=max (bF a) (bF b)
 |[],b=>by rw[iC,List.nil_append];lia
 |t::a,b=>by rw[List.cons_append,bf,bf,oE a b];lia
theorem cM:∀ts:`D,ts.length<=aN ts
 |[]=>`G
 |t::ts=>by
  have h1:=fO t
  have h2:=cM ts
  rw[aK,List.length_cons]
  lia
theorem Pb{ts:`D}{t:T}(h:ts[ts.length-1]?=some t):aN ts=aN ts.dropLast+t.parts:=by
 have e:ts=ts.dropLast++[t]:=by
  have hne:ts≠[]:=by rintro rfl;simp at h
  have h2:=List.dropLast_concat_getLast hne
  have h3:ts.getLast hne=t:=by
   rw[<-List.getLast?_eq_getElem?,List.getLast?_eq_some_getLast hne]at h
   exact Option.some.inj h
  rw[h3]at h2
  exact h2.symm
 have e2:aN ts=aN (ts.dropLast++[t]):=congrArg aN e
 rw[e2,bZ,aK,cg]
 lia
theorem Lw(n:Nat)(ts:`D):aN ts=aN (ts.take n)+aN (ts.drop n):=by
 rw[<-bZ,List.take_append_drop]
theorem G9{B:Nat}:∀{ts:`D},(∀t∈ts,t.parts<=B)->aN ts<=ts.length*B
 |[],_=>by rw[cg];lia
 |t::ts,h=>by
  have h1:=h t List.mem_cons_self
  have h2:=G9 fun u hu=>h u (List.mem_cons_of_mem _ hu)
  rw[aK,List.length_cons,Nat.succ_mul]
  lia
theorem Kh{B:Nat}:∀{ts:`D},(∀t∈ts,t.deep+1<=B)->bF ts<=B
 |[],_=>by rw[iC];lia
 |t::ts,h=>by
  have h1:=h t List.mem_cons_self
  have h2:=Kh fun u hu=>h u (List.mem_cons_of_mem _ hu)
  rw[bf]
  lia
theorem Hl:∀{ts:`D}{t:T},t∈ts->t.parts<=aN ts
 |_::ts,t,h=>by
  rw[aK]
  rcases List.mem_cons.mp h with rfl|h
  ·lia
  ·have:=Hl h
   lia
theorem jO:∀{ts:`D}{t:T},t∈ts->t.deep+1<=bF ts
 |_::ts,t,h=>by
  rw[bf]
  rcases List.mem_cons.mp h with rfl|h
  ·lia
  ·have:=jO h
   lia
end T
open PySem PySem.Spec PyProof.Rows L2
abbrev Sg:=List (Option V)
def blk(X:Cx)(scope:Scope)(cl:List (Str×Addr))(C:Addr)(N:List Str)(s:Shared)(H:Hp)(fp:List Addr)(pins:`U):Cx:=
 {X with N:=N,s₀:=s,H₀:=H,env:=compEnvC scope cl C X.env,outer:=X.stack,ex:=fp,fn:=fun _=>false,calm:=true,pn:=X.pn++pins,xe:=fun _ _=>False}
def Fo(X:Cx)(scope:Scope):List Str->`F->Prop
 |[],[]=>True
 |y::fr,j::js=>(X.N[j]?=some y/\X.env.scope.names.lookup y=some .cell/\(relabel scope X.env).names.lookup y=some .cell)/\Fo X scope fr js
 |_,_=>False
theorem Fo.len{X:Cx}{scope:Scope}:∀{fr:List Str}{js:`F},Fo X scope fr js->fr.length=js.length
 |[],[],_=>rfl
 |_::_,_::_,h=>congrArg (· +1) (Fo.len h.2)
theorem Fo.get{X:Cx}{scope:Scope}:∀{fr:List Str}{js:`F},Fo X scope fr js->∀{i:Nat}{y:Str},fr[i]?=some y->
  ∃j:Nat,js[i]?=some j/\X.N[j]?=some y/\X.env.scope.names.lookup y=some .cell/\(relabel scope X.env).names.lookup y=some .cell
 |[],[],_,i,y,e=>by simp at e
 |z::fr,j::js,h,0,y,e=>by
  have e':z=y:=by simpa using e
  subst e'
  exact⟨j,rfl,h.1⟩
 |z::fr,j::js,h,i+1,y,e=>by
  obtain⟨k,h1,h2⟩:=Fo.get h.2 (i:=i) (y:=y) (by simpa using e)
  exact⟨k,by simpa using h1,h2⟩
structure Jh(X:Cx)(scope:Scope)(x:Str)(fr:List Str)(js:`F)(cl:List (Str×Addr)):Prop where
 kind:scope.kind=.function
 clos:closureFor scope X.env=pure cl
 cell:∀y∈scope.names,y.2≠.cell
 loc:∀y∈scope.names,y.2=.local->scope.names.lookup y.1=some .local
 var:scope.names.lookup x=some .local
 sub:∀y c,cl.lookup y=some c->X.env.cells.lookup y=some c
 has:∀y,((relabel scope X.env).names.lookup y=some .cell\/(relabel scope X.env).names.lookup y=some .free)->∃c,cl.lookup y=some c
 frk:Fo X scope fr js
 nd:(x::fr).Nodup
section
variable{X:Cx}{pins:`U}{σ:Sg}{H:Hp}{s:Shared}{scope:Scope}{cl:List (Str×Addr)}{x:Str}{fr:List Str}{js:`F}{fp:List Addr}
theorem aeP{N:List Str}(I:`J)(L:Jh X scope x fr js cl)(hc:X.calm=true)(hfp:∀b∈fp,FpOk X pins H b)(hsz:∀b∈fp,b<s.heap.objs.size):
  (blk X scope cl s.heap.objs.size N s H fp pins).Ok where
 mod:=I.ok.mod
 kind:=L.kind
 glob:=I.ok.glob
 blt:=I.ok.blt
 above:=`K
 inj:=fun y z c h1 h2=>I.ok.inj y z c (L.sub y c h1) (L.sub z c h2)
 has:=fun y hy=>L.has y hy
 cab:=fun y c h _=>absurd (show false=true from h) Bool.false_ne_true
 hd:=fun _=>I.ok.hd hc
 frames:=I.ok.frames
 stk:=.inl rfl
 exf:=fun b hb=>⟨Nat.ne_of_lt (hsz b hb),fun y c h=>(hfp b hb).2.2.2.2.1 y c (L.sub y c h)⟩
 bs:=I.bs
 bsz:=Nat.le_trans I.ok.bsz I.sz
 noex:=fun b o e hb=>by
  rcases(hfp b hb).2.2.2.1 with z|z
  ·exact I.ok.noex b o e z
  ·exact absurd (Nat.lt_of_lt_of_le (Nat.lt_of_lt_of_le (Heap.lt_size e) I.ok.bsz) z) (Nat.lt_irrefl _)
 exfs:=fun b hb z=>by
  rcases List.mem_cons.mp (I.stkSub b z)with e|e
  ·exact(hfp b hb).2.1 e
  ·exact(hfp b hb).2.2.1 e
 funs:=I.stack
 frf:=I.stkFree
def frv(σ:Sg)(js:`F):Sg:=js.map fun j=>(σ[j]?).getD none
theorem ajc{h1:Heap}{m1:`Y}{tk:Nat}(I:`J)(L:Jh X scope x fr js cl)(hc:X.calm=true)(hfp:∀b∈fp,FpOk X pins H b)(hsz:∀b∈fp,b<s.heap.objs.size)
  (hn:h1.Ns s.heap.objs.size m1)(hk:∀b o,s.heap.get? b=some o->h1.get? b=some o):
  Inv (blk X scope cl s.heap.objs.size (x::fr) s H fp pins) [] (none::frv σ js) H {s with heap:=h1,toks:=tk}:=by
 refine⟨aeP I L hc hfp hsz,rfl,I.bare,Un.kept hk,⟨m1,hn,fun i y v e1 e2 _=>?_⟩,fun y c e=>?_,I.hok.fresh `K,fun y c e=>I.freeC y c (L.sub y c e),fun p hp=>?_,I.hok.kept hk,?_⟩
 ·cases i with
  |zero=>exact absurd e2 `G
  |succ i=>
   have e1':fr[i]?=some y:=by simpa[blk]using e1
   obtain⟨j,hj,hN,hcell,hrel⟩:=L.frk.get e1'
   have e2':σ[j]?=some (some v):=by
    have q:(frv σ js)[i]?=some (some v):=by simpa using e2
    unfold frv at q
    rw[List.getElem?_map,hj]at q
    have q':(σ[j]?).getD none=some v:=by simpa using q
    cases hs:σ[j]? with
    |none=>rw[hs]at q';cases q'
    |some o=>rw[hs]at q';exact congrArg some q'
   obtain⟨m,_,hl⟩:=I.loc
   obtain⟨u,r,lk⟩:=hl j y v hN e2' (.inr (.inl hcell))
   refine⟨u,r,.inr ⟨.inl hrel,?_⟩⟩
   rcases lk with⟨hloc,_⟩|⟨_,c,hc1,hc2⟩
   ·have:X.env.scope.names.lookup y=some .local:=hloc
    rw[hcell]at this;cases this
   ·obtain⟨c',hc'⟩:=L.has y (.inl hrel)
    have e3:=L.sub y c' hc'
    rw[hc1]at e3;cases e3
    exact⟨c,hc',hc2.keeps hk⟩
 ·obtain⟨v,hv⟩:=I.cell y c (L.sub y c e)
  exact⟨v,hv.keeps hk⟩
 ·have hp':p∈X.pn++pins:=by simpa[blk]using hp
  obtain⟨a1,a2,a3,a4,a5⟩:=I.pin p hp'
  refine⟨hk _ _ a1,a2,Nat.ne_of_lt (Heap.lt_size a1),fun z=>?_,a5⟩
  rcases List.mem_cons.mp (I.stkSub _ z)with e|e
  ·exact a3 e
  ·exact a4 e
 ·show(none::frv σ js).length=(x::fr).length
  simp[frv,L.frk.len]
theorem YJ{H':Hp}{s':Shared}{h':Heap}{σ':Sg}{N:List Str}{pins':`U}(I:`J)(J:Inv (blk X scope cl s.heap.objs.size N s H fp pins) pins' σ' H' s')(hfp:∀b∈fp,FpOk X pins H b)
  (hsb:Heap.SameBut s.heap.objs.size s'.heap h'):Inv X pins σ H' {s' with heap:=h'}:=by
 have hos:s'.os=s.os:=J.os
 have nC:H' s.heap.objs.size=none:=J.free
 have kp:∀b,b≠s.heap.objs.size->h'.get? b=s'.heap.get? b:=hsb.2
 have low:∀b o,s.heap.get? b=some o->b≠s.heap.objs.size:=fun b o e=>Nat.ne_of_lt (Heap.lt_size e)
 have u:Un (frs X.stack) fp H H' s.heap h':=by
  have u0:Un (frs X.stack) fp H H' s.heap s'.heap:=J.base
  exact⟨fun b o e n h1 h2=>(kp b (low b o e)).trans (u0.keep b o e n h1 h2),fun b o e n h1 h2=>by
    obtain⟨sl,q⟩:=u0.slot b o e n h1 h2
    exact⟨sl,(kp b (low b o e)).trans q⟩,u0.free,fun b o e h1=>by
    obtain⟨o',q⟩:=u0.there b o e h1
    exact⟨o',(kp b (low b o e)).trans q⟩,u0.tups,u0.frzs,u0.tbls⟩
 have hok:HOk X.prog X.w H' h':=fun b o e=>by
  refine(J.hok b o e).stay (fun c v hc q=>(kp c ?_).trans q) (fun _ q=>q) fun _ _ q=>q
  rcases hc with z|z
  ·rw[z];intro z';rw[z',nC]at e;cases e
  ·intro z';rw[z',nC]at z;cases z
 have q:=I.call (g':=s'.gens) (t':=s'.toks) (d':=s'.drawn) u hok J.bare fun b hb=>⟨(hfp b hb).2.2.2.1,(hfp b hb).2.1,(hfp b hb).2.2.2.2.1,(hfp b hb).2.2.2.2.2⟩
 obtain⟨hp,g,d,tk,os⟩:=s'
 have:os=s.os:=hos
 subst this
 exact q
end
def Fl(J:It)(js:`F)(te:TE)(σ:Sg)(Q:VK)(H1:Hp):Prop:=∀D,H1 D=none->
 ∃W:Nat->Nat->`E->`M,(∃m,W 0 m [] (upd H1 D (.lst [])))/\∀i m ys H',W i m ys H'->H' D=some (.lst ys)/\
  ((J.stop i H'/\Q (.ref D) H')\/(J.go i H'/\∀x H2,J.yld i H' x H2->te (some x::frv σ js) H2 fun y H3=>H3 D=some (.lst ys)/\ys.length<sizeLine/\
   ∃m',m'<m/\W (i+1) m' (ys++[y]) (upd H3 D (.lst (ys++[y])))))
def tLC(wi:TI)(js:`F)(te:TE):TE:=fun σ H Q=>wi σ H fun J H1=>Fl J js te σ Q H1
section
variable{X:Cx}{scope:Scope}{cl:List (Str×Addr)}{x:Str}{fr:List Str}{js:`F}{elt iter:Expr}{px pos:Pos}{wi:TI}{te:TE}
theorem abk{prog:Program}{w:World}{A:Around}{R:Result->Shared->Prop}{s:Shared}{tg:Expr}{it acc:Value}{env:Env}(Iv:Nat->Shared->Prop)
  (turn:∀n s,Iv n s->wpAny `b A (pyNext it) (fun r s1=>match r with
   |none=>R (.ok .next) s1
   |some v=>wpAny `b A (letOwnedTupleGo tg it v) (fun _ s2=>wpAny `b A (assign tg env v) (fun _ s3=>wpAny `b A (eval elt env) (fun y s4=>
     wpAny `b A (call (.builtin "list.append") [acc,y]) (fun _ s5=>∃m,m<n/\Iv m s5) (fun _ _=>False) s4) (fun _ _=>False) s3) (fun _ _=>False) s2) (fun _ _=>False) s1) (fun _ _=>False) s)
  (n:Nat)(h:Iv n s):codeAny `b A (.compLoop (.ListComp elt [⟨tg,iter,[],0⟩] scope pos) 0 it acc env) R s:=by
 refine codeAny_loop rfl Iv (fun n s hI=>?_) n h
 refine wpAny_noted ?_
 rw[compTurn_list1]
 refine wpAny_bind (wpAny_standAt (wpAny_bind (wpAny_mono (turn n s hI) (fun r s1 h1=>?_) fun _ _ z=>z.elim)))
 cases r with
 |none=>exact wpAny_pure h1
 |some v=>
  refine wpAny_bind (wpAny_mono h1 (fun _ s2 h2=>?_) fun _ _ z=>z.elim)
  refine wpAny_bind (wpAny_mono h2 (fun _ s3 h3=>?_) fun _ _ z=>z.elim)
  refine wpAny_bind (wpAny_bind (wpAny_mono h3 (fun y s4 h4=>?_) fun _ _ z=>z.elim))
  refine wpAny_bind (wpAny_mono h4 (fun _ s5 h5=>?_) fun _ _ z=>z.elim)
  exact wpAny_pure (wpAny_pure ⟨rfl,h5⟩)
theorem al3(hc:X.calm=true)(L:Jh X scope x fr js cl)(hi:PI X (.Name x px) iter wi)
  (he:∀C s H fp pins,PE (blk X scope cl C (x::fr) s H fp pins) elt te)
  (hs:∀v,foldedSetIterable iter X.env v=pure v:=by intro _;rfl):
  PE X (.ListComp elt [⟨.Name x px,iter,[],0⟩] scope pos) (tLC wi js te):=by
 intro pins s σ H Q I h
 rw[eval_ListComp]
 refine wpAny_comprehension_free (use:=none) rfl hs L.clos L.kind L.loc (thn (hi pins s σ H _ I h) fun v s1 h1=>thn h1 fun itv s2 h2=>?_)
 obtain⟨it,fp,tn,J,H2,e,I2,T,st2,f2,rd⟩:=h2
 subst e
 obtain⟨W,⟨m0,w0⟩,turn⟩:=rd _ I2.fresh
 have I3:=I2.lnew (ys:=[]) (its:=[]) (t':=s2.toks) .nil `W
 refine wpAny_newObj_type ?_
 have X8:∀b∈fp,b<s2.heap.objs.size:=fun b hb=>by
  obtain⟨o,ho,_⟩:=T.obj 0 _ st2 b hb
  exact Heap.lt_size ho
 generalize hs3:({s2 with heap:=s2.heap.push {cls:=.type "list",dict:=none,data:=.seq ([]:`L).toArray}}:Shared)=s3
 have I3':Inv X pins σ (upd H2 s2.heap.objs.size (.lst [])) s3:=by rw[<-hs3];exact I3
 have sz3:s3.heap.objs.size=s2.heap.objs.size+1:=by rw[<-hs3];exact Heap.size_push ..
 have k23:∀b o,s2.heap.get? b=some o->s3.heap.get? b=some o:=fun b o e=>by rw[<-hs3];exact Heap.get?_push_of_some _ e
 have fsz:∀b∈fp,b<s3.heap.objs.size:=fun b hb=>by rw[sz3];exact Nat.lt_succ_of_lt (X8 b hb)
 have f3:∀b∈fp,FpOk X pins (upd H2 s2.heap.objs.size (.lst [])) b:=fun b hb=>⟨by rw[upd_ne (Nat.ne_of_lt (X8 b hb))];exact(f2 b hb).1,(f2 b hb).2⟩
 refine wpAny_newFunctionEnv L.cell (by intro y hy;simp at hy) (fun h4 hn4 agR=>?_) L.kind
 have k34:∀b o,s3.heap.get? b=some o->h4.get? b=some o:=fun b o e=>(agR.2 b (Nat.ne_of_lt (Heap.lt_size e))).trans (Heap.get?_push_of_some _ e)
 generalize hX':blk X scope cl s3.heap.objs.size (x::fr) s3 (upd H2 s2.heap.objs.size (.lst [])) fp pins=X'
 have I4:Inv X' [] (none::frv σ js) (upd H2 s2.heap.objs.size (.lst [])) {s3 with heap:=h4,toks:=s3.toks+([]:List (Str×Value)).length}:=by
  rw[<-hX'];exact ajc I3' L hc f3 fsz hn4 k34
 have st4:tn 0 h4:=T.keep _ _ _ st2 fun b _ o e=>k34 b o (k23 b o e)
 have he':PE X' elt te:=by rw[<-hX'];exact he _ _ _ _ _
 have xp:X'.prog=X.prog:=by rw[<-hX'];rfl
 have xw:X'.w=X.w:=by rw[<-hX'];rfl
 have xK:X'.K=X.K:=by rw[<-hX'];rfl
 have xA:X'.A=X.A:=by rw[<-hX'];rfl
 have xc:X'.calm=true:=by rw[<-hX'];rfl
 have xe:X'.xe=fun _ _=>False:=by rw[<-hX'];rfl
 have xn:X'.N=x::fr:=by rw[<-hX'];rfl
 have xv:X'.env=compEnvC scope cl s3.heap.objs.size X.env:=by rw[<-hX'];rfl
 have xpn:X'.pn=X.pn++pins:=by rw[<-hX'];rfl
 have xex:X'.ex=fp:=by rw[<-hX'];rfl
 have xfs:X'.fs=frs X.stack:=by rw[<-hX'];rfl
 have back:∀{H':Hp}{s':Shared}{h':Heap}{σ':Sg},Inv X' [] σ' H' s'->Heap.SameBut s3.heap.objs.size s'.heap h'->Inv X pins σ H' {s' with heap:=h'}:=fun{H' s' h' σ'}J' hsb=>by
  rw[<-hX']at J';exact YJ I3' J' f3 hsb
 have frame:∀b∈fp,b∉frs X.stack:=fun b hb z=>by
  rcases List.mem_cons.mp (I3'.stkSub b z)with e|e
  ·exact(f3 b hb).2.1 e
  ·exact(f3 b hb).2.2.1 e
 have stat:∀{H':Hp},(∀b∈fp,H' b=none)->∀b∈fp,FpOk X' [] H' b:=fun{H'}hn b hb=>by
  refine⟨hn b hb,?_,?_,.inl (by rw[xex];exact hb),?_,?_⟩
  ·rw[xv];exact Nat.ne_of_lt (fsz b hb)
  ·rw[xfs];exact frame b hb
  ·rw[xv];exact fun y c e=>(f3 b hb).2.2.2.2.1 y c (L.sub y c e)
  ·rw[xpn,List.append_nil];exact(f3 b hb).2.2.2.2.2
 have loop:codeAny `X X.A (.compLoop (.ListComp elt [⟨.Name x px,iter,[],0⟩] scope pos) 0 (.ref it) (.ref s2.heap.objs.size) (compEnvC scope cl s3.heap.objs.size X.env))
   (compPost `X X.A X.xe none (EP X pins σ Q) (.ref s2.heap.objs.size) s3.heap.objs.size) {s3 with heap:=h4,toks:=s3.toks+([]:List (Str×Value)).length}:=by
  refine abk (fun n s'=>∃i ys o H',Inv X' [] (o::frv σ js) H' s'/\tn i s'.heap/\(∀b∈fp,H' b=none)/\W i n ys H') ?_ m0 ⟨0,[],none,_,I4,st4,fun b hb=>(f3 b hb).1,w0⟩
  rintro n s5⟨i,ys,o,H5,I5,st5,fr5,w5⟩
  obtain⟨hD,hstep⟩:=turn i n ys H5 w5
  rcases hstep with⟨stop,qn⟩|⟨go,step⟩
  ·have q:=T.done X' xp xw xK xc i [] s5 _ H5 (fun _ _=>False) I5 (stat fr5) st5 stop
   rw[xA]at q
   refine thn q fun r s6⟨hr,I6⟩=>?_
   subst hr
   obtain⟨m6,hn6,_⟩:=I6.loc
   rw[xv]at hn6
   exact⟨m6,hn6,fun h' hsb=>⟨.ref s2.heap.objs.size,H5,back I6 hsb,rfl,qn⟩⟩
  ·have q:=T.item X' xp xw xK xc i [] s5 _ H5 (fun _ _=>False) I5 (stat fr5) st5 go
   rw[xA]at q
   refine thn q fun r s6⟨u,hr,h6⟩=>?_
   subst hr
   refine thn h6 fun _ s7⟨xx,H7,I7,r7,y7,st7,fr7⟩=>?_
   have I7':=I7.pinned (stat fr7) (T.obj _ _ st7)
   have hg:PG X' (.Name x px) (gName 0):=by
    refine pg_name (i:=0) (x:=x) (by rw[xn];exact L.nd) (by rw[xn];rfl) ?_ ?_
    ·rw[xv];exact .inl (lookup_relabel_local L.var)
    ·rw[xv];exact .inr (lookup_relabel_local L.var)
   have q7:=hg _ s7 _ H7 xx u (fun σ8 H8=>σ8=some xx::frv σ js/\H8=H7) I7' r7 ⟨rfl,rfl⟩
   rw[xp,xw,xA,xe,xv]at q7
   refine thn q7 fun _ s8⟨σ8,H8,I8,e8,e8'⟩=>?_
   subst e8 e8'
   have q8:=he' _ s8 _ _ _ I8 (step xx _ y7)
   rw[xp,xw,xA,xe,xv]at q8
   refine thn q8 fun yv s9⟨y,H9,I9,r9,d9,z9,m9,hm9,w9⟩=>?_
   have q9:=bW (X:=X') _ s9 _ H9 (.ref s2.heap.objs.size) [y] (.ref s2.heap.objs.size) [yv] (fun z H'=>H'=upd H9 s2.heap.objs.size (.lst (ys++[y]))) I9 rfl (.cons r9 .nil) ⟨_,ys,y,rfl,rfl,d9,z9,rfl⟩
   rw[xp,xw,xA,xe]at q9
   refine thn q9 fun _ s10⟨_,H10,I10,_,e10⟩=>?_
   subst e10
   refine⟨m9,hm9,i+1,ys++[y],some xx,_,I10.unpinned,T.keep _ _ _ st7 fun b hb ob e=>(I10.pin (b,ob) (List.mem_append_right _ (List.mem_append_right _ (mem_pinsAt hb e)))).1,fun b hb=>?_,w9⟩
   obtain⟨ob,e,_⟩:=T.obj _ _ st7 b hb
   exact(I10.pin (b,ob) (List.mem_append_right _ (List.mem_append_right _ (mem_pinsAt hb e)))).2.1
 exact codeAny_compStart_list loop (T.self _ 0 _ _ _ st4 loop)
end
def uD(cells:List (Str×Addr)):List (Str×NameKind)->List (Str×Addr)->List (Str×Addr)
 |[],acc=>acc
 |(n,.free)::r,acc=>match cells.lookup n with
  |some c=>uD cells r ((n,c)::acc)
  |none=>uD cells r acc
 |(_,_)::r,acc=>uD cells r acc
theorem Ij{cells:List (Str×Addr)}{n:Str}{k:NameKind}{r:List (Str×NameKind)}{acc:List (Str×Addr)}(h:k≠.free):uD cells ((n,k)::r) acc=uD cells r acc:=by
 cases k<;>first|rfl|exact absurd rfl h
theorem Ik{cells:List (Str×Addr)}{n:Str}{c:Addr}{r:List (Str×NameKind)}{acc:List (Str×Addr)}(h:cells.lookup n=some c):uD cells ((n,.free)::r) acc=uD cells r ((n,c)::acc):=by
 rw[uD,h]
theorem Nz{cells:List (Str×Addr)}:∀{names:List (Str×NameKind)}{acc:List (Str×Addr)},(∀y∈names,y.2=.free->∃c,cells.lookup y.1=some c)->(∀y c,acc.lookup y=some c->cells.lookup y=some c)->
  ∀y c,(uD cells names acc).lookup y=some c->cells.lookup y=some c
 |[],_,_,h,y,c,e=>h y c e
 |(n,k)::r,acc,hf,h,y,c,e=>by
  have hr:∀y∈r,y.2=.free->∃c,cells.lookup y.1=some c:=fun y hy=>hf y (List.mem_cons_of_mem _ hy)
  by_cases hk:k=.free
  ·subst hk
   obtain⟨d,hd⟩:=hf (n,.free) List.mem_cons_self rfl
   rw[Ik hd]at e
   refine Nz hr (fun z b hz=>?_) y c e
   rw[List.lookup_cons]at hz
   cases hzn:z==n with
   |true=>
    rw[hzn]at hz
    have:z=n:=eq_of_beq hzn
    rw[this,hd]
    exact hz
   |false=>
    rw[hzn]at hz
    exact h z b hz
  ·rw[Ij hk]at e
   exact Nz hr h y c e
theorem NK{cells:List (Str×Addr)}:∀{names:List (Str×NameKind)}{acc:List (Str×Addr)},(∀y∈names,y.2=.free->∃c,cells.lookup y.1=some c)->
  ∀y:Str,((y,NameKind.free)∈names\/∃c,acc.lookup y=some c)->∃c,(uD cells names acc).lookup y=some c
 |[],_,_,y,h=>by
  rcases h with h|h
  ·simp at h
  ·exact h
 |(n,k)::r,acc,hf,y,h=>by
  have hr:∀y∈r,y.2=.free->∃c,cells.lookup y.1=some c:=fun y hy=>hf y (List.mem_cons_of_mem _ hy)
  by_cases hk:k=.free
  ·subst hk
   obtain⟨d,hd⟩:=hf (n,.free) List.mem_cons_self rfl
   rw[Ik hd]
   refine NK hr y ?_
   by_cases hyn:y=n
   ·subst hyn
    exact .inr ⟨d,by simp[List.lookup_cons]⟩
   ·rcases h with h|⟨c,h⟩
    ·rcases List.mem_cons.mp h with e|e
     ·exact absurd (congrArg Prod.fst e) hyn
     ·exact .inl e
    ·refine .inr ⟨c,?_⟩
     rw[List.lookup_cons]
     have:(y==n)=false:=by simpa using hyn
     rw[this]
     exact h
  ·rw[Ij hk]
   refine NK hr y ?_
   rcases h with h|h
   ·rcases List.mem_cons.mp h with e|e
    ·exact absurd (congrArg Prod.snd e).symm hk
    ·exact .inl e
   ·exact .inr h
theorem acW{scope:Scope}{env:Env}(hf:∀y∈scope.names,y.2=.free->∃c,env.cells.lookup y.1=some c):closureFor scope env=pure (uD env.cells scope.names []):=by
 have key:∀(names:List (Str×NameKind))(acc:List (Str×Addr)),(∀y∈names,y.2=.free->∃c,env.cells.lookup y.1=some c)->
   (forIn names acc fun(x:Str×NameKind)(cs:List (Str×Addr))=>(match x with|(name,kind)=>if(kind==NameKind.free)=true then(cellOf env name>>=fun a=>pure (ForInStep.yield ((name,a)::cs)))else pure (ForInStep.yield cs):Sem (ForInStep (List (Str×Addr)))))=pure (uD env.cells names acc):=by
  intro names
  induction names with
  |nil=>intro acc _;rfl
  |cons x r ih=>
   intro acc h
   obtain⟨n,k⟩:=x
   have hr:∀y∈r,y.2=.free->∃c,env.cells.lookup y.1=some c:=fun y hy=>h y (List.mem_cons_of_mem _ hy)
   rw[List.forIn_cons]
   by_cases hk:k=.free
   ·subst hk
    obtain⟨d,hd⟩:=h (n,.free) List.mem_cons_self rfl
    have hc:cellOf env n=pure d:=by unfold cellOf;rw[hd]
    rw[Ik hd,<-ih _ hr]
    simp only[beq_self_eq_true,if_true,hc,pure_bind]
   ·have hb:(k==NameKind.free)=false:=by simpa using hk
    rw[Ij hk,<-ih _ hr]
    simp only[hb,Bool.false_eq_true,if_false,pure_bind]
 have:=key scope.names [] hf
 unfold closureFor
 simp only[bind_pure_comp,map_pure]at this|-
 first
  |exact this
  |(rw[this];rfl)
  |(simp only[this];rfl)
theorem wU{X:Cx}{scope sc:Scope}{x:Str}{fr:List Str}{js:`F}(hk:scope.kind=.function)(hsc:X.env.scope=sc)(hkf:sc.kind=.function)
  (hcell:∀y∈scope.names,y.2≠.cell)(hloc:∀y∈scope.names,y.2=.local->scope.names.lookup y.1=some .local)(aqn:scope.names.lookup x=some .local)
  (hfree:∀y∈scope.names,y.2=.free->sc.names.lookup y.1=some .cell)(hfr:Fo X scope fr js)(hnd:(x::fr).Nodup)
  (hcs:∀y,X.env.scope.names.lookup y=some .cell->∃c,X.env.cells.lookup y=some c):Jh X scope x fr js (uD X.env.cells scope.names []):=by
 have hall:∀y∈scope.names,y.2=.free->∃c,X.env.cells.lookup y.1=some c:=fun y hy e=>hcs _ (by rw[hsc];exact hfree y hy e)
 refine⟨hk,acW hall,hcell,hloc,aqn,Nz hall fun y c e=>by simp at e,fun y hy=>NK hall y (.inl ?_),hfr,hnd⟩
 have get:∀k,(k=NameKind.cell\/k=NameKind.free)->(relabel scope X.env).names.lookup y=some k->(y,NameKind.free)∈scope.names:=fun k hkk e=>by
  have hm:=PySem.mem_of_lookup e
  unfold relabel at hm
  obtain⟨⟨n,k0⟩,hin,heq⟩:=List.mem_map.mp hm
  dsimp only at heq
  split at heq
  ·rename_i hc
   have e1:n=y:=congrArg Prod.fst heq
   have e2:k0=.free:=by
    rw[Bool.and_eq_true,Bool.and_eq_true]at hc
    exact eq_of_beq hc.1.1
   rw[<-e1,<-e2]
   exact hin
  ·have e1:n=y:=congrArg Prod.fst heq
   have e2:k0=k:=congrArg Prod.snd heq
   rcases hkk with z|z
   ·exact absurd (by rw[e2,z]) (hcell _ hin)
   ·rw[<-e1,<-z,<-e2]
    exact hin
 rcases hy with h|h
 ·exact get _ (.inl rfl) h
 ·exact get _ (.inr rfl) h
theorem same_new{H:Hp}{p:Addr}(h:H p=none)(o:HO):Same H (upd H p o):=fun b u q=>by rw[upd_ne (ne_of_none q h)];exact q
structure Kt(H H':Hp):Prop where
 t:∀b xs,H b=some (.tup xs)->H' b=some (.tup xs)
 f:∀b o u,H b=some (.frz o u)->H' b=some (.frz o u)
theorem Kt.of{H H':Hp}(S:`N):Kt H H':=⟨fun b _ e=>S b _ e,fun b _ _ e=>S b _ e⟩
theorem Kt.refl(H:Hp):Kt H H:=⟨fun _ _ e=>e,fun _ _ _ e=>e⟩
theorem Kt.trans{H H1 H2:Hp}(a:Kt H H1)(b:Kt H1 H2):Kt H H2:=⟨fun _ _ e=>b.t _ _ (a.t _ _ e),fun _ _ _ e=>b.f _ _ _ (a.f _ _ _ e)⟩
theorem Kt.new{H:Hp}{p:Addr}{o:HO}(h:H p=none):Kt H (upd H p o):=.of (same_new h o)
theorem Kt.lst{H:Hp}{p:Addr}{ys:`E}{o:HO}(h:H p=some (.lst ys)):Kt H (upd H p o):=
 ⟨fun b xs e=>by rw[upd_ne (ne_of e h (fun z=>by cases z))];exact e,fun b o' u e=>by rw[upd_ne (ne_of e h (fun z=>by cases z))];exact e⟩
theorem cO{K:W.Frag}{H H':Hp}{a:Addr}{xs:`E}(S:Kt H H')(h:SqT K H a xs):SqT K H' a xs:=by
 rcases h with(h|⟨o,h⟩)|h
 ·exact .inl (.inl (S.t _ _ h))
 ·exact .inl (.inr ⟨o,S.f _ _ _ h⟩)
 ·exact .inr h
theorem bN{H H':Hp}{p:Addr}{o:HO}(S:`N)(h:H p=none):Same H (upd H' p o):=fun b u q=>by rw[upd_ne (ne_of_none q h)];exact S b u q
section
variable{X:Cx}
theorem HB(l:Addr)(items:Array Value)(n:Nat)(b:Addr)(items2:Array Value)(n2:Nat)(dd:Option Addr)(sl:`f)
  (h0:¬(!items.isEmpty&&Builtin.List.listTooLong (items.size+items2.size))=true)(h1:items.size<=sizeLine)(h2:items.size+items2.size<=sizeLine+1):
  Meets (Builtin.«list.extend» ⟨[.ref l,.ref b],[]⟩) (fun _ R s=>s.heap.get? l=some {cls:=.type "list",dict:=none,data:=.seq items n,slots:=#[]}/\
   s.heap.get? b=some {cls:=`a,dict:=dd,data:=.seq items2 n2,slots:=sl}/\R (.ok (.ret Value.none)) {s with heap:=s.heap.update l (Obj.mapSeq fun x=>x++items2),toks:=s.toks}):=
 .of_wp fun prog w A R s h=>by
  obtain⟨hp,g,d,tk,os⟩:=s
  obtain⟨hl,hb,h⟩:=h
  have f1:=AutoSeq1.idx_int
  have f2:=AutoSeq1.sub_tuple_tuple
  have f3:=AutoSeq1.sub_list_list
  have f4:=AutoSeq1.sub_tuple_list
  have f5:=AutoSeq1.sub_list_tuple
  have hz':(items++items2).size<=sizeLine+1:=by
   rw[Array.size_append]
   exact h2
  wp_walk using(wpAny_updateSeq hl rfl (hz:=h1) (_hz':=hz')),AutoSeq1.wpAny_loadPart' hl,AutoSeq1.wpAny_loadPart' hb
  exact⟨_,rfl,h⟩
def alY(K:W.Frag):V->`E->Hp->VK->Prop:=fun x vs H Q=>∃l b xs zs,x=.ref l/\vs=[.ref b]/\H l=some (.lst xs)/\SqT K H b zs/\xs.length+zs.length<=sizeLine/\Q .non (upd H l (.lst (xs++zs)))
theorem abg:MtM X "list.extend" (alY X.K):=by
 intro pins s σ H x vs v us Q I rx rv h
 obtain⟨l,b,xs,zs,rfl,rfl,hH,hB,hz,q⟩:=h
 cases rx
 obtain⟨u,rfl,ru⟩:=rv.one
 cases ru
 obtain⟨z,its,n,r,hl,e⟩:=I.lstM hH
 obtain⟨its2,r2,⟨⟨c2,d2,dt2,sl2⟩,e2,hc2,n2,hd2⟩,z2⟩:=I.tuple hB
 have hl2:=r2.length
 simp only at hc2 hd2
 subst hc2 hd2
 have hsz:its.toArray.size+its2.toArray.size<=sizeLine:=by rw[List.size_toArray,List.size_toArray];lia
 have PB:¬(!its.toArray.isEmpty&&Builtin.List.listTooLong (its.toArray.size+its2.toArray.size))=true:=by
  rw[Dz hsz,Bool.and_false]
  exact Bool.false_ne_true
 refine call_meets F.slot_list_extend ⟨_,e,rfl⟩ F.entry_list_extend (F.args_list_extend_2 _ _)
  (HB l its.toArray n b its2.toArray n2 d2 sl2 PB (by rw[List.size_toArray];lia) `A) ⟨e,e2,?_⟩
 refine⟨.non,_,I.RN (its':=its++its2) hH e `G (r.append r2) ?_,rfl,q⟩
 rw[List.length_append]
 lia
theorem Ga{prog:Program}{w:World}{A:Around}{E:`V}{s:Shared}{t sl:Addr}{items:Array Value}{vl vu:Value}{lo hi:Option Int}{Q:`V}
  (ht:IsTup s.heap t items)(hs:s.heap.IsSliceOf sl vl vu .none)(pl:IsPart vl lo)(pu:IsPart vu hi)
  (h1:HT.sIx items.size 0 lo=0)(h2:HT.sIx items.size items.size hi=items.size)(h:Q (.ref t) s):wpAny `b A (getItem (.ref t) (.ref sl)) Q E s:=by
 obtain⟨os,hos,hcs,hds⟩:=id hs
 have hTs:s.TypeIs (.ref sl) "slice":=⟨os,hos,hcs⟩
 unfold getItem
 try with_reducible refine wpAny_holding ?_
 first|refine wpAny_bind (wpAny_pure ?_)|skip
 refine wpAny_bind (wpAny_sequenceKey ht.typeIs `B ?_)
 refine wpAny_bind (wpAny_callSpecial?_slot (name:=Str.ofString "__getitem__") ht.typeIs PyProof.Rows.slot_tuple_getitem
  (wpAny_call_entry PyProof.Rows.slot_tuple_getitem ht.typeIs entry_tuple_getitem ?_ (args_tuple_getitem _ _)))
 show wpAny _ _ (Builtin.Tuple.tupleItemsOf (.ref t)>>=_) _ _ s
 refine wpAny_bind (tupleItemsOf_ ht ?_)
 refine wpAny_bind (wpAny_typeOf hTs ?_)
 rw[if_pos `B]
 refine wpAny_bind (HT.xP hs pl pu ?_)
 have hyes:(((HT.sIx items.size 0 lo:Nat):Int)==0&&(1:Int)==1&&(HT.sIx items.size items.size hi-HT.sIx items.size 0 lo)==items.size)=true:=by
  rw[h1,h2]
  simp
 show wpAny _ _ (if(((HT.sIx items.size 0 lo:Nat):Int)==0&&(1:Int)==1&&(HT.sIx items.size items.size hi-HT.sIx items.size 0 lo)==items.size)=true then _ else _) _ _ s
 rw[if_pos hyes]
 unfold Builtin.Tuple.tupleIsExact
 refine wpAny_bind (wpAny_bind (wpAny_typeOf ht.typeIs (wpAny_pure ?_)))
 rw[if_pos `B]
 refine wpAny_bind (wpAny_rule ?_)
 exact wpAny_pure ⟨_,rfl,wpAny_pure h⟩
def alW(K:W.Frag):V->Option Int->Option Int->Hp->VK->Prop:=fun x lo hi H Q=>∃a xs,x=`I/\SqT K H a xs/\
 HT.sIx xs.length 0 lo=0/\HT.sIx xs.length xs.length hi=xs.length/\Q `I H
theorem ahY:SlR X (alW X.K):=by
 intro pins s σ H x v vl vu lo hi sl Q I rx hs pl pu h
 obtain⟨a,xs,rfl,hx,w1,w2,q⟩:=h
 cases rx
 obtain⟨its,r,ht,hz⟩:=I.tuple hx
 have hlen:its.toArray.size=xs.length:=by rw[List.size_toArray];exact r.length.symm
 refine⟨"tuple",_,PyProof.Rows.slot_tuple_getitem.lookup,ht.typeIs,?_⟩
 exact Ga ht hs pl pu (by rw[hlen];exact w1) (by rw[hlen];exact w2) ⟨`I,H,I,rfl,q⟩
def ab2(K:W.Frag):V->Option Int->Option Int->Hp->VK->Prop:=fun x lo hi H Q=>∃a xs,x=`I/\SqT K H a xs/\∀p H',`N->SqT K H' p (jT xs lo hi)->Q (.ref p) H'
theorem acT{xs:`E}{lo hi:Option Int}(h1:HT.sIx xs.length 0 lo=0)(h2:HT.sIx xs.length xs.length hi=xs.length):jT xs lo hi=xs:=by
 unfold jT
 rw[h1,h2]
 simp
theorem Bx:SlR X (ab2 X.K):=by
 intro pins s σ H x v vl vu lo hi sl Q I rx hs pl pu h
 obtain⟨a,xs,rfl,hx,q⟩:=h
 by_cases hw:HT.sIx xs.length 0 lo=0/\HT.sIx xs.length xs.length hi=xs.length
 ·exact ahY pins s σ H _ v vl vu lo hi sl Q I rx hs pl pu ⟨a,xs,rfl,hx,hw.1,hw.2,q a H (Same.refl H) (by rw[acT hw.1 hw.2];exact hx)⟩
 ·exact ajH pins s σ H _ v vl vu lo hi sl Q I rx hs pl pu ⟨a,xs,rfl,hx,hw,fun p hp=>q p _ (same_new hp _) (SqT.of upd_same)⟩
theorem Am:CallR X (.builtin "isinstance") (fun xs H Q=>∃x T t b,xs=[x,.ty T]/\TyOf X.K H x t/\W.kitOne X.K t (.type T)=some b/\Q (.bl b) H):=by
 intro pins s σ H xs us Q I r h
 obtain⟨x,T,t,b,rfl,ty,e,q⟩:=h
 obtain⟨u,w',rfl,r1,r2⟩:=vals2 r
 cases r2
 exact Uw I r1 ty e fun tk=>⟨.bl b,H,I.tok tk,rfl,q⟩
theorem Ip:CallR X (.builtin "isinstance") (fun xs H Q=>∃a ys T b,xs=[`I,.ty T]/\SqT X.K H a ys/\W.kitOne X.K `a (.type T)=some b/\Q (.bl b) H):=by
 intro pins s σ H xs us Q I r h
 obtain⟨a,ys,T,b,rfl,hq,e,q⟩:=h
 obtain⟨u,w',rfl,r1,r2⟩:=vals2 r
 cases r1
 cases r2
 obtain⟨its,_,⟨o,h1,h2,_⟩,_⟩:=I.tuple hq
 exact W.kia_one W.kitx_tuple I.kIn ⟨o,h1,h2⟩ e (fun z=>nomatch z) fun tk=>⟨.bl b,H,I.tok tk,rfl,q⟩
end
mutual
def TR(K:W.Frag)(H:Hp):T->V->Prop
 | .node ts,x=>∃a xs,x=`I/\SqT K H a xs/\TRs K H ts xs
def TRs(K:W.Frag)(H:Hp):`D->`E->Prop
 |[],xs=>xs=[]
 |t::ts,xs=>∃x r,xs=x::r/\TR K H t x/\TRs K H ts r
end
section
variable{K:W.Frag}{H H':Hp}
theorem cB{ts:`D}{x:V}:TR K H (.node ts) x↔∃a xs,x=`I/\SqT K H a xs/\TRs K H ts xs:=by rw[TR]
theorem bH{xs:`E}:TRs K H [] xs↔xs=[]:=by rw[TRs]
theorem cD{t:T}{ts:`D}{xs:`E}:TRs K H (t::ts) xs↔∃x r,xs=x::r/\TR K H t x/\TRs K H ts r:=by rw[TRs]
theorem wB{t:T}{x:V}(h:TR K H t x):∃a xs,x=`I/\SqT K H a xs/\TRs K H t.kids xs:=by
 cases t with
 |node ts=>exact cB.mp h
theorem tQ{ts:`D}{a:Addr}{xs:`E}(h:SqT K H a xs)(q:TRs K H ts xs):TR K H (.node ts) `I:=cB.mpr ⟨a,xs,rfl,h,q⟩
mutual
theorem TR.mono(S:Kt H H'):∀{t:T}{x:V},TR K H t x->TR K H' t x
 | .node ts,x,h=>by
  obtain⟨a,xs,e,h1,h2⟩:=cB.mp h
  exact cB.mpr ⟨a,xs,e,cO S h1,TRs.mono S h2⟩
theorem TRs.mono(S:Kt H H'):∀{ts:`D}{xs:`E},TRs K H ts xs->TRs K H' ts xs
 |[],xs,h=>by rw[bH]at h|-;exact h
 |t::ts,xs,h=>by
  obtain⟨x,r,e,h1,h2⟩:=cD.mp h
  exact cD.mpr ⟨x,r,e,TR.mono S h1,TRs.mono S h2⟩
end
theorem TRs.length:∀{ts:`D}{xs:`E},TRs K H ts xs->xs.length=ts.length
 |[],xs,h=>by rw[bH]at h;rw[h];rfl
 |t::ts,xs,h=>by
  obtain⟨x,r,e,h1,h2⟩:=cD.mp h
  rw[e,List.length_cons,List.length_cons,TRs.length h2]
theorem TRs.append:∀{ts us:`D}{xs ys:`E},TRs K H ts xs->TRs K H us ys->TRs K H (ts++us) (xs++ys)
 |[],us,xs,ys,h,g=>by rw[bH]at h;rw[h];exact g
 |t::ts,us,xs,ys,h,g=>by
  obtain⟨x,r,e,h1,h2⟩:=cD.mp h
  rw[e]
  exact cD.mpr ⟨x,r++ys,rfl,h1,TRs.append h2 g⟩
theorem TRs.get:∀{ts:`D}{xs:`E},TRs K H ts xs->∀{i:Nat}{x:V},xs[i]?=some x->∃t,ts[i]?=some t/\TR K H t x
 |[],xs,h,i,x,e=>by rw[bH]at h;rw[h]at e;simp at e
 |t::ts,xs,h,i,x,e=>by
  obtain⟨y,r,rfl,h1,h2⟩:=cD.mp h
  cases i with
  |zero=>exact⟨t,rfl,by have e':y=x:=(by simpa using e);rw[<-e'];exact h1⟩
  |succ i=>exact TRs.get h2 (i:=i) (by simpa using e)
theorem TRs.take:∀(n:Nat){ts:`D}{xs:`E},TRs K H ts xs->TRs K H (ts.take n) (xs.take n)
 |0,ts,xs,h=>by rw[List.take_zero,List.take_zero,bH]
 |n+1,[],xs,h=>by rw[bH]at h;rw[h];exact bH.mpr rfl
 |n+1,t::ts,xs,h=>by
  obtain⟨x,r,rfl,h1,h2⟩:=cD.mp h
  exact cD.mpr ⟨x,r.take n,rfl,h1,TRs.take n h2⟩
theorem TRs.drop:∀(n:Nat){ts:`D}{xs:`E},TRs K H ts xs->TRs K H (ts.drop n) (xs.drop n)
 |0,ts,xs,h=>h
 |n+1,[],xs,h=>by rw[bH]at h;rw[h];exact bH.mpr rfl
 |n+1,t::ts,xs,h=>by
  obtain⟨x,r,rfl,h1,h2⟩:=cD.mp h
  exact TRs.drop n h2
theorem TRs.dropLast{ts:`D}{xs:`E}(h:TRs K H ts xs):TRs K H ts.dropLast xs.dropLast:=by
 rw[List.dropLast_eq_take,List.dropLast_eq_take,h.length]
 exact h.take _
end
section
variable{X:Cx}{pins:`U}{σ:Sg}{H:Hp}{s:Shared}
theorem Vy(I:`J):∀(n:Nat),(∀(t u:T)(x:V),t.parts<=n->TR X.K H t x->TR X.K H u x->t=u)/\(∀(ts us:`D)(xs:`E),T.aN ts<=n->TRs X.K H ts xs->TRs X.K H us xs->ts=us)
 |0=>⟨fun t u x h _ _=>absurd (T.fO t) `A,fun ts us xs h q r=>by
   have h1:=T.cM ts
   have h2:=q.length
   have h3:=r.length
   have e1:ts=[]:=List.length_eq_zero_iff.mp `A
   have e2:us=[]:=List.length_eq_zero_iff.mp `A
   rw[e1,e2]⟩
 |n+1=>by
  have ih:=Vy I n
  have A:∀(t u:T)(x:V),t.parts<=n+1->TR X.K H t x->TR X.K H u x->t=u:=fun t u x h q r=>by
   cases t with
   |node ts=>
    cases u with
    |node us=>
     obtain⟨a,xs,e1,q1,q2⟩:=cB.mp q
     obtain⟨b,ys,e2,r1,r2⟩:=cB.mp r
     rw[e1]at e2
     cases e2
     have:=I.qQ q1 r1
     subst this
     rw[T.aR]at h
     rw[ih.2 ts us xs `A q2 r2]
  refine⟨A,fun ts us xs h q r=>?_⟩
  cases ts with
  |nil=>
   rw[bH]at q
   subst q
   have:=r.length
   exact(List.length_eq_zero_iff.mp (by simpa using this.symm)).symm
  |cons t ts=>
   obtain⟨x,r',rfl,q1,q2⟩:=cD.mp q
   cases us with
   |nil=>rw[bH]at r;cases r
   |cons u us=>
    obtain⟨x2,r2',e,r1,r2⟩:=cD.mp r
    cases e
    rw[T.aK]at h
    have h1:=T.fO t
    rw[A t u x `A q1 r1,ih.2 ts us r' `A q2 r2]
def mQ(ts us:`D)(j:Nat):Bool:=match ts[j]?,us[j]? with
 |some t,some u=>T.beq t u
 |_,_=>false
theorem wu:∀ts us:`D,((List.range (min ts.length us.length)).all (mQ ts us)&&ts.length==us.length)=T.ig ts us
 |[],[]=>by simp[T.ig]
 |[],u::us=>by simp[T.ig]
 |t::ts,[]=>by simp[T.ig]
 |t::ts,u::us=>by
  have ih:=wu ts us
  have e:min (t::ts).length (u::us).length=min ts.length us.length+1:=by simp only[List.length_cons];lia
  rw[e,List.range_succ_eq_map,List.all_cons,List.all_map]
  have e2:(mQ (t::ts) (u::us)∘Nat.succ)=mQ ts us:=by
   funext j
   simp[mQ]
  have e3:mQ (t::ts) (u::us) 0=T.beq t u:=rfl
  have e4:((t::ts).length==(u::us).length)=(ts.length==us.length):=`G
  rw[e2,e3,e4,Bool.and_assoc,ih]
  rw[T.ig]
theorem aa6(I:`J):∀(n:Nat)(t u:T)(A:Around)(a b:Addr),t.deep<=n->TR X.K H t `I->TR X.K H u (.ref b)->A.units+n<cLine->SeqAt.RcAt A s `I (.ref b) (T.beq t u):=by
 intro n
 induction n with
 |zero=>
  intro t u A a b hd q r hu
  cases t with
  |node ts=>
   cases u with
   |node us=>
    obtain⟨a',xs,e1,q1,q2⟩:=cB.mp q
    cases e1
    obtain⟨b',ys,e2,r1,r2⟩:=cB.mp r
    cases e2
    rw[T.bC]at hd
    have hts:ts=[]:=by
     cases ts with
     |nil=>rfl
     |cons t ts=>rw[T.bf]at hd;lia
    subst hts
    rw[bH]at q2
    subst q2
    obtain⟨its,rv,ht,_⟩:=I.tuple q1
    obtain⟨its2,rv2,ht2,_⟩:=I.tuple r1
    have h0:=rv.length
    have h2:=rv2.length
    have h3:=r2.length
    have key:=SeqAt.RcAt.tuples (A:=A) (e:=fun _=>true) ht ht2 `A (fun j j1 _=>absurd j1 (by rw[List.size_toArray,<-h0];simp))
    have ev:((List.range (min its.toArray.size its2.toArray.size)).all (fun _=>true)&&its.toArray.size==its2.toArray.size)=T.beq (.node []) (.node us):=by
     rw[List.size_toArray,List.size_toArray,<-h0,<-h2,h3,T.beq,<-wu]
     simp
    rw[ev]at key
    exact key
 |succ n ih=>
  intro t u A a b hd q r hu
  cases t with
  |node ts=>
   cases u with
   |node us=>
    obtain⟨a',xs,e1,q1,q2⟩:=cB.mp q
    cases e1
    obtain⟨b',ys,e2,r1,r2⟩:=cB.mp r
    cases e2
    rw[T.bC]at hd
    obtain⟨its,rv,ht,_⟩:=I.tuple q1
    obtain⟨its2,rv2,ht2,_⟩:=I.tuple r1
    have l1:=rv.length
    have l2:=rv2.length
    have l3:=q2.length
    have l4:=r2.length
    have key:=SeqAt.RcAt.tuples (A:=A) (e:=mQ ts us) ht ht2 `A (fun j j1 j2=>?_)
    ·have ev:((List.range (min its.toArray.size its2.toArray.size)).all (mQ ts us)&&its.toArray.size==its2.toArray.size)=T.beq (.node ts) (.node us):=by
      rw[List.size_toArray,List.size_toArray,<-l1,<-l2,l3,l4,T.beq,<-wu]
     rw[ev]at key
     exact key
    ·have j1':j<xs.length:=by rw[l1];simpa using j1
     have j2':j<ys.length:=by rw[l2];simpa using j2
     obtain⟨u1,hu1,ru1⟩:=rv.get (List.getElem?_eq_getElem j1')
     obtain⟨u2,hu2,ru2⟩:=rv2.get (List.getElem?_eq_getElem j2')
     obtain⟨t1,ht1,tr1⟩:=q2.get (List.getElem?_eq_getElem j1')
     obtain⟨t2,agQ,tr2⟩:=r2.get (List.getElem?_eq_getElem j2')
     have ee:mQ ts us j=T.beq t1 t2:=by unfold mQ;rw[ht1,agQ]
     have g1:its.toArray[j]=u1:=by
      have:its[j]?=some u1:=hu1
      rw[List.getElem?_eq_some_iff]at this
      obtain⟨_,e⟩:=this
      simpa using e
     have g2:its2.toArray[j]=u2:=by
      have:its2[j]?=some u2:=hu2
      rw[List.getElem?_eq_some_iff]at this
      obtain⟨_,e⟩:=this
      simpa using e
     rw[ee,g1,g2]
     obtain⟨a1,zs1,e1,_⟩:=wB tr1
     obtain⟨a2,zs2,e2,_⟩:=wB tr2
     rw[e1]at ru1 tr1
     rw[e2]at ru2 tr2
     obtain rfl:u1=Value.ref a1:=ru1
     obtain rfl:u2=Value.ref a2:=ru2
     by_cases hne:a1=a2
     ·subst hne
      have et:t1=t2:=(Vy I t1.parts).1 t1 t2 _ `K tr1 tr2
      rw[et,T.oJ]
      exact SeqAt.EqAt.same _
     ·have hd1:t1.deep<=n:=by
       have:=T.jO (List.mem_of_getElem? ht1)
       lia
      exact SeqAt.EqAt.of_refs hne (ih t1 t2 A.in1 a1 a2 hd1 tr1 tr2 (by rw[Around.in1_units];lia))
end
section
variable{X:Cx}
def alZ(K:W.Frag)(n:Nat):R2:=fun x y H Q=>∃t u,TR K H t x/\TR K H u y/\t.deep<=n/\Q (.bl (T.beq t u)) H
theorem B_{n:Nat}(hu:X.A.units+n<cLine):OpR X (compareOp .Eq) (alZ X.K n):=by
 intro pins s σ H x y v u Q I rx ry h
 obtain⟨t,t',h1,h2,hd,q⟩:=h
 obtain⟨a,xs,e1,_⟩:=wB h1
 obtain⟨b,ys,e2,_⟩:=wB h2
 subst e1 e2
 cases rx
 cases ry
 exact aa6 I n t t' X.A a b hd h1 h2 hu _ _ _ _ ⟨.bl _,H,I,rfl,q⟩
end
section
variable{X:Cx}{K:W.Frag}
end
end Sw
namespace SwR
open PySem PySem.Spec PyProof.Rows L2 Sw
theorem BJ:Slot "reversed" "__next__" "reversed.__next__":=.of (owner:="reversed") (n:="__next__") (by rw[typeLookup_type,builtinLookup_eq_fast];kernel_rfl) `C `C `C (by first|exact .inl `C|exact .inr `C) (by rw[isSubtype_type];kernel_rfl)
theorem abm:entryFor table "reversed.__next__"=some Builtin.«reversed.__next__»:=entryFor_of_tree (by kernel_rfl)
theorem abv(a:Value):argsOk "reversed.__next__" ⟨[a],[]⟩:=by unfold argsOk;kernel_rfl
theorem aa4:Slot "reversed" "__iter__" "reversed.__iter__":=.of (owner:="reversed") (n:="__iter__") (by rw[typeLookup_type,builtinLookup_eq_fast];kernel_rfl) `C `C `C (by first|exact .inl `C|exact .inr `C) (by rw[isSubtype_type];kernel_rfl)
theorem aji(a:Value):argsOk "reversed.__iter__" ⟨[a],[]⟩:=by unfold argsOk;kernel_rfl
theorem ai5:entryFor table "reversed.__iter__"=some Builtin.«dict_keyiterator.__iter__»:=entryFor_alias (id':="dict_keyiterator.__iter__") (by kernel_rfl) (by first|rfl|decide+kernel) `C (by kernel_rfl)
theorem Q0:Slot "reversed" "__length_hint__" "reversed.__length_hint__":=.of (owner:="reversed") (n:="__length_hint__") (by rw[typeLookup_type,builtinLookup_eq_fast];kernel_rfl) `C `C `C (by first|exact .inl `C|exact .inr `C) (by rw[isSubtype_type];kernel_rfl)
theorem ai6:entryFor table "reversed.__length_hint__"=some Builtin.«reversed.__length_hint__»:=entryFor_of_tree (by kernel_rfl)
theorem ajj(a:Value):argsOk "reversed.__length_hint__" ⟨[a],[]⟩:=by unfold argsOk;kernel_rfl
theorem akm:typeLookup (.type "reversed") "__len__"=pure none:=by rw[typeLookup_type,builtinLookup_eq_fast];kernel_rfl
theorem ah0:Slot "reversed" "__init__" "object.__init__":=.of (owner:="object") (n:="__init__") (by rw[typeLookup_type,builtinLookup_eq_fast];kernel_rfl) `C `C `C (by first|exact .inl `C|exact .inr `C) (by rw[isSubtype_type];kernel_rfl)
theorem adH:typeLookup `a "__reversed__"=pure none:=by rw[typeLookup_type,builtinLookup_eq_fast];kernel_rfl
theorem acX:TypeCalled "reversed" "reversed.__new__" "object.__init__":=
 ⟨`C,`C,⟨_,_,F.mro_reversed⟩,F.made_reversed,`C,by rw[isSubtype_type];kernel_rfl,ah0⟩
def RvO(h:Heap)(p a:Addr)(i:Int):Prop:=∃o,h.get? p=some o/\o.cls=.type "reversed"/\o.data=.fields #[`I,rawInt i]
theorem RvO.typeIs{s:Shared}{p a:Addr}{i:Int}(x:RvO s.heap p a i):s.TypeIs (.ref p) "reversed":=let⟨o,ho,hc,_⟩:=x;⟨o,ho,hc⟩
section
variable{prog:Program}{w:World}{A:Around}{E:`V}{s:Shared}
theorem next_item{it a:Addr}{i:Nat}{items:Array Value}{x:Value}{Q:Option Value->Shared->Prop}(hit:RvO s.heap it a (i:Int))(ht:IsTup s.heap a items)(hx:items[i]?=some x)(hz:items.size<=sizeLine)(hne:a≠it)
  (hQ:∀h' tk,RvO h' it a ((i:Int)-1)->Heap.SameBut it s.heap h'->Q (some x) {s with heap:=h',toks:=tk}):wpAny `b A (pyNext (.ref it)) Q E s:=by
 obtain⟨o,ho,hc,hd⟩:=id hit
 unfold pyNext
 refine wpAny_bind (wpAny_attempt (wpAny_callSpecial?_slot (name:=Str.ofString "__next__") hit.typeIs BJ (wpAny_call_entry BJ hit.typeIs abm ?_ (abv _))))
 unfold Builtin.«reversed.__next__»
 refine wpAny_bind (wpAny_of_eq (a:=(Value.ref it,[])) rfl ?_)
 dsimp only
 refine wpAny_bind (wpAny_field ho hd (x:=`I) rfl ?_)
 refine wpAny_bind (wpAny_field ho hd (x:=rawInt (i:Int)) rfl ?_)
 show wpAny _ _ (if(i:Int)<0 then _ else _) _ _ s
 rw[if_neg `A]
 refine wpAny_bind (wpAny_specialOf ht.typeIs PyProof.Rows.slot_tuple_getitem.lookup ?_)
 rw[if_neg `B]
 have hi:i<items.size:=(Array.getElem?_eq_some_iff.mp hx).1
 have hl:sizeLine=16777216:=sizeLine_eq
 refine wpAny_bind (wpAny_mkInt ?_)
 refine wpAny_bind (wpAny_attempt (getItem_tuple (j:=i) ht `A `A (by rw[seqIndex_of `A `A];rfl) hx ?_))
 dsimp only
 refine wpAny_bind (wpAny_field ho hd (x:=rawInt (i:Int)) rfl ?_)
 refine wpAny_bind (wpAny_setField ho hd `G ?_)
 refine wpAny_pure ⟨x,rfl,wpAny_pure (hQ _ _ ?_ (Heap.SameBut.update ..))⟩
 exact⟨_,Heap.get?_update_self _ ho (Obj.isFreed_of_fields (Obj.data_mapFields hd _)),(Obj.cls_mapFields ..).trans hc,by rw[Obj.data_mapFields hd];simp⟩
theorem next_end{it a:Addr}{Q:Option Value->Shared->Prop}(hh:A.handled=none)(hit:RvO s.heap it a (-1))
  (hQ:∀h',Heap.ExtBut it s.heap h'->Q none {s with heap:=h'}):wpAny `b A (pyNext (.ref it)) Q E s:=by
 obtain⟨o,ho,hc,hd⟩:=id hit
 unfold pyNext
 refine wpAny_bind (wpAny_attempt (wpAny_callSpecial?_slot (name:=Str.ofString "__next__") hit.typeIs BJ (wpAny_call_entry BJ hit.typeIs abm ?_ (abv _))))
 unfold Builtin.«reversed.__next__»
 refine wpAny_bind (wpAny_of_eq (a:=(Value.ref it,[])) rfl ?_)
 dsimp only
 refine wpAny_bind (wpAny_field ho hd (x:=`I) rfl ?_)
 refine wpAny_bind (wpAny_field ho hd (x:=rawInt (-1)) rfl ?_)
 show wpAny _ _ (if(-1:Int)<0 then _ else _) _ _ s
 rw[if_pos `B]
 refine wpAny_bind (wpAny_rule ?_)
 have e1:=Heap.get?_update_self (Obj.mapFields fun vs=>vs.setIfInBounds 1 (rawInt (-1))) ho (Obj.isFreed_of_fields (Obj.data_mapFields hd _))
 refine wpAny_bind (wpAny_bind (wpAny_setField ho hd `G ?_))
 refine wpAny_setField e1 (Obj.data_mapFields hd _) `G ?_
 refine wpAny_bind ?_
 unfold Builtin.SmallTypes.stopIteration
 refine wpAny_bind ?_
 simp only[newExc,newTuple]
 refine wpAny_bind (wpAny_newObj_type ?_ (by size_fits));refine wpAny_bind (m:=firstArgMember _ _) (wpAny_of_eq (a:=Value.none) (by first|rfl|(simp only[firstArgMember];rfl)) ?_);refine wpAny_newObj_type ?_ (by size_fits)
 simp only[raiseNew];refine wpAny_bind (wpAny_handled ?_)
 first|rw[show A.in1.handled=none from hh]|rw[hh]
 refine wpAny_bind (wpAny_pure (wpAny_throw ?_));refine wpAny_bind (wpAny_isInstance (T:="StopIteration") (b:=true) ⟨_,`i,rfl⟩ isSubtype_stop (wpAny_pure (hQ _ ?_)))
 intro b ob hb e
 refine Heap.get?_push_of_some _ (Heap.get?_push_of_some _ ?_)
 exact(Heap.get?_update_other _ _ (Ne.symm hb)).trans ((Heap.get?_update_other _ _ (Ne.symm hb)).trans e)
theorem zA{it a:Addr}{i:Int}{Q:`V}(hit:RvO s.heap it a i)(h:Q (.ref it) s):wpAny `b A (pyIter (.ref it)) Q E s:=by
 refine wpAny_pyIter_slot hit.typeIs aa4 (wpAny_call_entry aa4 hit.typeIs ai5 ?_ (aji _))
 show wpAny _ _ (ret (.ref it)) _ _ s
 exact wpAny_pure ⟨_,rfl,"reversed",_,hit.typeIs,BJ.lookup,h⟩
theorem RvO.keep{h h':Heap}{p a:Addr}{i:Int}(x:RvO h p a i)(e:∀o,h.get? p=some o->h'.get? p=some o):RvO h' p a i:=let⟨o,ho,r⟩:=x;⟨o,e _ ho,r⟩
theorem CQ{h h':Heap}{a:Addr}{items:Array Value}(x:IsTup h a items)(e:∀o,h.get? a=some o->h'.get? a=some o):IsTup h' a items:=let⟨o,ho,r⟩:=x;⟨o,e _ ho,r⟩
end
theorem adB{prog:Program}{w:World}{A:Around}(hh:A.handled=none)(I a:Addr)(hne:a≠I)(items:Array Value)(hz:items.size<=sizeLine):
  Walks prog w A I [I,a] [I] items.size (fun i v=>items[items.size-1-i]?=some v) (fun i h=>i<=items.size/\RvO h I a ((items.size:Int)-1-(i:Int))/\IsTup h a items)where
 sub:=fun b hb=>by simp at hb;simp[hb]
 frame:=fun _ _ _ x hk=>⟨x.1,x.2.1.keep fun o e=>hk I `G o e,CQ x.2.2 fun o e=>hk a `G o e⟩
 item:=fun i s Q E hi x hQ=>by
  obtain⟨_,hit,ht⟩:=x
  have e:(items.size:Int)-1-(i:Int)=((items.size-1-i:Nat):Int):=`A
  rw[e]at hit
  have hx:items[items.size-1-i]?=some (items[items.size-1-i]'`A):=Array.getElem?_eq_getElem `A
  refine next_item hit ht hx hz hne fun h' tk hit' hs'=>hQ _ h' tk hx ⟨`A,?_,CQ ht fun o eo=>(hs'.2 a hne).trans eo⟩ fun b o hb eo=>hs'.extBut b o (fun z=>hb (by simp[z])) eo
  have e2:((items.size-1-i:Nat):Int)-1=(items.size:Int)-1-((i+1:Nat):Int):=`A
  rw[<-e2]
  exact hit'
 done:=fun s Q E x hQ=>by
  obtain⟨_,hit,ht⟩:=x
  have e:(items.size:Int)-1-(items.size:Int)=-1:=`A
  rw[e]at hit
  exact next_end hh hit fun h' he'=>hQ h' s.toks fun b o hb eo=>he' b o (fun z=>hb (by simp[z])) eo
 self:=fun _ _ _ _ x hQ=>zA x.2.1 hQ
section
variable{prog:Program}{w:World}{A:Around}{E:`V}{s:Shared}
theorem UW(k:Int)(u:Tok):asInt? (.int k u)=pure (some k):=rfl
theorem aeN{it a:Addr}{items:Array Value}{Q:`V}(hit:RvO s.heap it a ((items.size:Int)-1))(ht:IsTup s.heap a items)(hz:items.size<=sizeLine)
  (hQ:∀t tk,s.toks<=tk->Q (.int (items.size:Int) t) {s with toks:=tk}):wpAny `b A (call (.builtin "reversed.__length_hint__") [.ref it]) Q E s:=by
 obtain⟨o,ho,hc,hd⟩:=id hit
 have hl:sizeLine=16777216:=sizeLine_eq
 refine wpAny_call_entry Q0 hit.typeIs ai6 ?_ (ajj _)
 unfold Builtin.«reversed.__length_hint__»
 refine wpAny_bind (wpAny_of_eq (a:=Value.ref it) rfl ?_)
 refine wpAny_bind (wpAny_field ho hd (x:=`I) rfl ?_)
 rw[if_neg (show¬((Value.ref a==Value.none)=true)from Bool.false_ne_true)]
 refine wpAny_bind (len_tuple ht `A ?_)
 refine wpAny_bind (m:=asInt? (.int (items.size:Int) (s.toks+1))) (wpAny_pure ?_)
 dsimp only
 refine wpAny_bind (wpAny_field ho hd (x:=rawInt ((items.size:Int)-1)) rfl ?_)
 show wpAny _ _ (if(items.size:Int)<((items.size:Int)-1)+1 then _ else retInt (((items.size:Int)-1)+1)) _ _ _
 rw[if_neg `A,show((items.size:Int)-1)+1=(items.size:Int)by lia]
 unfold retInt
 refine wpAny_bind (wpAny_mkInt (wpAny_pure ⟨_,rfl,hQ _ _ ?_⟩))
 show s.toks<=s.toks+1+1+1
 lia
theorem ab1{it a S:Addr}{items:Array Value}{c₀:Nat}{R:Result->Shared->Prop}(hh:A.handled=none)(hit:RvO s.heap it a ((items.size:Int)-1))(ht:IsTup s.heap a items)(hz:items.size<=sizeLine)
  (hai:a≠it)(hSi:S≠it)(hSa:S≠a)(hS:s.heap.get? S=some {cls:=.type "list",data:=.seq #[] c₀})
  (hR:∀h' tk acc' c',(∀b o,b≠S->b≠it->s.heap.get? b=some o->h'.get? b=some o)->h'.get? S=some {cls:=.type "list",dict:=none,data:=.seq acc' c',slots:=#[]}->
   ItemsOf (fun i v=>items[items.size-1-i]?=some v) acc' items.size->R (.ok (.ret .none)) {s with heap:=h',toks:=tk}):
  wpAny `b A.in1 (Builtin.List.listExtendWith (.ref S) (.ref it) .none)
   (fun fin s'=>match fin with| .done f=>R (.ok f) s'| .again c'=>c'.quiet=true/\codeAny `b A c' R s') (fun e s'=>R (.error e) s') s:=by
 have hl:sizeLine=16777216:=sizeLine_eq
 have h1:Builtin.List.listSameRef (.ref S) (.ref it)=false:=by simp[Builtin.List.listSameRef,hSi]
 unfold Builtin.List.listExtendWith
 refine wpAny_bind (wpAny_typeOf hit.typeIs ?_)
 rw[if_neg (by rw[h1];decide)]
 refine wpAny_bind (zA hit ?_)
 refine wpAny_bind (wpAny_holding ?_)
 unfold Builtin.List.listLengthHint
 refine wpAny_bind (wpAny_specialOf hit.typeIs akm ?_)
 show wpAny _ A.in1 (specialOf (Value.ref it) (Str.ofString "__length_hint__")>>=_) _ _ _
 refine wpAny_bind (wpAny_specialOf hit.typeIs Q0.lookup ?_)
 (generalize hid:("reversed.__length_hint__":String)=id0;(fail_if_success(clear hid id0));wp_delta;rw[show splitId id0=some ("reversed","__length_hint__")from by subst hid;decide+kernel];subst hid)
 refine wpAny_bind (wpAny_isInstance (b:=true) hit.typeIs (by rw[isSubtype_type];kernel_rfl) ?_)
 rw[if_neg `B]
 dsimp only
 rw[if_neg `B]
 refine wpAny_bind (wpAny_rule ?_)
 refine wpAny_bind (wpAny_of_eq (Q0.bind _) ?_)
 dsimp only
 refine wpAny_bind (wpAny_attempt (aeN hit ht hz fun t tk htk=>?_))
 dsimp only
 rw[UW,pure_bind]
 dsimp only
 have hf:Builtin.List.listFitsIndex (items.size:Int)=true:=by
  unfold Builtin.List.listFitsIndex
  simp only[Bool.and_eq_true,decide_eq_true_eq]
  lia
 have htl:Builtin.List.listTooLong (Int.toNat (items.size:Int))=false:=by
  rw[Int.toNat_natCast]
  exact Dz hz
 rw[if_neg (by rw[hf];decide),if_neg `A,if_neg (by rw[htl];decide)]
 refine wpAny_pure ?_
 have hSf:S∉[it,a]:=by simp[hSi,hSa]
 have W:=adB (prog:=prog) (w:=w) (A:=A.in1) hh it a hai items hz
 have loop:∀(s2:Shared)(c₂:Nat),(∀b o,b≠S->s.heap.get? b=some o->s2.heap.get? b=some o)->s2.heap.get? S=some {cls:=.type "list",data:=.seq #[] c₂}->s2.gens=s.gens->s2.drawn=s.drawn->s2.os=s.os->
   codeAny `b A (.builtin "list.extend.loop" ⟨[.ref S,.ref it,.none],[]⟩) R s2:=fun s2 c₂ hk hS2 g1 g2 g3=>by
  have st:0<=items.size/\RvO s2.heap it a ((items.size:Int)-1-((0:Nat):Int))/\IsTup s2.heap a items:=by
   refine⟨`W,?_,CQ ht fun o e=>hk a o (Ne.symm hSa) e⟩
   have:(items.size:Int)-1-((0:Nat):Int)=(items.size:Int)-1:=`A
   rw[this]
   exact hit.keep fun o e=>hk it o (Ne.symm hSi) e
  refine codeAny_extend_loopS W.toS hz S hSf .none items.size 0 s2 #[] c₂ rfl `W st hS2 (ItemsOf.nil _) fun s' acc' c' hm hS' hacc=>?_
  have hs':=Moved.eq_with hm
  rw[g1,g2,g3]at hs'
  rw[hs']
  exact hR s'.heap s'.toks acc' c' (fun b o hbS hbi e=>hm.heap b o (by simp[hbS,hbi]) (hk b o hbS e)) hS' hacc
 split
 ·refine wpAny_bind (wpAny_rule ?_)
  unfold Builtin.List.listTouch
  have e1:=Heap.get?_update_self (Obj.mapSeq (·.push Value.none)) hS rfl
  have e2:=Heap.get?_update_self (Obj.mapSeq (·.pop)) e1 rfl
  refine wpAny_bind (wpAny_bind (m:=Builtin.List.listUpdate (.ref S) (·.push Value.none)) (wpAny_updateSeq hS rfl ?_ (hz:=`W) (_hz':=Nat.succ_le_succ `W)))
  refine wpAny_updateSeq e1 rfl ?_ (hz:=`e) (_hz':=`W)
  refine wpAny_pure ⟨plainId_quiet F.plain_extend_loop _,loop _ _ (fun b o hb e=>?_) (by simpa[Obj.mapSeq]using e2) rfl rfl rfl⟩
  exact(Heap.get?_update_other _ _ (Ne.symm hb)).trans ((Heap.get?_update_other _ _ (Ne.symm hb)).trans e)
 ·exact wpAny_pure ⟨plainId_quiet F.plain_extend_loop _,loop _ c₀ (fun b o _ e=>e) hS rfl rfl rfl⟩
theorem Vk{it a:Addr}{items:Array Value}{Q:`V}(hh:A.handled=none)(hit:RvO s.heap it a ((items.size:Int)-1))(ht:IsTup s.heap a items)(hz:items.size<=sizeLine)(hai:a≠it)
  (hQ:∀h' tk acc' c',(∀b o,b≠it->s.heap.get? b=some o->h'.get? b=some o)->h'.get? s.heap.objs.size=some {cls:=.type "list",dict:=none,data:=.seq acc' c',slots:=#[]}->
   acc'.toList=items.toList.reverse->Q `g {s with heap:=h',toks:=tk}):wpAny `b A (call (.type "list") [.ref it]) Q E s:=by
 have lit:it<s.heap.objs.size:=let⟨_,ho,_⟩:=hit;Heap.lt_size ho
 have la:a<s.heap.objs.size:=let⟨_,ho,_⟩:=ht;Heap.lt_size ho
 refine callType_codes (Q₁:=fun obj s₁=>obj=`g/\s₁={s with heap:=s.heap.push {cls:=.type "list",data:=.seq #[]}}) F.called_list (F.typeCall_list_1 _) F.entry_list_init (code_list_new _ ⟨rfl,rfl⟩) fun obj s1 h1=>?_
 obtain⟨e1,e2⟩:=h1
 subst e1 e2
 have hS:(s.heap.push {cls:=.type "list",data:=.seq #[]}).get? s.heap.objs.size=some {cls:=.type "list",data:=.seq #[]}:=`i
 refine⟨⟨_,hS,rfl⟩,F.args_list_init_2 _ _,?_⟩
 show wpAny _ _ (Builtin.List.listItems `g>>=fun old=>Builtin.List.listUpdate `g (fun _=>#[])>>=fun _=>letGo old.toList.reverse>>=fun _=>Builtin.List.listExtendWith `g (.ref it) .none) _ _ _
 refine wpAny_bind ?_
 unfold Builtin.List.listItems
 refine wpAny_bind (wpAny_seqItems hS rfl (wpAny_pure ?_))
 refine wpAny_bind (m:=Builtin.List.listUpdate `g (fun _=>#[])) (wpAny_updateSeq hS rfl ?_)
 have hS2:=Heap.get?_update_self (Obj.mapSeq (fun _=>(#[]:Array Value))) hS rfl
 have oth:∀b o,b≠s.heap.objs.size->s.heap.get? b=some o->((s.heap.push {cls:=.type "list",data:=.seq #[]}).update s.heap.objs.size (Obj.mapSeq (fun _=>(#[]:Array Value)))).get? b=some o:=
  fun b o hb e=>(Heap.get?_update_other _ _ (Ne.symm hb)).trans (Heap.get?_push_of_some _ e)
 refine wpAny_bind (wpAny_letGo ?_)
 refine ab1 (A:=A.in1) hh (hit.keep fun o e=>oth it o (Nat.ne_of_lt lit) e) (CQ ht fun o e=>oth a o (Nat.ne_of_lt la) e) hz hai (Nat.ne_of_gt lit) (Nat.ne_of_gt la) hS2 fun h' tk acc' c' hk hS' hacc=>?_
 refine⟨rfl,hQ h' tk acc' c' (fun b o hb e=>hk b o (Nat.ne_of_lt (Heap.lt_size e)) hb (oth b o (Nat.ne_of_lt (Heap.lt_size e)) e)) hS' ?_⟩
 obtain⟨hsz,hat⟩:=hacc
 refine List.ext_getElem? fun i=>?_
 by_cases hi:i<items.size
 ·have h1:=hat i (acc'[i]'`A) (Array.getElem?_eq_getElem `A)
  rw[List.getElem?_reverse (by rw[Array.length_toList];exact hi),Array.length_toList,Array.getElem?_toList,Array.getElem?_toList,h1,Array.getElem?_eq_getElem `A]
 ·rw[List.getElem?_eq_none (by rw[Array.length_toList];lia),List.getElem?_eq_none (by rw[List.length_reverse,Array.length_toList];lia)]
end
section
variable{prog:Program}{w:World}{A:Around}{E:`V}{s:Shared}
theorem U9(a:Addr)(items:Array Value)(n:Nat)(dd:Option Addr)(sl:`f)(hz:items.size<=sizeLine):
  Meets (Builtin.«reversed.__new__» ⟨[.type "reversed",`I],[]⟩) (fun _ R s=>s.heap.get? a=some {cls:=`a,dict:=dd,data:=.seq items n,slots:=sl}/\
   ∀tk,R (.ok (.ret `g)) {s with heap:=s.heap.push {cls:=.type "reversed",data:=.fields #[`I,rawInt ((items.size:Int)-1)]},toks:=tk}):=
 .of_wp fun prog w A R s h=>by
  obtain⟨ht,h⟩:=h
  have hl:sizeLine=16777216:=sizeLine_eq
  have hT:s.TypeIs `I "tuple":=⟨_,ht,rfl⟩
  have hI:IsTup s.heap a items:=⟨_,ht,rfl,n,rfl⟩
  unfold Builtin.«reversed.__new__»
  refine wpAny_bind (wpAny_of_eq (newClass_reversed _) ?_)
  dsimp only
  refine wpAny_bind (wpAny_of_eq (a:=()) (by first|rfl|kernel_rfl) ?_);refine wpAny_bind (wpAny_of_eq (a:=()) (by first|rfl|kernel_rfl) ?_)
  refine wpAny_bind (wpAny_specialOf hT adH ?_)
  dsimp only
  refine wpAny_bind ?_
  refine wpAny_bind (wpAny_isInstance (b:=false) hT (by rw[isSubtype_type];kernel_rfl) ?_)
  rw[if_neg `B]
  refine wpAny_bind (wpAny_specialOf hT PyProof.Rows.slot_tuple_getitem.lookup ?_)
  dsimp only
  rw[if_pos `B]
  refine wpAny_pure ?_
  rw[if_neg `B]
  refine wpAny_bind (len_tuple hI `A ?_)
  rw[UW,pure_bind]
  dsimp only
  show wpAny _ _ (newObj (.type "reversed") (.fields #[`I,rawInt ((items.size:Int)-1)])>>=_) _ _ _
  refine wpAny_bind (wpAny_newObj_type ?_)
  exact wpAny_pure ⟨_,rfl,h _⟩
theorem YC{a:Addr}{items:Array Value}{Q:`V}(ht:IsTup s.heap a items)(hz:items.size<=sizeLine)
  (h:∀tk,Q `g {s with heap:=s.heap.push {cls:=.type "reversed",data:=.fields #[`I,rawInt ((items.size:Int)-1)]},toks:=tk}):wpAny `b A (call (.type "reversed") [`I]) Q E s:=by
 obtain⟨⟨c,d,dt,sl⟩,ho,hc,n,hd⟩:=id ht
 simp only at hc hd
 subst hc hd
 refine callType_new acX `B (F.typeCall_reversed_1 _) (F.newCall_reversed_1 _) (fun obj=>F.args_object_init_2 obj _) F.entry_reversed_new (U9 a items n d sl hz) ⟨ho,fun tk=>?_⟩
 exact⟨⟨_,`i,rfl⟩,h tk⟩
end
theorem Av:bootBuiltins "reversed"=some (.type "reversed"):=`C
theorem aha:bootBuiltins "list"=some (.type "list"):=`C
def tLR(K:W.Frag)(te:TE):TE:=fun σ H Q=>te σ H fun x H1=>∃a ys,x=`I/\SqT K H1 a ys/\∀l,H1 l=none->Q (.ref l) (upd H1 l (.lst ys.reverse))
theorem O_{X:Cx}{e:Expr}{te:TE}{p1 p2 pos pos2:Pos}(hgl:Gl X "list")(hgr:Gl X "reversed")(ml:X.mg "list"=none)(mr:X.mg "reversed"=none)(hc:X.calm=true)(he:PE X e te)
  (hs1:starEach [.Call (.Name "reversed" p2) [e] [] pos2] X.env=[(false,eval (.Call (.Name "reversed" p2) [e] [] pos2) X.env)]:=by rfl)(hs2:starEach [e] X.env=[(false,eval e X.env)]:=by rfl):
  PE X (.Call (.Name "list" p1) [.Call (.Name "reversed" p2) [e] [] pos2] [] pos) (tLR X.K te):=by
 intro pins s σ H Q I h
 refine wpAny_Call_Name_kw (ld_blt I hgl ml aha ?_)
 refine PyProof.Rows.callWith_type1 ?_ (by rw[hs1];rfl) (by rfl)
 rw[hs1]
 refine Calls.spliced_cons ?_
 refine wpAny_Call_Name_kw (ld_blt I hgr mr Av ?_)
 refine PyProof.Rows.callWith_type1 ?_ (by rw[hs2];rfl) (by rfl)
 rw[hs2]
 refine Calls.spliced_cons (thn (he pins s σ H _ I h) fun v s1⟨x,H1,I1,r1,q1⟩=>Calls.spliced_nil ?_)
 obtain⟨a,ys,e1,hq,q⟩:=q1
 subst e1
 cases r1
 obtain⟨its,rv,ht,hz⟩:=I1.tuple hq
 have hlen:=rv.length
 have hz':its.toArray.size<=sizeLine:=by rw[List.size_toArray];lia
 refine YC ht hz' fun tk=>Calls.spliced_nil ?_
 generalize M8:({s1 with heap:=s1.heap.push {cls:=.type "reversed",data:=.fields #[`I,rawInt ((its.toArray.size:Int)-1)]},toks:=tk}:Shared)=s2
 have I2:Inv X pins σ H1 s2:=by rw[<-M8];exact I1.kept fun b o e=>Heap.get?_push_of_some _ e
 have la:a<s1.heap.objs.size:=let⟨_,ho,_⟩:=ht;Heap.lt_size ho
 have sz2:s2.heap.objs.size=s1.heap.objs.size+1:=by rw[<-M8];exact Heap.size_push ..
 have hit:RvO s2.heap s1.heap.objs.size a ((its.toArray.size:Int)-1):=by rw[<-M8];exact⟨_,`i,rfl,rfl⟩
 have ht2:IsTup s2.heap a its.toArray:=by rw[<-M8];exact ht.push _
 have fp:FpOk X pins H1 s1.heap.objs.size:=I1.fpOk `K (I1.hok.fresh `K)
 refine Vk (I2.ok.hd hc) hit ht2 hz' (Nat.ne_of_lt la) fun h' tk' acc' c' hk hS' hacc=>?_
 have hfree:H1 s2.heap.objs.size=none:=I2.hok.fresh `K
 have hp0:H1 s1.heap.objs.size=none:=fp.1
 have oks:ObjOk X.prog X.w (upd H1 s2.heap.objs.size (.lst ys.reverse)) h' s2.heap.objs.size (.lst ys.reverse):=by
  refine⟨by rw[List.length_reverse];exact hz,its.reverse,c',rv.reverse,?_⟩
  rw[hS',show acc'=its.reverse.toArray from Array.toList_inj.mp (by simpa using hacc)]
 have nS:∀b o,s2.heap.get? b=some o->b≠s2.heap.objs.size:=fun b o e=>Nat.ne_of_lt (Heap.lt_size e)
 have np:∀b u,H1 b=some u->b≠s1.heap.objs.size:=fun b u e=>ne_of_none e hp0
 have nh:∀b u,H1 b=some u->upd H1 s2.heap.objs.size (.lst ys.reverse) b=some u:=fun b u e=>by rw[upd_ne (ne_of_none e hfree)];exact e
 have hok:HOk X.prog X.w (upd H1 s2.heap.objs.size (.lst ys.reverse)) h':=fun b u e=>by
  by_cases hb:b=s2.heap.objs.size
  ·subst hb
   rw[upd_same]at e
   cases e
   exact oks
  ·rw[upd_ne hb]at e
   refine(I2.hok b u e).stay (fun c v hc' q'=>hk c v ?_ q') (fun x q'=>nh _ _ q') fun c v q'=>nh _ _ q'
   rcases hc' with z|z
   ·rw[z];exact np b u e
   ·exact np c _ z
 have I3:Inv X pins σ (upd H1 s2.heap.objs.size (.lst ys.reverse)) {s2 with heap:=h',toks:=tk'}:=by
  refine I2.step (g':=s2.gens) (d':=s2.drawn) (t':=tk') (ch:=[s1.heap.objs.size]) (fun b hb=>?_) (fun b o _ _ hb e _=>hk b o (fun z=>hb (by simp[z])) e) (fun b o _ _ hb e _=>⟨o.slots,hk b o (fun z=>hb (by simp[z])) e⟩)
   (fun b o _ e n=>by rw[upd_ne (nS b o e)];exact n) (fun b o hb e=>⟨o,hk b o (fun z=>hb (by simp[z])) e⟩) (fun b xs e=>nh _ _ e) (fun b o u e=>nh _ _ e) (fun b ps e=>⟨#[],by rw[nh _ _ e];simp⟩) (fun m hm=>?_) hok I2.bare
  ·have e:b=s1.heap.objs.size:=by simpa using hb
   subst e
   exact⟨fp.2.2.2.1,fp.2.1,fp.2.2.2.2.1,fp.2.2.2.2.2⟩
  ·obtain⟨o,es,ep,ho,r⟩:=hm
   exact⟨o,es,ep,hk _ o (Ne.symm fp.2.1) ho,r⟩
 exact⟨.ref s2.heap.objs.size,_,I3,rfl,q _ hfree⟩
end SwR
namespace Sw
open PySem PySem.Spec PyProof.Rows L2
def tx(l:`F):Str:=⟨l.toArray⟩
theorem zm(a b:`F):tx a++tx b=tx (a++b):=by
 show Str.mk (a.toArray++b.toArray)=Str.mk (a++b).toArray
 simp
theorem jo(a:`F):(tx a).length=a.length:=rfl
theorem Gj{a b:`F}:tx a=tx b↔a=b:=by
 constructor
 ·intro h
  have h1:a.toArray=b.toArray:=congrArg Str.cps h
  simpa using congrArg Array.toList h1
 ·intro h
  rw[h]
theorem abM:Str.ofString "("=tx [40]:=`C
theorem ahp:Str.ofString ")"=tx [41]:=`C
theorem j6:Str.ofString ""=tx []:=`C
theorem akM(a b:`F):decide (V.str (tx a)=V.str (tx b))=decide (a=b):=by
 by_cases h:a=b
 ·subst h;simp
 ·rw[decide_eq_false h,decide_eq_false]
  intro e
  exact h (Gj.mp (V.str.inj e))
theorem CZ:∀{ss:List Str}{us:`L},Vals (ss.map V.str) us->StrsAre us ss
 |[],us,r=>by rw[List.map_nil]at r;cases r;exact .nil
 |z::ss,us,r=>by
  rw[List.map_cons]at r
  cases r with
  |cons r1 r2=>
   obtain⟨t,rfl⟩:=r1
   exact .cons z t (CZ r2)
theorem aiY (ls:`R):Txt.join (tx []) (ls.map tx)=tx ls.flatten:=by
 have key:∀ (ls:`R) (acc:`F),(ls.map tx).foldl (fun acc p=>acc++(tx []).cps++p.cps) acc.toArray=(acc++ls.flatten).toArray:=by
  intro ls
  induction ls with
  | nil=>intro acc; simp
  | cons l ls ih =>
   intro acc
   rw [List.map_cons,List.foldl_cons]
   have e:acc.toArray++(tx []).cps++(tx l).cps=(acc++l).toArray:=by simp [tx]
   rw [e,ih,List.flatten_cons,List.append_assoc]
 show Str.mk _=_
 cases ls with
 | nil=>rfl
 | cons l ls =>
  have:=key ls l
  show Str.mk (((l::ls).map tx).drop 1 |>.foldl (fun acc p=>acc++(tx []).cps++p.cps) (((l::ls).map tx).headD Str.empty).cps)=tx (l::ls).flatten
  rw [List.map_cons,List.drop_one,List.tail_cons,List.headD_cons,List.flatten_cons]
  exact congrArg Str.mk this
section
variable{X:Cx}
def rJoin(K:W.Frag):V->`E->Hp->VK->Prop:=fun x vs H Q=>∃(l:Addr)(ls:`R),x=.str (tx [])/\vs=[.ref l]/\SqL K H l (ls.map fun c=>V.str (tx c))/\ls.flatten.length<=16777216/\Q (.str (tx ls.flatten)) H
theorem QK:∀ls:`R,((ls.map tx).map (·.length)).sum=ls.flatten.length
 |[]=>rfl
 |l::ls=>by rw[List.map_cons,List.map_cons,List.sum_cons,QK ls,List.flatten_cons,List.length_append,jo]
theorem aiO:MtM X "str.join" (rJoin X.K):=by
 intro pins s σ H x vs v us Q I rx rv h
 obtain⟨l,ls,rfl,rfl,hq,hz,q⟩:=h
 obtain⟨t,rfl⟩:=rx
 obtain⟨u,rfl,ru⟩:=rv.one
 cases ru
 obtain⟨its,r,pl,_⟩:=I.list hq
 have hs:StrsAre its (ls.map tx):=CZ (by rw[List.map_map];exact r)
 refine join_list (ys:=ls.map tx) pl.isList (by simpa using hs) ?_ fun t' k=>?_
 ·rw[QK,jo]
  simp only[List.length_nil,Nat.mul_zero,Nat.add_zero]
  exact hz
 ·rw[aiY]
  exact⟨.str (tx ls.flatten),H,I.tok _,⟨_,rfl⟩,q⟩
def Its(z:Str):It:=⟨fun i _=>i<z.cps.size,fun i H v H'=>H'=H/\∃c,z.cps[i]?=some c/\v=.str (tx [c]),fun i _=>z.cps.size<=i⟩
theorem Vx{P:Program}{w:World}{K:W.Frag}{x:Str}{px:Pos}{ty:String}(hty:ty="str_ascii_iterator"\/ty="str_iterator")(z:Str)(t:Tok)(it:Addr):
  Turn P w K (.Name x px) (Its z) [it] it (fun i h=>h.IsStrIter it ty z t i)where
 mem:=`G
 obj:=fun i h st b hb=>by
  have e:b=it:=by simpa using hb
  subst e
  obtain⟨o,e,c,d⟩:=st
  exact⟨o,e,fun v z=>by rw[d]at z;cases z⟩
 keep:=fun i h h' st k=>by
  obtain⟨o,e,r⟩:=st
  exact⟨o,k it `G o e,r⟩
 item:=by
  intro X hP hw hK hc i pins s σ H E I hf st hg
  subst hP hw hK
  obtain⟨f0,f1,f2,f3,f4,f5⟩:=hf it `G
  have hi:z.cps[i]?=some (z.cps[i]'hg):=Array.getElem?_eq_getElem hg
  rcases hty with rfl|rfl
  ·refine wpAny_pyNext_ascii_item st hi fun h' st' sb=>?_
   exact⟨_,rfl,wpAny_pure ⟨.str (tx [z.cps[i]'hg]),H,I.turned (fun b o hb e=>(sb.2 b hb).trans e) f0 f1 f3 f4 f5,⟨_,rfl⟩,⟨rfl,_,hi,rfl⟩,st',fun b hb=>(hf b hb).1⟩⟩
  ·refine wpAny_pyNext_wide_item st hi fun h' st' sb=>?_
   exact⟨_,rfl,wpAny_pure ⟨.str (tx [z.cps[i]'hg]),H,I.turned (fun b o hb e=>(sb.2 b hb).trans e) f0 f1 f3 f4 f5,⟨_,rfl⟩,⟨rfl,_,hi,rfl⟩,st',fun b hb=>(hf b hb).1⟩⟩
 done:=by
  intro X hP hw hK hc i pins s σ H E I hf st hg
  subst hP hw hK
  obtain⟨f0,f1,f2,f3,f4,f5⟩:=hf it `G
  have hi:z.cps[i]?=none:=Array.getElem?_eq_none hg
  rcases hty with rfl|rfl
  ·exact wpAny_pyNext_ascii_end (I.ok.hd hc) st hi fun h' eb=>⟨rfl,I.turned (t':=s.toks) (fun b o hb e=>eb b o hb e) f0 f1 f3 f4 f5⟩
  ·exact wpAny_pyNext_wide_end (I.ok.hd hc) st hi fun h' eb=>⟨rfl,I.turned (t':=s.toks) (fun b o hb e=>eb b o hb e) f0 f1 f3 f4 f5⟩
 self:=fun _ _ _ _ _ st h=>by
  rcases hty with rfl|rfl
  ·exact wpAny_pyIter_striter_ascii st h
  ·exact wpAny_pyIter_striter_wide st h
def aql(tl:TE):TI:=fun σ H R=>tl σ H fun x H1=>∃z,x=.str z/\R (Its z) H1
theorem aj1{x:Str}{px:Pos}{l:Expr}{tl:TE}(hl:PE X l tl):PI X (.Name x px) l (aql tl):=by
 intro pins s σ H R I h
 refine thn (hl pins s σ H _ I h) fun v s1⟨y,H1,I1,r1,q1⟩=>?_
 obtain⟨z,rfl,q⟩:=q1
 obtain⟨t,rfl⟩:=r1
 have fp:∀b∈[s1.heap.objs.size],FpOk X pins H1 b:=fun b hb=>by
  have e:b=s1.heap.objs.size:=by simpa using hb
  subst e
  exact I1.fpOk `K (I1.hok.fresh `K)
 cases ha:z.cps.all (·<128)
 ·refine wpAny_pyIter_wide ha ?_
  exact⟨s1.heap.objs.size,[s1.heap.objs.size],_,_,H1,rfl,I1.kept (t':=s1.toks) fun b o e=>Heap.get?_push_of_some _ e,Vx (.inr rfl) z t _,⟨_,`i,rfl,rfl⟩,fp,q⟩
 ·refine wpAny_pyIter_ascii ha ?_
  exact⟨s1.heap.objs.size,[s1.heap.objs.size],_,_,H1,rfl,I1.kept (t':=s1.toks) fun b o e=>Heap.get?_push_of_some _ e,Vx (.inl rfl) z t _,⟨_,`i,rfl,rfl⟩,fp,q⟩
theorem ai3{l:`F}{g:TG}{tb:TS}{D:Ends}{σ:Sg}{H:Hp}(Pv:Nat->Sg->`M)(h0:Pv 0 σ H)
  (hs:∀i c σ H,l[i]?=some c->Pv i σ H->g (.str (tx [c])) σ H fun σ2 H2=>tb {D with nx:=Pv (i+1),ct:=Pv (i+1),bk:=D.nx} σ2 H2)(hd:∀σ H,Pv l.length σ H->D.nx σ H):
  ∃W:Nat->Nat->Sg->`M,(∃m,W 0 m σ H)/\∀i m σ H,W i m σ H->
   ((Its (tx l)).stop i H/\D.nx σ H)\/((Its (tx l)).go i H/\∃N:Sg->`M,(∀σ' H',N σ' H'->∃m',m'<m/\W (i+1) m' σ' H')/\∀x H',(Its (tx l)).yld i H x H'->g x σ H' fun σ2 H2=>tb {D with nx:=N,ct:=N,bk:=D.nx} σ2 H2):=by
 refine⟨fun i m σ H=>m=l.length-i/\i<=l.length/\Pv i σ H,⟨l.length,`G,`W,h0⟩,?_⟩
 rintro i m σ H⟨rfl,hi,p⟩
 have sz:(tx l).cps.size=l.length:=by simp[tx]
 by_cases hlt:i<l.length
 ·refine .inr ⟨by show i<(tx l).cps.size;lia,Pv (i+1),fun σ' H' p'=>⟨l.length-(i+1),`A,rfl,hlt,p'⟩,fun x H' y=>?_⟩
  obtain⟨e,c,hc,rfl⟩:=y
  subst e
  exact hs i c σ _ (by simpa[tx]using hc) p
 ·have e:i=l.length:=`A
  subst e
  exact .inl ⟨by show(tx l).cps.size<=l.length;lia,hd σ H p⟩
theorem agZ{pins:`U}{σ:Sg}{H:Hp}{s:Shared}(I:`J){ts us:`D}{xs ys:`E}{its its2:`L}(q2:TRs X.K H ts xs)(r2:TRs X.K H us ys)(rv:Vals xs its)(rv2:Vals ys its2){n:Nat}{A:Around}
  (hd:T.bF ts<=n+1)(hu:A.units+n<cLine):∀j(h1:j<its.toArray.size)(h2:j<its2.toArray.size),SeqAt.EqAt A s its.toArray[j] its2.toArray[j] (mQ ts us j):=by
 intro j j1 j2
 have l1:=rv.length
 have l2:=rv2.length
 have j1':j<xs.length:=by rw[l1];simpa using j1
 have j2':j<ys.length:=by rw[l2];simpa using j2
 obtain⟨u1,hu1,ru1⟩:=rv.get (List.getElem?_eq_getElem j1')
 obtain⟨u2,hu2,ru2⟩:=rv2.get (List.getElem?_eq_getElem j2')
 obtain⟨t1,ht1,tr1⟩:=q2.get (List.getElem?_eq_getElem j1')
 obtain⟨t2,agQ,tr2⟩:=r2.get (List.getElem?_eq_getElem j2')
 have ee:mQ ts us j=T.beq t1 t2:=by unfold mQ;rw[ht1,agQ]
 have g1:its.toArray[j]=u1:=by
  have:its[j]?=some u1:=hu1
  rw[List.getElem?_eq_some_iff]at this
  obtain⟨_,e⟩:=this
  simpa using e
 have g2:its2.toArray[j]=u2:=by
  have:its2[j]?=some u2:=hu2
  rw[List.getElem?_eq_some_iff]at this
  obtain⟨_,e⟩:=this
  simpa using e
 rw[ee,g1,g2]
 obtain⟨a1,zs1,e1,_⟩:=wB tr1
 obtain⟨a2,zs2,e2,_⟩:=wB tr2
 rw[e1]at ru1 tr1
 rw[e2]at ru2 tr2
 obtain rfl:u1=Value.ref a1:=ru1
 obtain rfl:u2=Value.ref a2:=ru2
 by_cases hne:a1=a2
 ·subst hne
  have et:t1=t2:=(Vy I t1.parts).1 t1 t2 _ `K tr1 tr2
  rw[et,T.oJ]
  exact SeqAt.EqAt.same _
 ·have hd1:t1.deep<=n:=by
   have:=T.jO (List.mem_of_getElem? ht1)
   lia
  exact SeqAt.EqAt.of_refs hne (aa6 I n t1 t2 A a1 a2 hd1 tr1 tr2 hu)
def ahD(K:W.Frag)(n:Nat):R2:=fun x y H Q=>∃t u,TR K H t x/\TR K H u y/\t.deep<=n/\Q (.bl (!T.beq t u)) H
theorem abe{n:Nat}(hu:X.A.units+n+1<cLine):OpR X (compareOp .NotEq) (ahD X.K n):=by
 intro pins s σ H x y v u Q I rx ry h
 obtain⟨t,t',h1,h2,hd,q⟩:=h
 cases t with
 |node ts=>
  cases t' with
  |node us=>
   obtain⟨a,xs,rfl,q1,q2⟩:=cB.mp h1
   obtain⟨b,ys,rfl,r1,r2⟩:=cB.mp h2
   cases rx
   cases ry
   rw[T.bC]at hd
   obtain⟨its,rv,ht,_⟩:=I.tuple q1
   obtain⟨its2,rv2,ht2,_⟩:=I.tuple r1
   have key:=SeqAt.RcNeAt.tuples (A:=X.A) (e:=mQ ts us) ht ht2 `A (agZ I q2 r2 rv rv2 (n:=n) `A (by rw[Around.in1_units];lia))
   have ev:((List.range (min its.toArray.size its2.toArray.size)).all (mQ ts us)&&its.toArray.size==its2.toArray.size)=T.beq (.node ts) (.node us):=by
    rw[List.size_toArray,List.size_toArray,<-rv.length,<-rv2.length,q2.length,r2.length,T.beq,<-wu]
   rw[ev]at key
   exact key _ _ _ _ ⟨.bl _,H,I,rfl,q⟩
end
end Sw
namespace Sw
namespace T
mutual
def wr:T->`F| .node ts=>40::(wrL ts++[41])
def wrL:`D->`F
 |[]=>[]
 |t::ts=>wr t++wrL ts
end
theorem Qy(ts:`D):wr (.node ts)=40::(wrL ts++[41]):=by rw[wr]
theorem QB:wrL []=[]:=by rw[wrL]
theorem KD(t:T)(ts:`D):wrL (t::ts)=wr t++wrL ts:=by rw[wrL]
theorem Qz(t:T):wr t=40::(wrL t.kids++[41]):=by cases t;rw[Qy];rfl
mutual
theorem pN:∀t:T,(wr t).length=2*t.parts
 | .node ts=>by
  rw[Qy,aR,List.length_cons,List.length_append,aaJ ts,List.length_singleton]
  lia
theorem aaJ:∀ts:`D,(wrL ts).length=2*aN ts
 |[]=>by rw[QB,cg];rfl
 |t::ts=>by
  rw[KD,aK,List.length_append,pN t,aaJ ts]
  lia
end
theorem afr(ts:`D):(ts.map wr).flatten=wrL ts:=by
 induction ts with
 |nil=>rw[QB];rfl
 |cons t ts ih=>rw[List.map_cons,List.flatten_cons,ih,KD]
def rd1:List `D->Nat->Option (List `D)
 |r::rs,c=>if c=40 then some ([]::r::rs)else if c=41 then(match rs with|r'::rs'=>some ((r'++[.node r])::rs')|[]=>none)else none
 |[],_=>none
def rd:List `D->`F->Option (List `D)
 |st,[]=>some st
 |st,c::l=>(rd1 st c).bind fun st'=>rd st' l
theorem BP(st:List `D)(c:Nat)(l:`F):rd st (c::l)=(rd1 st c).bind fun st'=>rd st' l:=rfl
theorem GF:∀(a b:`F)(st:List `D),rd st (a++b)=(rd st a).bind fun st'=>rd st' b
 |[],b,st=>rfl
 |c::a,b,st=>by
  rw[List.cons_append,BP,BP]
  cases rd1 st c with
  |none=>rfl
  |some st'=>exact GF a b st'
theorem af0(r:`D)(rs:List `D):rd1 (r::rs) 40=some ([]::r::rs):=rfl
theorem afZ(r r':`D)(rs:List `D):rd1 (r::r'::rs) 41=some ((r'++[.node r])::rs):=rfl
mutual
theorem ahC:∀(t:T)(r:`D)(rs:List `D)(l:`F),rd (r::rs) (wr t++l)=rd ((r++[t])::rs) l
 | .node ts,r,rs,l=>by
  rw[Qy,List.cons_append,BP,af0,Option.bind_some,List.append_assoc,ad3 ts [] (r::rs) ([41]++l),List.nil_append,List.singleton_append,BP,afZ,Option.bind_some]
theorem ad3:∀(ts:`D)(r:`D)(rs:List `D)(l:`F),rd (r::rs) (wrL ts++l)=rd ((r++ts)::rs) l
 |[],r,rs,l=>by rw[QB,List.nil_append,List.append_nil]
 |t::ts,r,rs,l=>by
  rw[KD,List.append_assoc,ahC t r rs,ad3 ts (r++[t]) rs l,List.append_assoc,List.singleton_append]
end
theorem afY(t:T):rd [[]] (wr t)=some [[t]]:=by
 have:=ahC t [] [] []
 rw[List.append_nil]at this
 rw[this]
 rfl
theorem ah_{l:`F}{st st':List `D}{i c:Nat}(hl:rd [[]] l=some st')(hi:rd [[]] (l.take i)=some st)(hc:l[i]?=some c):
  ∃st2,rd1 st c=some st2/\rd [[]] (l.take (i+1))=some st2:=by
 have hlt:i<l.length:=(List.getElem?_eq_some_iff.mp hc).1
 have e1:l.take (i+1)=l.take i++[c]:=by rw[List.take_add_one,hc];rfl
 have e2:l=l.take (i+1)++l.drop (i+1):=(List.take_append_drop _ _).symm
 have h3:rd [[]] (l.take (i+1))=rd1 st c:=by
  rw[e1,GF,hi,Option.bind_some,BP]
  cases rd1 st c<;>rfl
 cases h:rd1 st c with
 |some st2=>exact⟨st2,rfl,by rw[h3,h]⟩
 |none=>
  rw[h]at h3
  rw[e2,GF,h3]at hl
  cases hl
theorem ad4{st st2:List `D}{c:Nat}(h:rd1 st c=some st2):
  (c=40/\∃r rs,st=r::rs/\st2=[]::r::rs)\/(c=41/\∃r r' rs,st=r::r'::rs/\st2=(r'++[.node r])::rs):=by
 cases st with
 |nil=>cases h
 |cons r rs=>
  unfold rd1 at h
  dsimp only at h
  by_cases h1:c=40
  ·rw[if_pos h1]at h
   exact .inl ⟨h1,r,rs,rfl,(Option.some.inj h).symm⟩
  ·rw[if_neg h1]at h
   by_cases h2:c=41
   ·rw[if_pos h2]at h
    cases rs with
    |nil=>cases h
    |cons r' rs=>exact .inr ⟨h2,r,r',rs,rfl,(Option.some.inj h).symm⟩
   ·rw[if_neg h2]at h
    cases h
def Du:Option T->`F
 |none=>[41]
 |some t=>wr t
def out(os:List (Option T)):`F:=(os.reverse.map Du).flatten
theorem aiC:out []=[]:=rfl
theorem oZ(a b:List (Option T)):out (a++b)=out b++out a:=by
 unfold out
 rw[List.reverse_append,List.map_append,List.flatten_append]
theorem BZ(o:Option T):out [o]=Du o:=by simp[out]
theorem WX(ts:`D):out (ts.reverse.map some)=wrL ts:=by
 unfold out
 rw[<-List.map_reverse,List.reverse_reverse,List.map_map,<-afr]
 rfl
theorem WY(o:Option T):1<=(Du o).length:=by
 cases o with
 |none=>exact`K
 |some t=>
  show 1<=(wr t).length
  rw[Qz]
  simp
theorem abd(os:List (Option T)):os.length<=(out os).length:=by
 induction os with
 |nil=>exact`W
 |cons o os ih=>
  have:out (o::os)=out os++Du o:=by rw[<-List.singleton_append,oZ,BZ]
  rw[this,List.length_append,List.length_cons]
  have:=WY o
  lia
end T
namespace T
end T
open PySem PySem.Spec PyProof.Rows L2
section
variable{P:Program}{w:World}{K:W.Frag}{mg:`Y}{base:Heap}{N:List Str}{qual:Str}{scope:Scope}{f:Addr}{cd:Value}{A:Around}{outer:List Env}{s₀:Shared}{H₀:Hp}{E:XK}
end
section
variable{X:Cx}{pins:`U}{σ:Sg}{H:Hp}{s:Shared}
end
def yI(l:`F)(lo hi:Option Int):`F:=(l.drop (HT.sIx l.length 0 lo)).take (HT.sIx l.length l.length hi-HT.sIx l.length 0 lo)
theorem ag4(l:`F)(lo hi:Option Int):(yI l lo hi).length<=l.length:=by
 unfold yI
 rw[List.length_take,List.length_drop]
 lia
theorem idx_eq(lo hi:Option Int)(n:Nat):Builtin.Str.strSliceIndices lo hi 1 n=(List.range (HT.sIx n n hi-HT.sIx n 0 lo)).map (fun k=>HT.sIx n 0 lo+k):=by
 obtain⟨e1,e2,e3⟩:=Gu lo hi n
 have e:Builtin.Str.strSliceIndices lo hi 1 n=sliceRange (sliceBounds lo hi none n).1 (sliceBounds lo hi none n).2.1 1:=rfl
 rw[e,e1,e2]
 generalize HT.sIx n 0 lo=a
 generalize HT.sIx n n hi=b
 have e4:(if(a:Int)<b then((b:Int)-a+1-1)/1 else 0).toNat=b-a:=by
  split
  ·simp
  ·lia
 show List.map _ (List.range (if(a:Int)<b then((b:Int)-a+1-1)/1 else 0).toNat)=_
 rw[e4]
 refine List.map_congr_left fun k _=>?_
 lia
theorem aiu(l:`F)(lo hi:Option Int):(Builtin.Str.strSliceIndices lo hi 1 (tx l).length).filterMap ((tx l).cps[·]?)=yI l lo hi:=by
 have hl:(tx l).length=l.length:=jo l
 rw[hl,idx_eq]
 unfold yI
 have h2:=HT.Wt l.length l.length `K hi
 generalize HT.sIx l.length 0 lo=a
 generalize HT.sIx l.length l.length hi=b at h2
 have key:∀n,a+n<=l.length\/n=0->((List.range n).map fun k=>a+k).filterMap ((tx l).cps[·]?)=(l.drop a).take n:=by
  intro n
  induction n with
  |zero=>intro _;simp
  |succ n ih=>
   intro h
   have h':a+n<l.length:=`A
   rw[List.range_succ,List.map_append,List.filterMap_append,ih `A,List.take_add_one,List.getElem?_drop]
   congr 1
   simp[tx,h']
 exact key (b-a) `A
theorem X7{prog:Program}{w:World}{A:Around}{E:`V}{s:Shared}{l:`F}{t:Tok}{sl:Addr}{vl vu:Value}{lo hi:Option Int}{Q:`V}
  (hs:s.heap.IsSliceOf sl vl vu .none)(pl:IsPart vl lo)(pu:IsPart vu hi)(hz:l.length<=sizeLine)(h:∀t' k,Q (.str (tx (yI l lo hi)) t') {s with toks:=k}):wpAny `b A (getItem (.str (tx l) t) (.ref sl)) Q E s:=by
 have hT:=typeIs_str s (tx l) t
 obtain⟨pl',el,fl⟩:∃p:Option (Int×Tok),partValue p=vl/\p.map (·.1)=lo:=by
  cases pl with
  |none=>exact⟨none,rfl,rfl⟩
  |int i t=>exact⟨some (i,t),rfl,rfl⟩
 obtain⟨pu',eu,fu⟩:∃p:Option (Int×Tok),partValue p=vu/\p.map (·.1)=hi:=by
  cases pu with
  |none=>exact⟨none,rfl,rfl⟩
  |int i t=>exact⟨some (i,t),rfl,rfl⟩
 have hs':s.heap.IsSlice sl pl' pu' none:=by
  obtain⟨o,h1,h2,h3⟩:=hs
  exact⟨o,h1,h2,by rw[el,eu];exact h3⟩
 have ep:slicePicked (tx l) pl' pu' none=Builtin.Str.strSliceIndices lo hi 1 (tx l).length:=by
  unfold slicePicked
  rw[fl,fu]
  rfl
 have m:=meets_str_getitem_slice (tx l) t sl pl' pu' none rfl
 unfold getItem
 try with_reducible refine wpAny_holding ?_
 first|refine wpAny_bind (wpAny_pure ?_)|skip
 refine wpAny_bind (wpAny_callSpecial?_slot (name:=Str.ofString "__getitem__") hT PyProof.Rows.slot_str_getitem ?_)
 refine call_meets PyProof.Rows.slot_str_getitem hT PyProof.Rows.entry_str_getitem (PyProof.Rows.args_str_getitem _ _) m ⟨hs',?_⟩
 unfold sliceMade
 rw[ep]
 split
 ·rename_i hc
  have hlen:(Builtin.Str.strSliceIndices lo hi 1 (tx l).length).length=l.length:=by
   simp at hc
   rw[hc]
   exact jo l
  have aqt:yI l lo hi=l:=by
   have h2:=HT.Wt l.length l.length `K hi
   rw[jo,idx_eq,List.length_map,List.length_range]at hlen
   unfold yI
   by_cases h0:l.length=0
   ·have:l=[]:=List.length_eq_zero_iff.mp h0
    subst this
    simp
   ·have e0:HT.sIx l.length 0 lo=0:=`A
    rw[e0,List.drop_zero,List.take_of_length_le `A]
  have:=h t s.toks
  rw[aqt]at this
  exact wpAny_pure this
 ·rw[aiu]
  refine⟨?_,?_⟩
  ·show(tx (yI l lo hi)).length<=sizeLine
   rw[jo]
   exact Nat.le_trans (ag4 l lo hi) hz
  ·exact wpAny_pure (h _ _)
def am_:V->Option Int->Option Int->Hp->VK->Prop:=fun x lo hi H Q=>∃l,x=.str (tx l)/\l.length<=sizeLine/\Q (.str (tx (yI l lo hi))) H
theorem adW{X:Cx}:SlR X am_:=by
 intro pins s σ H x v vl vu lo hi sl Q I rx hs pl pu h
 obtain⟨l,rfl,hz,q⟩:=h
 obtain⟨t,rfl⟩:=rx
 exact⟨"str",_,PyProof.Rows.slot_str_getitem.lookup,typeIs_str _ _ _,X7 hs pl pu hz fun t' k=>⟨.str _,H,I.tok _,⟨_,rfl⟩,q⟩⟩
section
variable{K:W.Frag}{C a:Addr}{prog:Program}{w:World}{A:Around}
end
structure QE(X:Cx)(e:Expr)(t:TE):Prop where
 run:PE X e t
structure QT(X:Cx)(e:Expr)(t:TT):Prop where
 run:PT X e t
structure QW(X:Cx)(e:Expr)(t:TT):Prop where
 run:PW X e t
structure QA(X:Cx)(es:List Expr)(t:TA):Prop where
 run:PA X es t
structure QS(X:Cx)(st:Stmt)(t:TS):Prop where
 run:PS X st t
structure QSs(X:Cx)(st:List Stmt)(t:TS):Prop where
 run:PSs X st t
structure QI(X:Cx)(tg iter:Expr)(wi:TI):Prop where
 run:PI X tg iter wi
structure QG(X:Cx)(tg:Expr)(t:TG):Prop where
 run:PG X tg t
structure QGs(X:Cx)(ts:List Expr)(t:TGs):Prop where
 run:PGs X ts t
structure QO(X:Cx)(o:Option Expr)(t:TO):Prop where
 run:PO X o t
theorem QW.pt{X:Cx}{e:Expr}{t:TT}(h:QW X e t):QT X e t:=⟨h.run.pt⟩
theorem qv{X:Cx}(i:Nat){x:Str}{pos:Pos}(hN:X.N[i]?=some x:=by rfl)(hv:Vis X.env.scope x:=by first|exact`O|exact Or.inr `O|exact Or.inr (Or.inr rfl))(hd:`l:=by decide)(hcd:(x==("__classdict__":Str))=false:=by decide):QE X (.Name x pos) (tVar i):=⟨L2.pv (i:=i) (hN:=hN) (hv:=hv) (hd:=hd) (hcd:=hcd)⟩
theorem aP{X:Cx}{i j pos}:QE X (.Constant (.int i) j pos) (tC (.int i)):=⟨L2.pe_int⟩
theorem Ox{X:Cx}{b j pos}:QE X (.Constant (.bool b) j pos) (tC (.bl b)):=⟨L2.pe_bl⟩
theorem xZ{X:Cx}{j pos}:QE X (.Constant .none j pos) (tC .non):=⟨L2.WR⟩
theorem bM{X:Cx}{x j pos}:QE X (.Constant (.str x) j pos) (tC (.str x)):=⟨L2.BR⟩
theorem Ri{X:Cx}{x:Str}{v:V}{u:Value}{pos:Pos}(hg:Gl X x)(hm:X.mg x=none)(hv:bootBuiltins x=some u)(r:RelV v u)(hn:x≠"__name__":=by decide)(hd:`l:=by decide):QE X (.Name x pos) (tC v):=⟨L2.abb (hg:=hg) (hm:=hm) (hv:=hv) (r:=r) (hn:=hn) (hd:=hd)⟩
theorem aM{X:Cx}{x:Str}{v:V}{u:Value}{pos:Pos}(hg:Gl X x)(hm:X.mg x=some u)(r:RelV v u)(hd:`l:=by decide):QE X (.Name x pos) (tC v):=⟨L2.aiz (hg:=hg) (hm:=hm) (r:=r) (hd:=hd)⟩
theorem aV{X:Cx}{a b:Expr}{ta tb:TE}{pos:Pos}{op:Operator}{r:R2}(ho:OpR X (binaryOp op) r)(ha:QE X a ta)(hb:QE X b tb):QE X (.BinOp a op b pos) (tOp r ta tb):=⟨L2.pe_op (ho:=ho) (ha:=ha.run) (hb:=hb.run)⟩
theorem ql{X:Cx}{a:Expr}{ta:TE}{pos:Pos}{op:UnaryOp}{r:V->Hp->VK->Prop}(ho:UnR X (unaryOp op) r)(ha:QE X a ta):QE X (.UnaryOp op a pos) (tUn r ta):=⟨L2.ahF (ho:=ho) (ha:=ha.run)⟩
theorem qX{X:Cx}{a b:Expr}{ta tb:TE}{pos:Pos}{op:CmpOp}{r:R2}(ho:OpR X (compareOp op) r)(ha:QE X a ta)(hb:QE X b tb)(hm:behindInMarks op b=false):QE X (.Compare a [op] [b] pos) (tOp r ta tb):=⟨L2.pe_cmpR (ho:=ho) (ha:=ha.run) (hb:=hb.run) (hm:=hm)⟩
theorem ad_{X:Cx}{a b:Expr}{ta tb:TE}{pos:Pos}{rest:List Expr}(ha:QE X a ta)(hb:QE X (.BoolOp .And (b::rest) pos) tb):QE X (.BoolOp .And (a::b::rest) pos) (ahx ta tb):=⟨L2.aj6 (ha:=ha.run) (hb:=hb.run)⟩
theorem al1{X:Cx}{a b:Expr}{ta tb:TE}{pos:Pos}{rest:List Expr}(ha:QE X a ta)(hb:QE X (.BoolOp .Or (b::rest) pos) tb):QE X (.BoolOp .Or (a::b::rest) pos) (ajA ta tb):=⟨L2.al2 (ha:=ha.run) (hb:=hb.run)⟩
theorem ad9{X:Cx}{a:Expr}{pos:Pos}{op}{t:TE}(h:QE X a t):QE X (.BoolOp op [a] pos) t:=⟨L2.aj4 (h:=h.run)⟩
theorem iM{X:Cx}{es:List Expr}{t:TA}{pos:Pos}(h:QA X es t):QE X (.List es pos) (tLst t):=⟨L2.pe_lst (h:=h.run)⟩
theorem bB{X:Cx}{es:List Expr}{t:TA}{pos:Pos}{x1}(h:QA X es t):QE X (.Tuple es x1 pos) (ajy t):=⟨L2.aj3 (h:=h.run)⟩
theorem nU{X:Cx}{a b:Expr}{ta tb:TE}{pos:Pos}{tA:TT}{c:Expr}(hc:QT X c tA)(ha:QE X a ta)(hb:QE X b tb):QE X (.IfExp c a b pos) (tIf tA ta tb):=⟨L2.agf (hc:=hc.run) (ha:=ha.run) (hb:=hb.run)⟩
theorem lM{X:Cx}{e:Expr}{te:TE}{lo hi:Option Expr}{tl th:TO}{pos p2:Pos}{r:V->Option Int->Option Int->Hp->VK->Prop}(hr:SlR X r)(he:QE X e te)(hl:QO X lo tl)(hu:QO X hi th):QE X (.Subscript e (.Slice lo hi none p2) pos) (tSl r te tl th):=⟨L2.agc (hr:=hr) (he:=he.run) (hl:=hl.run) (hu:=hu.run)⟩
theorem cW{X:Cx}{a b:Expr}{ta tb:TE}{pos:Pos}{r:R2}(hr:IxR X r)(ha:QE X a ta)(hb:QE X b tb)(hs:PlainIx b):QE X (.Subscript a b pos) (tOp r ta tb):=⟨L2.pe_ix (hr:=hr) (ha:=ha.run) (hb:=hb.run) (hs:=hs)⟩
theorem Ow{X:Cx}{scope:Scope}{cl:List (Str×Addr)}{x:Str}{fr:List Str}{js:`F}{elt iter:Expr}{px pos:Pos}{wi:TI}{te:TE}(hc:X.calm=true)(L:Jh X scope x fr js cl)(hi:QI X (.Name x px) iter wi)(he:∀C s H fp pins,QE (blk X scope cl C (x::fr) s H fp pins) elt te)(hs:∀v,foldedSetIterable iter X.env v=pure v:=by intro _;rfl):QE X (.ListComp elt [⟨.Name x px,iter,[],0⟩] scope pos) (tLC wi js te):=⟨Sw.al3 (hc:=hc) (L:=L) (hi:=hi.run) (he:=fun C s H fp pins=>(he C s H fp pins).run) (hs:=hs)⟩
theorem aH{X:Cx}{CX:CXT}{k:Nat}{f:Addr}{fd:FuncData}{ps:List Str}{sp:Sp}{dvs:`E}{ds:`L}{E:XK}{x:Str}{p pos:Pos}{e:Expr}{es:List Expr}{t:TA}(F:FnOk X.prog X.w X.K X.mg X.base CX k f fd ps sp)(hr:Room k X.A)(hg:Gl X x)(hm:X.mg x=some (.ref f))(hk:W.keepIn X.K (.ref f)=true)(hb:Binds X.K fd ps ds)(hd:Vals dvs ds)(hx:Passes CX X E)(ha:QA X (e::es) t)(hdb:`l:=by decide)(he:starEach (e::es) X.env=(false,eval e X.env)::starEach es X.env:=by rfl)(hpl:(backTo pos (starEach es X.env)).any (·.1)=false:=by rfl):QE X (.Call (.Name x p) (e::es) [] pos) (tCall sp dvs E t):=⟨L2.pe_call (F:=F) (hr:=hr) (hg:=hg) (hm:=hm) (hk:=hk) (hb:=hb) (hd:=hd) (hx:=hx) (ha:=ha.run) (hdb:=hdb) (he:=he) (hpl:=hpl)⟩
theorem iQ{X:Cx}{CX:CXT}{k:Nat}{f:Addr}{fd:FuncData}{ps:List Str}{sp:Sp}{dvs:`E}{ds:`L}{E:XK}{x:Str}{p pos:Pos}(F:FnOk X.prog X.w X.K X.mg X.base CX k f fd ps sp)(hr:Room k X.A)(hg:Gl X x)(hm:X.mg x=some (.ref f))(hk:W.keepIn X.K (.ref f)=true)(hb:Binds X.K fd ps ds)(hd:Vals dvs ds)(hx:Passes CX X E)(hdb:`l:=by decide):QE X (.Call (.Name x p) [] [] pos) (tCall sp dvs E tNil):=⟨L2.agg (F:=F) (hr:=hr) (hg:=hg) (hm:=hm) (hk:=hk) (hb:=hb) (hd:=hd) (hx:=hx) (hdb:=hdb)⟩
theorem lu{X:Cx}{x:Str}{p pos:Pos}{e:Expr}{es:List Expr}{t:TA}{T:String}{r:`E->Hp->VK->Prop}(hc:CallR X (.type T) r)(hg:Gl X x)(hm:X.mg x=none)(hv:bootBuiltins x=some (.type T))(ha:QA X (e::es) t)(hn:x≠"__name__":=by decide)(hdb:`l:=by decide)(he:starEach (e::es) X.env=(false,eval e X.env)::starEach es X.env:=by rfl)(hpl:(backTo pos (starEach es X.env)).any (·.1)=false:=by rfl):QE X (.Call (.Name x p) (e::es) [] pos) (tCB r t):=⟨L2.Ul (hc:=hc) (hg:=hg) (hm:=hm) (hv:=hv) (ha:=ha.run) (hn:=hn) (hdb:=hdb) (he:=he) (hpl:=hpl)⟩
theorem cJ{X:Cx}{x:Str}{p pos:Pos}{e:Expr}{es:List Expr}{t:TA}{id:String}{r:`E->Hp->VK->Prop}(hc:CallR X (.builtin id) r)(hg:Gl X x)(hm:X.mg x=none)(hv:bootBuiltins x=some (.builtin id))(ha:QA X (e::es) t)(hn:x≠"__name__":=by decide)(hdb:`l:=by decide)(he:starEach (e::es) X.env=(false,eval e X.env)::starEach es X.env:=by rfl)(hpl:(backTo pos (starEach es X.env)).any (·.1)=false:=by rfl):QE X (.Call (.Name x p) (e::es) [] pos) (tCB r t):=⟨L2.pe_callB (hc:=hc) (hg:=hg) (hm:=hm) (hv:=hv) (ha:=ha.run) (hn:=hn) (hdb:=hdb) (he:=he) (hpl:=hpl)⟩
theorem cN{X:Cx}{o e:Expr}{es:List Expr}{to:TE}{t:TA}{name:Str}{apos cpos:Pos}{T id:String}{r:V->`E->Hp->VK->Prop}(pa:PlainAttrs T)(slot:Slot T name id)(hty:typeOf (.builtin id)=pure (.type "method_descriptor"))(hm:MtR X id r)(ho:QE X o to)(ha:QA X (e::es) t)(hbase:attributeBase o name X.env (eval o X.env)=eval o X.env:=by rfl)(hfew:((backTo cpos (starEach (e::es) X.env)).all (fun x=>!x.1)&&(backToKw cpos (keywordEach [] X.env)).all (fun x=>x.1.isSome)
   &&decide ((e::es).length+([]:List Keyword).length+(if([]:List Keyword).isEmpty then 0 else 1)<30))=true:=by rfl)(hline:(apos.endLine==cpos.line)=true:=by rfl)(hs:starEach (e::es) X.env=(false,eval e X.env)::starEach es X.env:=by rfl)(hplain:(backTo cpos (starEach es X.env)).any (·.1)=false:=by rfl):QE X (.Call (.Attribute o name apos) (e::es) [] cpos) (tBM X.K T r to t):=⟨L2.zx (pa:=pa) (slot:=slot) (hty:=hty) (hm:=hm) (ho:=ho.run) (ha:=ha.run) (hbase:=hbase) (hfew:=hfew) (hline:=hline) (hs:=hs) (hplain:=hplain)⟩
theorem j_{X:Cx}{o:Expr}{to:TE}{name:Str}{apos cpos:Pos}{T id:String}{r:V->`E->Hp->VK->Prop}(pa:PlainAttrs T)(slot:Slot T name id)(hty:typeOf (.builtin id)=pure (.type "method_descriptor"))(hm:MtR X id r)(ho:QE X o to)(hbase:attributeBase o name X.env (eval o X.env)=eval o X.env:=by rfl)(hline:(apos.endLine==cpos.line)=true:=by rfl):QE X (.Call (.Attribute o name apos) [] [] cpos) (ajD X.K T r to):=⟨L2.WT (pa:=pa) (slot:=slot) (hty:=hty) (hm:=hm) (ho:=ho.run) (hbase:=hbase) (hline:=hline)⟩
theorem Dl{X:Cx}{e:Expr}{te:TE}{p1 p2 pos pos2:Pos}(hgl:Gl X "list")(hgr:Gl X "reversed")(ml:X.mg "list"=none)(mr:X.mg "reversed"=none)(hc:X.calm=true)(he:QE X e te)(hs1:starEach [.Call (.Name "reversed" p2) [e] [] pos2] X.env=[(false,eval (.Call (.Name "reversed" p2) [e] [] pos2) X.env)]:=by rfl)(hs2:starEach [e] X.env=[(false,eval e X.env)]:=by rfl):QE X (.Call (.Name "list" p1) [.Call (.Name "reversed" p2) [e] [] pos2] [] pos) (SwR.tLR X.K te):=⟨SwR.O_ (hgl:=hgl) (hgr:=hgr) (ml:=ml) (mr:=mr) (hc:=hc) (he:=he.run) (hs1:=hs1) (hs2:=hs2)⟩
theorem fU{X:Cx}{e:Expr}{t:TE}(h:QE X e t)(he:∀whole,isTrue e X.env whole=(do let v<-whole;standAt e.pos;holding [v] (truthy v)):=by intro _;rfl):QT X e (tB t):=⟨L2.aec (h:=h.run) (he:=he)⟩
theorem xX{X:Cx}{a:Expr}{ta:TE}(ha:QE X a ta)(he:∀whole,isTrue a X.env whole=(do let v<-whole;standAt a.pos;holding [v] (truthy v))):QT X a (fun σ H Q=>ta σ H fun x H'=>∃k,Y7 X.K x H' k/\Q k H'):=⟨L2.WD (ha:=ha.run) (he:=he)⟩
theorem aU{X:Cx}{a b:Expr}{ta tb:TE}{pos:Pos}{op:CmpOp}{r:R2}(ho:OpR X (compareOp op) r)(ha:QE X a ta)(hb:QE X b tb)(hm:behindInMarks op b=false):QT X (.Compare a [op] [b] pos) (tTest (tOp r ta tb)):=⟨L2.pt_cmpR (ho:=ho) (ha:=ha.run) (hb:=hb.run) (hm:=hm)⟩
theorem Wx{X:Cx}{a:Expr}{pos:Pos}{tA:TT}(ha:QT X a tA):QT X (.UnaryOp .Not a pos) (ajB tA):=⟨L2.aed (ha:=ha.run)⟩
theorem Ov{X:Cx}{a b:Expr}{pos:Pos}{tA tB':TT}{rest:List Expr}(ha:QT X a tA)(hb:QW X (.BoolOp .And (b::rest) pos) tB'):QW X (.BoolOp .And (a::b::rest) pos) (afF tA tB'):=⟨L2.aeb (ha:=ha.run) (hb:=hb.run)⟩
theorem Jv{X:Cx}{a:Expr}{pos:Pos}{tA:TT}(ha:QT X a tA):QW X (.BoolOp .And [a] pos) tA:=⟨L2.aa9 (ha:=ha.run)⟩
theorem ab3{X:Cx}{a b:Expr}{pos:Pos}{tA tB':TT}{rest:List Expr}(ha:QT X a tA)(hb:QW X (.BoolOp .Or (b::rest) pos) tB'):QW X (.BoolOp .Or (a::b::rest) pos) (tOr tA tB'):=⟨L2.ahE (ha:=ha.run) (hb:=hb.run)⟩
theorem Ww{X:Cx}{a:Expr}{pos:Pos}{tA:TT}(ha:QT X a tA):QW X (.BoolOp .Or [a] pos) tA:=⟨L2.aea (ha:=ha.run)⟩
theorem ak{X:Cx}:QA X [] tNil:=⟨L2.pa_nil⟩
theorem aj{X:Cx}{e:Expr}{es:List Expr}{te:TE}{t:TA}(ha:QE X e te)(hr:QA X es t)(hs:starEach (e::es) X.env=(false,eval e X.env)::starEach es X.env:=by rfl):QA X (e::es) (tCons te t):=⟨L2.pa_cons (ha:=ha.run) (hr:=hr.run) (hs:=hs)⟩
theorem aQ{X:Cx}{e:Expr}{te:TE}{pos:Pos}(he:QE X e te):QS X (.Return (some e) pos) (tRet te):=⟨L2.ps_ret (he:=he.run)⟩
theorem aa8{X:Cx}{pos:Pos}:QS X (.Return none pos) ahr:=⟨L2.ain⟩
theorem aZ{X:Cx}{pos:Pos}{i:Nat}{x:Str}{e:Expr}{te:TE}{pos':Pos}(hN:X.N.Nodup)(hi:X.N[i]?=some x)(hx:Loc X.env.scope x)(he:QE X e te)(hs:swapsWith e (some (.Name x pos')) pos.line X.env=pure false:=by rfl)(hf:X.fn x=true\/X.env.scope.names.lookup x=some .local:=by first|exact .inl rfl|exact .inr rfl|assumption):QS X (.Assign [.Name x pos'] e pos) (tAsg te (gName i)):=⟨L2.ps_set (hN:=hN) (hi:=hi) (hx:=hx) (he:=he.run) (hs:=hs) (hf:=hf)⟩
theorem ad6{X:Cx}{pos:Pos}{i:Nat}{x:Str}{e:Expr}{te:TE}{op:Operator}{ti:TIp}{pos':Pos}(hN:X.N.Nodup)(hi:X.N[i]?=some x)(hx:Loc X.env.scope x)(he:QE X e te)(ho:PIp X op ti)(hf:X.fn x=true\/X.env.scope.names.lookup x=some .local:=by first|exact .inl rfl|exact .inr rfl|assumption):QS X (.AugAssign (.Name x pos') op e pos) (ajE i te ti):=⟨L2.ajW (hN:=hN) (hi:=hi) (hx:=hx) (he:=he.run) (ho:=ho) (hf:=hf)⟩
theorem bA{X:Cx}{t u:TS}{pos:Pos}{c:Expr}{a b:List Stmt}{tc:TT}(hc:QT X c tc)(ha:QSs X a t)(hb:QSs X b u):QS X (.If c a b pos) (tIfS tc t u):=⟨L2.ps_if (hc:=hc.run) (ha:=ha.run) (hb:=hb.run)⟩
theorem tZ{X:Cx}{pos:Pos}{c:Expr}{body:List Stmt}{tc:TT}{tb:TS}(hp:PassesOwn `X X.A X.env X.xe)(hc:QT X c tc)(hb:QSs X body tb):QS X (.While c body [] pos) (Bv tc tb):=⟨L2.WK (hp:=hp) (hc:=hc.run) (hb:=hb.run)⟩
theorem xY{X:Cx}{tg:Expr}{iter:Expr}{body:List Stmt}{wi:TI}{g:TG}{tb:TS}{pos:Pos}(hp:PassesOwn `X X.A X.env X.xe)(hc:X.calm=true)(hi:QI X tg iter wi)(hg:QG X tg g)(hb:QSs X body tb)(hs:∀x,foldedSetIterable iter X.env x=pure x:=by intro _;rfl):QS X (.For tg iter body [] pos) (tFor wi g tb):=⟨L2.ps_for (hp:=hp) (hc:=hc) (hi:=hi.run) (hg:=hg.run) (hb:=hb.run) (hs:=hs)⟩
theorem bY{X:Cx}{e:Expr}{te:TE}{pos:Pos}(he:QE X e te)(hs:swapsWith e none pos.line X.env=pure false:=by rfl):QS X (.Expr e pos) (tDrop te):=⟨L2.ps_expr (he:=he.run) (hs:=hs)⟩
theorem ZC{X:Cx}{pos:Pos}:QS X (.Continue pos) ahu:=⟨L2.ZD⟩
theorem aif{X:Cx}{pos:Pos}:QS X (.Pass pos) tNext:=⟨L2.aio⟩
theorem t_{X:Cx}{st:Stmt}:QS X st adN:=⟨L2.Dm⟩
theorem ajQ{X:Cx}{pos:Pos}{tg e:Expr}{te:TE}{g:TG}(he:QE X e te)(hg:QG X tg g)(hs:swapsWithSole [tg] e pos.line X.env=pure false:=by rfl)(hw:swappedStores [tg] e X.env=pure none:=by rfl)(h1:(assignEach [tg] X.env).map (·.2)=[assign tg X.env]:=by rfl):QS X (.Assign [tg] e pos) (tAsg te g):=⟨L2.ajX (he:=he.run) (hg:=hg.run) (hs:=hs) (hw:=hw) (h1:=h1)⟩
theorem aX{X:Cx}:QSs X [] tNext:=⟨L2.pss_nil⟩
theorem au{X:Cx}{st:Stmt}{rest:List Stmt}{t u:TS}(h1:QS X st t)(h2:QSs X rest u):QSs X (st::rest) (tSeq t u):=⟨L2.pss_cons (h1:=h1.run) (h2:=h2.run)⟩
theorem aq{X:Cx}{st:Stmt}{t:TS}(h1:QS X st t):QSs X [st] t:=⟨L2.pss_one (h1:=h1.run)⟩
theorem zu{X:Cx}{tg:Expr}{a:Expr}{ta:TA}{p pos:Pos}(hg:Gl X "range")(hm:X.mg "range"=none)(ha:QA X [a] ta)(hs:starEach [a] X.env=[(false,eval a X.env)]:=by rfl):QI X tg (.Call (.Name "range" p) [a] [] pos) (ahL ta):=⟨L2.aef (hg:=hg) (hm:=hm) (ha:=ha.run) (hs:=hs)⟩
theorem Rh{X:Cx}{tg:Expr}{l:Expr}{tl:TE}(hl:QE X l tl):QI X tg l (iList X.K tl):=⟨L2.pi_list (hl:=hl.run)⟩
theorem ad8{X:Cx}{tg:Expr}{l:Expr}{tl:TE}(hl:QE X l tl):QI X tg l (akC X.K tl):=⟨L2.aj0 (hl:=hl.run)⟩
theorem qW{X:Cx}{pos:Pos}{i:Nat}{x:Str}(hN:X.N.Nodup)(hi:X.N[i]?=some x)(hx:Loc X.env.scope x)(hf:X.fn x=true\/X.env.scope.names.lookup x=some .local:=by first|exact .inl rfl|exact .inr rfl|assumption):QG X (.Name x pos) (gName i):=⟨L2.pg_name (hN:=hN) (hi:=hi) (hx:=hx) (hf:=hf)⟩
theorem ajR{X:Cx}{pos:Pos}{es:List Expr}{k:Nat}{t:TGs}{n:Nat}(hc:X.calm=true)(h:QGs X es t)(hn:(assignEach es X.env).length=n:=by rfl)(hst:(assignEach es X.env).findIdx? (·.1)=none:=by rfl):QG X (.Tuple es k pos) (agU X.K n t):=⟨L2.aeg (hc:=hc) (h:=h.run) (hn:=hn) (hst:=hst)⟩
theorem aik{X:Cx}:QGs X [] agV:=⟨L2.aa_⟩
theorem Wy{X:Cx}{e:Expr}{es:List Expr}{t:TG}{u:TGs}(h1:QG X e t)(h2:QGs X es u)(hs:(assignEach (e::es) X.env).map (·.2)=assign e X.env::(assignEach es X.env).map (·.2):=by rfl):QGs X (e::es) (Vr t u):=⟨L2.Lp (h1:=h1.run) (h2:=h2.run) (hs:=hs)⟩
theorem uc{X:Cx}:QO X none QJ:=⟨L2.air⟩
theorem j9{X:Cx}{e:Expr}{te:TE}(h:QE X e te):QO X (some e) (ahs te):=⟨L2.aiq (h:=h.run)⟩
theorem okQ{P:Program}{w:World}{K:W.Frag}{mg:`Y}{base:Heap}{x qual:Str}{st:Stmt}{f:Addr}{fd:FuncData}{N ps:List Str}{k:Nat}{sp:Sp}(F:Fun K x qual st f fd)(S:FnScope N ps (defScope st))(len:∀vs H Q E,sp vs H Q E->vs.length=ps.length)
  (hb:∀(cdv:Value)(A:Around)(outer:List Env)(s:Shared)(H:Hp)(vs:`E)(Q:VK)(E:XK),Room k (A.deeper (envOfC qual (defScope st) s.heap.objs.size f cdv))->sp vs H Q E->
   ∃t,QSs (cxOf CX0 P w K mg base N qual (defScope st) f cdv A outer s H E).nox (defBody st) t/\t {nx:=fun _ H'=>Q .non H',rt:=Q} (start N vs) H):FnOk P w K mg base CX0 (k+1) f fd ps sp:=
 F.ok S len fun cdv A outer s H vs Q E hr h=>let⟨t,q,r⟩:=hb cdv A outer s H vs Q E hr h;⟨t,q.run,r⟩
theorem kO:bootBuiltins "len"=some (.builtin "len"):=`C
theorem alx:bootBuiltins "sum"=some (.builtin "sum"):=`C
theorem aeO:bootBuiltins "min"=some (.builtin "min"):=`C
theorem cV:bootBuiltins "isinstance"=some (.builtin "isinstance"):=`C
theorem YG:bootBuiltins "str"=some (.type "str"):=`C
theorem jU:bootBuiltins "tuple"=some `a:=`C
theorem small{n:Nat}(h:n<=1000000):n<=sizeLine:=Nat.le_trans h `B
theorem mX{n:Nat}(h:n<=1000000):n<sizeLine:=Nat.lt_of_le_of_lt h `B
theorem RP{α:Type}{ys:List α}(h:ys≠[]):∃y,ys[ys.length-1]?=some y:=by
 have:ys.length-1<ys.length:=by
  have:=List.length_pos_iff.mpr h
  lia
 exact⟨ys[ys.length-1],List.getElem?_eq_getElem this⟩
theorem zL{α:Type}:∀l:List α,(l.map fun c=>[c]).flatten=l
 |[]=>rfl
 |c::l=>by rw[List.map_cons,List.flatten_cons,zL l];rfl
theorem aO.dropLast{α β:Type}{R:α->β->Prop}{as:List α}{bs:List β}(h:aO R as bs):aO R as.dropLast bs.dropLast:=by
 rw[List.dropLast_eq_take,List.dropLast_eq_take,h.length]
 exact h.take _
theorem Ux{α:Type}{ys:List α}{y:α}(h:ys[ys.length-1]?=some y):ys=ys.dropLast++[y]:=by
 have hne:ys≠[]:=by rintro rfl;simp at h
 have h2:=List.dropLast_concat_getLast hne
 have h3:ys.getLast hne=y:=by
  rw[<-List.getLast?_eq_getElem?,List.getLast?_eq_some_getLast hne]at h
  exact Option.some.inj h
 rw[h3]at h2
 exact h2.symm
theorem Yu(xs:`E)(k:Nat):jT xs (some (k:Int)) none=xs.drop k:=by
 unfold jT
 rw[HT.tY,HT.Ws]
 by_cases h:k<=xs.length
 ·rw[Nat.min_eq_left h,List.take_of_length_le (by rw[List.length_drop];lia)]
 ·rw[Nat.min_eq_right `A,List.drop_eq_nil_of_le `A,List.drop_eq_nil_of_le `A,List.take_nil]
theorem aeK(xs:`E)(k:Nat):jT xs none (some (k:Int))=xs.take k:=by
 unfold jT
 rw[HT.tY,HT.Ws,List.drop_zero,Nat.sub_zero]
 by_cases h:k<=xs.length
 ·rw[Nat.min_eq_left h]
 ·rw[Nat.min_eq_right `A,List.take_of_length_le `K,List.take_of_length_le `A]
section
variable{K:W.Frag}
theorem aO.rev{α β:Type}{R:α->β->Prop}{as:List α}{bs:List β}(h:aO R as bs):aO R as.reverse bs.reverse:=by
 induction h with
 |nil=>exact .nil
 |cons r _ ih=>rw[List.reverse_cons,List.reverse_cons];exact ih.append (aO.one r)
def JK(K:W.Frag)(H₀ H:Hp)(ts:`D)(x:V):Prop:=∃a xs,x=`I/\H₀ a=none/\H a=some (.lst xs)/\TRs K H ts xs
structure qw(K:W.Frag)(H₀ H:Hp)(p:Addr)(st:List `D)(ys:`E):Prop where
 new:H₀ p=none
 same:Same H₀ H
 at_:H p=some (.lst ys)
 rows:aO (JK K H₀ H) st.reverse ys
 nd:((.ref p:V)::ys).Nodup
theorem JK.upd{H₀ H:Hp}{p:Addr}{o:HO}{ts:`D}{x:V}(h:JK K H₀ H ts x)(hne:x≠.ref p)(k:Kt H (upd H p o)):JK K H₀ (upd H p o) ts x:=by
 obtain⟨a,xs,rfl,h1,h2,h3⟩:=h
 exact⟨a,xs,rfl,h1,by rw[upd_ne (fun z=>hne (by rw[z]))];exact h2,h3.mono k⟩
theorem jN{H₀ H:Hp}{p:Addr}{o:HO}(k:Kt H (upd H p o)):∀{ss:List `D}{ys:`E},aO (JK K H₀ H) ss ys->(.ref p:V)∉ys->aO (JK K H₀ (upd H p o)) ss ys:=by
 intro ss ys h
 induction h with
 |nil=>intro _;exact .nil
 |cons r _ ih=>intro hn;exact .cons (r.upd (fun z=>hn (by rw[z];exact List.mem_cons_self)) k) (ih fun z=>hn (List.mem_cons_of_mem _ z))
theorem GC{H₀ H:Hp}{p q:Addr}{st:List `D}{ys:`E}(R:qw K H₀ H p st ys)(hq:H q=none):qw K H₀ (upd (upd H q (.lst [])) p (.lst (ys++[.ref q]))) p ([]::st) (ys++[.ref q]):=by
 have npq:p≠q:=ne_of_none R.at_ hq
 have hq0:H₀ q=none:=R.same.free hq
 have nin:(.ref q:V)∉ys:=fun hm=>by
  obtain⟨i,hi⟩:=List.mem_iff_getElem?.mp hm
  obtain⟨ts,_,a,xs,e,_,h2,_⟩:=R.rows.get hi
  cases e
  rw[hq]at h2
  cases h2
 have nd:=List.nodup_cons.mp R.nd
 have k1:Kt H (upd H q (.lst [])):=Kt.new hq
 have h1:upd H q (.lst []) p=some (.lst ys):=by rw[upd_ne npq];exact R.at_
 have k2:Kt (upd H q (.lst [])) (upd (upd H q (.lst [])) p (.lst (ys++[.ref q]))):=Kt.lst h1
 refine⟨R.new,bN (bN R.same hq0) R.new,upd_same,?_,?_⟩
 ·rw[List.reverse_cons]
  refine aO.append (jN k2 (jN k1 R.rows nin) nd.1) (aO.one ⟨q,[],rfl,hq0,?_,bH.mpr rfl⟩)
  rw[upd_ne (Ne.symm npq)]
  exact upd_same
 ·rw[<-List.cons_append]
  refine List.nodup_append.mpr ⟨R.nd,`G,fun x hx y hy e=>?_⟩
  have ey:y=.ref q:=by simpa using hy
  rw[ey]at e
  subst e
  rcases List.mem_cons.mp hx with z|z
  ·exact npq (V.ref.inj z).symm
  ·exact nin z
theorem aO.snoc{α β:Type}{R:α->β->Prop}{as:List α}{a:α}{bs:List β}(h:aO R (as++[a]) bs):∃bs' b,bs=bs'++[b]/\aO R as bs'/\R a b:=by
 induction as generalizing bs with
 |nil=>
  cases h with
  |cons r h=>cases h;exact⟨[],_,rfl,.nil,r⟩
 |cons c as ih=>
  cases h with
  |cons r h=>
   obtain⟨bs',b,rfl,h1,h2⟩:=ih h
   exact⟨_::bs',b,rfl,.cons r h1,h2⟩
theorem ad1{H₀ H:Hp}{p:Addr}{r r':`D}{rs:List `D}{ys:`E}(R:qw K H₀ H p (r::r'::rs) ys):
  ∃(ys0:`E)(a' a:Addr)(xs' xs:`E),ys=ys0++[.ref a']++[`I]/\H a=some (.lst xs)/\H a'=some (.lst xs')/\p≠a/\p≠a'/\xs.length=r.length/\xs'.length=r'.length/\
   ∀b,upd H p (.lst (ys0++[.ref a'])) b=none->qw K H₀ (upd (upd (upd H p (.lst (ys0++[.ref a']))) b (.tup xs)) a' (.lst (xs'++[.ref b]))) p ((r'++[.node r])::rs) (ys0++[.ref a']):=by
 have hr:=R.rows
 rw[List.reverse_cons,List.reverse_cons]at hr
 obtain⟨ys1,y,rfl,h1,a,xs,rfl,ha0,ha,hta⟩:=aO.snoc hr
 obtain⟨ys0,y',rfl,h2,a',xs',rfl,akI,ha',akE⟩:=aO.snoc h1
 have nd:=R.nd
 have ndp:(.ref p:V)∉ys0++[.ref a']++[`I]:=(List.nodup_cons.mp nd).1
 have ndy:=(List.nodup_cons.mp nd).2
 have npa:p≠a:=fun z=>ndp (by rw[z];simp)
 have Hi:p≠a':=fun z=>ndp (by rw[z];simp)
 have nd1:(ys0++[V.ref a']).Nodup:=(List.nodup_append.mp ndy).1
 have na':(.ref a':V)∉ys0:=fun z=>(List.nodup_append.mp nd1).2.2 _ z _ `G rfl
 refine⟨ys0,a',a,xs',xs,rfl,ha,ha',npa,Hi,hta.length,akE.length,fun b hb=>?_⟩
 have k1:Kt H (upd H p (.lst (ys0++[.ref a']))):=Kt.lst R.at_
 have k2:Kt (upd H p (.lst (ys0++[.ref a']))) (upd (upd H p (.lst (ys0++[.ref a']))) b (.tup xs)):=Kt.new hb
 have npb:p≠b:=fun z=>by rw[<-z,upd_same]at hb;cases hb
 have nab:a'≠b:=fun z=>by
  rw[<-z,upd_ne (Ne.symm Hi),ha']at hb
  cases hb
 have hbH:H b=none:=by rw[upd_ne (Ne.symm npb)]at hb;exact hb
 have hb0:H₀ b=none:=R.same.free hbH
 have h3:upd (upd H p (.lst (ys0++[.ref a']))) b (.tup xs) a'=some (.lst xs'):=by rw[upd_ne nab,upd_ne (Ne.symm Hi)];exact ha'
 have k3:Kt (upd (upd H p (.lst (ys0++[.ref a']))) b (.tup xs)) (upd (upd (upd H p (.lst (ys0++[.ref a']))) b (.tup xs)) a' (.lst (xs'++[.ref b]))):=Kt.lst h3
 have nb0:(.ref b:V)∉ys0:=fun hm=>by
  obtain⟨i,hi⟩:=List.mem_iff_getElem?.mp hm
  obtain⟨ts,_,c,zs,e,_,g2,_⟩:=h2.get hi
  cases e
  rw[hbH]at g2
  cases g2
 have np0:(.ref p:V)∉ys0:=fun z=>ndp (by simp[z])
 refine⟨R.new,bN (bN (bN R.same R.new) hb0) akI,?_,?_,?_⟩
 ·rw[upd_ne Hi,upd_ne npb]
  exact upd_same
 ·rw[List.reverse_cons]
  refine aO.append (jN k3 (jN k2 (jN k1 h2 np0) nb0) na') (aO.one ⟨a',xs'++[.ref b],rfl,akI,upd_same,?_⟩)
  have kk:=k1.trans (k2.trans k3)
  refine TRs.append (akE.mono kk) (cD.mpr ⟨_,[],rfl,tQ (xs:=xs) (SqT.of ?_) (hta.mono kk),bH.mpr rfl⟩)
  rw[upd_ne (Ne.symm nab)]
  exact upd_same
 ·exact List.nodup_cons.mpr ⟨fun z=>ndp (by rcases List.mem_append.mp z with z|z<;>simp[z]<;>simp_all),nd1⟩
theorem kY{ys:`E}{v:V}:atI (ys++[v]) (-1)=some v:=by
 unfold atI ixN
 have hl:(ys++[v]).length=ys.length+1:=`G
 rw[if_neg `B,if_pos (by rw[hl];lia),hl,show((-1:Int)+((ys.length+1:Nat):Int)).toNat=ys.length by lia,Option.bind_some]
 simp
end
section
variable{X:Cx}
def Wv(K:W.Frag):R2:=fun x y H Q=>∃a b xs ys,x=`I/\y=.ref b/\SqT K H a xs/\SqT K H b ys/\xs.length+ys.length<=sizeLine/\∀p H',`N->SqT K H' p (xs++ys)->Q (.ref p) H'
theorem bO:OpR X (binaryOp .Add) (Wv X.K):=by
 intro pins s σ H x y v u Q I rx ry h
 obtain⟨a,b,xs,ys,rfl,rfl,ha,hb,hz,q⟩:=h
 by_cases hx:xs=[]
 ·subst hx
  cases rx
  cases ry
  obtain⟨its,r1,p1,_⟩:=I.tuple ha
  obtain⟨its2,r2,p2,_⟩:=I.tuple hb
  have e1:its=[]:=r1.Ca.mpr rfl
  subst e1
  obtain⟨⟨cls,dd,data,sl⟩,ho,hc,n,hd⟩:=id p1
  obtain⟨⟨cls2,dd2,data2,sl2⟩,ho2,hc2,n2,hd2⟩:=id p2
  simp only at hc hd hc2 hd2
  subst hc hd hc2 hd2
  exact concat_meets ⟨_,ho,rfl⟩ ⟨_,ho2,rfl⟩ noFill_tuple_add seq_tuple_add PySem.F.slot_tuple_add PySem.F.entry_tuple_add (PySem.F.args_tuple_add_2 _ _)
   (tuple_addW0 a b ([]:`L).toArray its2.toArray n n2 dd dd2 sl sl2 rfl) ⟨ho,ho2,⟨.ref b,H,I,rfl,q b H (Same.refl H) hb⟩⟩
 ·refine aiD pins s σ H _ _ v u Q I rx ry ⟨a,b,xs,ys,rfl,rfl,ha,hb,hx,hz,fun e=>?_,fun _ p hp=>q p _ (same_new hp _) (SqT.of upd_same)⟩
  subst e
  exact q a H (Same.refl H) (by rw[List.append_nil];exact ha)
theorem Mi:fillsNumberSlot `a "mul"=pure false:=by
 first|kernel_rfl|(unfold fillsNumberSlot;kernel_rfl)
theorem Wu:seqRepeat? `a=pure (some (.builtin "tuple.__mul__")):=by
 unfold seqRepeat?
 first|kernel_rfl|(simp only[typeLookup_type,builtinLookup_eq_fast];kernel_rfl)|rfl
theorem ab0(a:Int)(t:Tok)(l:Addr)(items:Array Value)(n:Nat)(dd:Option Addr)(sl:`f):
  Meets (Builtin.«int.__rmul__» ⟨[.int a t,.ref l],[]⟩) (fun _ R s=>s.heap.get? l=some {cls:=`a,dict:=dd,data:=.seq items n,slots:=sl}/\R (.ok (.ret Value.notImplemented)) s):=
 .of_wp fun prog w A R s h=>by
  obtain⟨hp,g,d,tk,os⟩:=s
  obtain⟨hl,h⟩:=h
  wp_walk
  exact⟨_,rfl,h⟩
theorem adK(l:Addr)(items:Array Value)(n:Nat)(dd:Option Addr)(sl:`f)(k:Int)(t:Tok)(h0:(items.isEmpty||k==1)=true)(h1:¬(decide (k< -(2^63))||decide (k>=2^63))=true):
  Meets (Builtin.«tuple.__mul__» ⟨[.ref l,.int k t],[]⟩) (fun _ R s=>s.heap.get? l=some {cls:=`a,dict:=dd,data:=.seq items n,slots:=sl}/\R (.ok (.ret (.ref l))) s):=
 .of_wp fun prog w A R s h=>by
  obtain⟨hp,g,d,tk,os⟩:=s
  obtain⟨hl,h⟩:=h
  have f1:=AutoSeq1.idx_int
  have f2:=AutoSeq1.sub_tuple_tuple
  wp_walk using AutoSeq1.wpAny_loadPart' hl
  rw[if_neg h1]
  wp_walk using AutoSeq1.wpAny_loadPart' hl
  exact⟨_,rfl,h⟩
theorem adJ(l:Addr)(items:Array Value)(n:Nat)(dd:Option Addr)(sl:`f)(k:Int)(t:Tok)(h0:¬(items.isEmpty||k==1)=true)(h1:¬(decide (k< -(2^63))||decide (k>=2^63))=true)(h2:(decide (k<=0)||items.isEmpty)=true):
  Meets (Builtin.«tuple.__mul__» ⟨[.ref l,.int k t],[]⟩) (fun _ R s=>s.heap.get? l=some {cls:=`a,dict:=dd,data:=.seq items n,slots:=sl}/\R (.ok (.ret `g)) {s with heap:=s.heap.push {cls:=`a,data:=.seq #[]}}):=
 .of_wp fun prog w A R s h=>by
  obtain⟨hp,g,d,tk,os⟩:=s
  obtain⟨hl,h⟩:=h
  have f1:=AutoSeq1.idx_int
  have f2:=AutoSeq1.sub_tuple_tuple
  wp_walk using AutoSeq1.wpAny_loadPart' hl
  rw[if_neg h1]
  wp_walk using AutoSeq1.wpAny_loadPart' hl
  exact⟨_,rfl,h⟩
theorem adL(l:Addr)(items:Array Value)(n:Nat)(dd:Option Addr)(sl:`f)(k:Int)(t:Tok)(h0:¬(items.isEmpty||k==1)=true)(h1:¬(decide (k< -(2^63))||decide (k>=2^63))=true)(h2:¬(decide (k<=0)||items.isEmpty)=true)
  (h3:¬(items.size:Int)*k>(2^63-1)/8)(h4:¬Builtin.Tuple.tupleTooMany ((items.size:Int)*k)=true)(h5:((List.replicate k.toNat items).foldl (·++·) #[]).size<=sizeLine):
  Meets (Builtin.«tuple.__mul__» ⟨[.ref l,.int k t],[]⟩) (fun _ R s=>s.heap.get? l=some {cls:=`a,dict:=dd,data:=.seq items n,slots:=sl}/\R (.ok (.ret `g)) {s with heap:=s.heap.push {cls:=`a,data:=.seq ((List.replicate k.toNat items).foldl (·++·) #[])}}):=
 .of_wp fun prog w A R s h=>by
  obtain⟨hp,g,d,tk,os⟩:=s
  obtain⟨hl,h⟩:=h
  have f1:=AutoSeq1.idx_int
  have f2:=AutoSeq1.sub_tuple_tuple
  wp_walk using AutoSeq1.wpAny_loadPart' hl
  rw[if_neg h1]
  wp_walk using AutoSeq1.wpAny_loadPart' hl
  rw[if_neg h3]
  wp_walk using AutoSeq1.wpAny_loadPart' hl
  exact⟨_,rfl,h⟩
def vJ(xs:`E)(k:Int):`E:=(List.replicate k.toNat xs).flatten
def GR(K:W.Frag):R2:=fun x y H Q=>∃a k xs,x=`I/\y=.int k/\SqT K H a xs/\-(2^62)<=k/\k<2^62/\xs.length*k.toNat<=sizeLine/\∀p H',`N->SqT K H' p (vJ xs k)->Q (.ref p) H'
theorem ug:OpR X (binaryOp .Mult) (GR X.K):=by
 intro pins s σ H x y v u Q I rx ry h
 obtain⟨a,k,xs,rfl,rfl,ha,h1,h2,hz,q⟩:=h
 cases rx
 obtain⟨t,rfl⟩:=ry
 obtain⟨its,r,p1,hzx⟩:=I.tuple ha
 have hlen:=r.length
 obtain⟨⟨cls,dd,data,sl⟩,ho,hc,n,hd⟩:=id p1
 simp only at hc hd
 subst hc hd
 have b1:¬(decide (k< -(2^63))||decide (k>=2^63))=true:=by
  rw[decide_eq_false `A,decide_eq_false `A]
  decide
 refine wpAny_binaryOp_repeat_ref (T:="tuple") (U:="int") `B ⟨_,ho,rfl⟩ (fun s'=>typeIs_int s' k t) Mi F.fills_int_mul F.slot_int_rmul Wu F.slot_int_index.lookup
  (call_meets F.slot_int_rmul (typeIs_int s k t) F.entry_int_rmul (F.args_int_rmul_2 _ _) (ab0 k t a its.toArray n dd sl) ⟨ho,rfl,⟨_,ho,rfl⟩,?_⟩)
 by_cases c0:(its.toArray.isEmpty||k==1)=true
 ·refine call_meets F.slot_tuple_mul ⟨_,ho,rfl⟩ F.entry_tuple_mul (F.args_tuple_mul_2 _ _) (adK a its.toArray n dd sl k t c0 b1) ⟨ho,⟨`I,H,I,rfl,q a H (Same.refl H) ?_⟩⟩
  rcases Bool.or_eq_true_iff.mp c0 with z|z
  ·have:its=[]:=by simpa using z
   have hx:xs=[]:=r.Ca.mp this
   subst hx
   have:vJ ([]:`E) k=[]:=by unfold vJ;simp
   rw[this]
   exact ha
  ·have:k=1:=by simpa using z
   subst this
   have:vJ xs 1=xs:=by unfold vJ;simp
   rw[this]
   exact ha
 ·by_cases c2:(decide (k<=0)||its.toArray.isEmpty)=true
  ·refine call_meets F.slot_tuple_mul ⟨_,ho,rfl⟩ F.entry_tuple_mul (F.args_tuple_mul_2 _ _) (adJ a its.toArray n dd sl k t c0 b1 c2) ⟨ho,?_⟩
   have hk:k<=0:=by
    rcases Bool.or_eq_true_iff.mp c2 with z|z
    ·exact of_decide_eq_true z
    ·rw[z]at c0
     exact absurd rfl c0
   have e0:vJ xs k=[]:=by
    unfold vJ
    rw[show k.toNat=0 by lia]
    rfl
   refine⟨`g,_,I.laid (t':=s.toks) (o:=.tup []) (fun b ob z=>Heap.get?_push_of_some _ z) `K ?_,rfl,q _ _ (same_new (I.hok.fresh `K) _) (by rw[e0];exact SqT.of upd_same)⟩
   exact⟨`W,[],.nil,IsTup.new _ _⟩
  ·have hk:0<k:=by
    by_cases hk:k<=0
    ·rw[decide_eq_true hk]at c2
     exact absurd rfl c2
    ·lia
   have hsz:its.toArray.size*k.toNat<=sizeLine:=by rw[List.size_toArray,<-hlen];exact hz
   have hsl:(sizeLine:Nat)=16777216:=sizeLine_eq
   have hpr:(its.toArray.size:Int)*k=((its.toArray.size*k.toNat:Nat):Int):=by
    rw[Int.natCast_mul,show((k.toNat:Nat):Int)=k by lia]
   have hnew:(List.replicate k.toNat its.toArray).foldl (·++·) #[]=(List.replicate k.toNat its).flatten.toArray:=by
    have:=foldl_rep its k.toNat []
    rw[List.nil_append]at this
    exact this
   have hrl:(List.replicate k.toNat its).flatten.length<=sizeLine:=by
    rw[len_rep,Nat.mul_comm]
    simpa using hsz
   refine call_meets F.slot_tuple_mul ⟨_,ho,rfl⟩ F.entry_tuple_mul (F.args_tuple_mul_2 _ _) (adL a its.toArray n dd sl k t c0 b1 c2 ?_ ?_ ?_) ⟨ho,?_⟩
   ·rw[hpr]
    have:((2:Int)^63-1)/8=1152921504606846975:=`B
    rw[this]
    lia
   ·unfold Builtin.Tuple.tupleTooMany
    rw[hpr,decide_eq_false `A]
    decide
   ·rw[hnew,List.size_toArray]
    exact hrl
   ·rw[hnew]
    have rr:=r.rep k.toNat
    refine⟨`g,_,I.laid (t':=s.toks) (o:=.tup (vJ xs k)) (fun b ob z=>Heap.get?_push_of_some _ z) `K ?_,rfl,q _ _ (same_new (I.hok.fresh `K) _) (SqT.of upd_same)⟩
    exact⟨by unfold vJ;rw[rr.length];exact hrl,_,rr,IsTup.new _ _⟩
end
theorem aeG{H:Hp}{lo:Int}{n:Nat}{σ:Sg}{js:`F}{te:TE}{Q:VK}(J:Addr->Nat->`E->`M)(hz:n<=sizeLine)(h0:∀D,H D=none->J D 0 [] (upd H D (.lst [])))
  (hD:∀D i ys H',J D i ys H'->H' D=some (.lst ys)/\ys.length=i)
  (hte:∀D i ys H'(R:VK),i<n->J D i ys H'->(∀y H3,H3 D=some (.lst ys)->J D (i+1) (ys++[y]) (upd H3 D (.lst (ys++[y])))->R y H3)->te (some (.int (lo+i))::frv σ js) H' R)
  (q:∀D ys H',J D n ys H'->Q (.ref D) H'):Fl (Itr lo n) js te σ Q H:=by
 intro D hDn
 refine⟨fun i m ys H'=>m=n-i/\i<=n/\J D i ys H',⟨n,`A,`W,h0 D hDn⟩,?_⟩
 rintro i m ys H'⟨rfl,hi,hj⟩
 obtain⟨h1,h2⟩:=hD D i ys H' hj
 refine⟨h1,?_⟩
 by_cases hlt:i<n
 ·refine .inr ⟨hlt,fun x H2 y=>?_⟩
  obtain⟨e,y⟩:=y
  subst e
  subst y
  exact hte D i ys _ _ hlt hj fun y H3 g1 g2=>⟨g1,`A,n-(i+1),`A,rfl,hlt,g2⟩
 ·have e:i=n:=`A
  subst e
  exact .inl ⟨`K,q D ys H' hj⟩
theorem abj{K:W.Frag}{H:Hp}{a:Addr}{xs:`E}{σ:Sg}{js:`F}{te:TE}{Q:VK}(J:Addr->Nat->`E->`M)(hz:xs.length<=sizeLine)(h0:∀D,H D=none->J D 0 [] (upd H D (.lst [])))
  (hD:∀D i ys H',J D i ys H'->H' D=some (.lst ys)/\ys.length=i/\SqT K H' a xs)
  (hte:∀D i x ys H'(R:VK),xs[i]?=some x->J D i ys H'->(∀y H3,H3 D=some (.lst ys)->J D (i+1) (ys++[y]) (upd H3 D (.lst (ys++[y])))->R y H3)->te (some x::frv σ js) H' R)
  (q:∀D ys H',J D xs.length ys H'->Q (.ref D) H'):Fl (Itt K a) js te σ Q H:=by
 intro D hDn
 refine⟨fun i m ys H'=>m=xs.length-i/\i<=xs.length/\J D i ys H',⟨xs.length,`A,`W,h0 D hDn⟩,?_⟩
 rintro i m ys H'⟨rfl,hi,hj⟩
 obtain⟨h1,h2,h3⟩:=hD D i ys H' hj
 refine⟨h1,?_⟩
 by_cases hlt:i<xs.length
 ·refine .inr ⟨⟨xs,xs[i],h3,List.getElem?_eq_getElem hlt⟩,fun x H2 y=>?_⟩
  obtain⟨e,y⟩:=y
  subst e
  exact hte D i x ys _ _ (y xs h3) hj fun y H3 g1 g2=>⟨g1,`A,xs.length-(i+1),`A,rfl,hlt,g2⟩
 ·have e:i=xs.length:=`A
  subst e
  exact .inl ⟨⟨xs,h3,`K⟩,q D ys H' hj⟩
theorem agG{K:W.Frag}{H:Hp}{a:Addr}{xs:`E}{σ:Sg}{js:`F}{te:TE}{Q:VK}(J:Addr->Nat->`E->`M)(hz:xs.length<=sizeLine)(h0:∀D,H D=none->J D 0 [] (upd H D (.lst [])))
  (hD:∀D i ys H',J D i ys H'->H' D=some (.lst ys)/\ys.length=i/\SqL K H' a xs)
  (hte:∀D i x ys H'(R:VK),xs[i]?=some x->J D i ys H'->(∀y H3,H3 D=some (.lst ys)->J D (i+1) (ys++[y]) (upd H3 D (.lst (ys++[y])))->R y H3)->te (some x::frv σ js) H' R)
  (q:∀D ys H',J D xs.length ys H'->Q (.ref D) H'):Fl (Itl K a) js te σ Q H:=by
 intro D hDn
 refine⟨fun i m ys H'=>m=xs.length-i/\i<=xs.length/\J D i ys H',⟨xs.length,`A,`W,h0 D hDn⟩,?_⟩
 rintro i m ys H'⟨rfl,hi,hj⟩
 obtain⟨h1,h2,h3⟩:=hD D i ys H' hj
 refine⟨h1,?_⟩
 by_cases hlt:i<xs.length
 ·refine .inr ⟨⟨xs,xs[i],h3,List.getElem?_eq_getElem hlt⟩,fun x H2 y=>?_⟩
  obtain⟨e,y⟩:=y
  subst e
  exact hte D i x ys _ _ (y xs h3) hj fun y H3 g1 g2=>⟨g1,`A,xs.length-(i+1),`A,rfl,hlt,g2⟩
 ·have e:i=xs.length:=`A
  subst e
  exact .inl ⟨⟨xs,h3,`K⟩,q D ys H' hj⟩
def Fp(H:Hp)(p:Addr):Prop:=∃ns:List Int,H p=some (.lst (ns.map V.int))
structure Dr(p:Addr)(H H':Hp):Prop where
 keep:∀b o,b≠p->H b=some o->H' b=some o
 Np:Fp H' p
theorem Dr.refl{p:Addr}{H:Hp}(d:Fp H p):Dr p H H:=⟨fun _ _ _ e=>e,d⟩
theorem Dr.trans{p:Addr}{H H1 H2:Hp}(a:Dr p H H1)(b:Dr p H1 H2):Dr p H H2:=⟨fun c o n e=>b.keep c o n (a.keep c o n e),b.Np⟩
theorem Dr.same{p:Addr}{H H1 H2:Hp}(a:Dr p H H1)(S:Same H1 H2):Dr p H H2:=⟨fun c o n e=>S c o (a.keep c o n e),let⟨ns,e⟩:=a.Np;⟨ns,S _ _ e⟩⟩
theorem Dr.kt{p:Addr}{H H':Hp}(d:Fp H p)(a:Dr p H H'):Kt H H':=by
 obtain⟨ns,e⟩:=d
 exact⟨fun b xs q=>a.keep b _ (ne_of q e (fun z=>by cases z)) q,fun b o u q=>a.keep b _ (ne_of q e (fun z=>by cases z)) q⟩
theorem Dr.upd{p b:Addr}{H H':Hp}{o:HO}(a:Dr p H H')(h:H b=none)(hp:b≠p):Dr p H (upd H' b o):=
 ⟨fun c u n e=>by rw[upd_ne (ne_of_none e h)];exact a.keep c u n e,let⟨ns,e⟩:=a.Np;⟨ns,by rw[upd_ne (Ne.symm hp)];exact e⟩⟩
section
variable{X:Cx}{scope:Scope}{cl:List (Str×Addr)}{x:Str}{fr:List Str}{js:`F}{elt iter:Expr}{px pos:Pos}{wi:TI}{te:TE}{pins:`U}{s:Shared}{σ:Sg}{H:Hp}
end
section
variable{K:W.Frag}{H:Hp}{Q:VK}
theorem cU{ts us:`D}{x y:V}(hx:TR K H (.node ts) x)(hy:TR K H (.node us) y)(hz:ts.length+us.length<=sizeLine)(q:∀z H',`N->TR K H' (.node (ts++us)) z->Q z H'):Wv K x y H Q:=by
 obtain⟨a,xs,rfl,ha,ra⟩:=cB.mp hx
 obtain⟨b,ys,rfl,hb,rb⟩:=cB.mp hy
 refine⟨a,b,xs,ys,rfl,rfl,ha,hb,by rw[ra.length,rb.length];exact hz,fun p H' S h=>q _ _ S (tQ h ((ra.append rb).mono (.of S)))⟩
theorem TRs.at{ts:`D}{xs:`E}(h:TRs K H ts xs){i:Nat}{t:T}(e:ts[i]?=some t):∃x,xs[i]?=some x/\TR K H t x:=by
 have hl:=h.length
 have hi:i<ts.length:=(List.getElem?_eq_some_iff.mp e).1
 have e2:xs[i]?=some (xs[i]'`A):=List.getElem?_eq_getElem _
 obtain⟨t',e3,h3⟩:=h.get e2
 rw[e]at e3
 cases e3
 exact⟨_,e2,h3⟩
theorem nIx{ts:`D}{x y:V}{t:T}(hx:TR K H (.node ts) x)(i:Nat)(e:ts[i]?=some t)(q:∀z,TR K H t z->Q z H)(hy:y=.int ((i:Nat):Int):=by rfl):af3 K x y H Q:=by
 obtain⟨a,xs,rfl,ha,ra⟩:=cB.mp hx
 obtain⟨v,e2,h2⟩:=ra.at e
 exact⟨a,xs,_,v,rfl,hy,ha,atI_nat e2,q v h2⟩
theorem al6{ts:`D}{x:V}(hx:TR K H (.node ts) x)(k:Nat){j:Option Int}(q:∀z H',`N->TR K H' (.node (ts.drop k)) z->Q z H')(hj:j=some ((k:Nat):Int):=by rfl):ab2 K x j none H Q:=by
 obtain⟨a,xs,rfl,ha,ra⟩:=cB.mp hx
 subst hj
 refine⟨a,xs,rfl,ha,fun p H' S h=>q _ _ S (tQ h ?_)⟩
 rw[Yu]
 exact(ra.drop k).mono (.of S)
theorem jE{t:T}{x:V}(h:TR K H t x):TRs K H [t] [x]:=cD.mpr ⟨x,[],rfl,h,bH.mpr rfl⟩
theorem afx{t u:T}{x y:V}(h:TR K H t x)(g:TR K H u y):TRs K H [t,u] [x,y]:=cD.mpr ⟨x,[y],rfl,h,jE g⟩
end
section
variable{X:Cx}{K:W.Frag}
end
section
variable{X:Cx}
theorem YH:∀{bs:List Bool}{its:`L},Vals (bs.map V.bl) its->its=bs.map Value.bool
 |[],_,h=>by cases h;rfl
 |b::bs,_,h=>by
  cases h with
  |cons r q=>
   rw[YH q]
   exact congrArg (·::_) r
end
def B(a b:Nat)(t:T):Prop:=t.deep<=a/\t.parts<=b
theorem B.le{a b a' b':Nat}{t:T}(h:B a b t)(h1:a<=a')(h2:b<=b'):B a' b' t:=⟨Nat.le_trans h.1 h1,Nat.le_trans h.2 h2⟩
theorem JM:B 0 1 (.node []):=⟨by rw[T.bC,T.iC];lia,by rw[T.aR,T.cg];lia⟩
theorem afq{a b a' b':Nat}{t:T}{ts:`D}(h:B a b t)(g:B a' b' (.node ts)):B (max (a+1) a') (b+b') (.node (t::ts)):=by
 obtain⟨h1,h2⟩:=h
 obtain⟨g1,g2⟩:=g
 rw[T.bC]at g1
 rw[T.aR]at g2
 refine⟨?_,?_⟩
 ·rw[T.bC,T.bf];lia
 ·rw[T.aR,T.aK];lia
theorem ady{a b a' b':Nat}{us:`D}(g:B a' b' (.node us)):∀{ts:`D},B a b (.node ts)->B (max a a') (b+b') (.node (ts++us))
 |[],_=>g.le `A `A
 |t::ts,h=>by
  obtain⟨h1,h2⟩:=h
  rw[T.bC,T.bf]at h1
  rw[T.aR,T.aK]at h2
  have q:=ady g (ts:=ts) (a:=a) (b:=b-t.parts) ⟨by rw[T.bC];lia,by rw[T.aR];lia⟩
  have q1:=q.1
  have q2:=q.2
  rw[T.bC]at q1
  rw[T.aR]at q2
  refine⟨?_,?_⟩
  ·rw[List.cons_append,T.bC,T.bf];lia
  ·rw[List.cons_append,T.aR,T.aK];lia
theorem alK{a b:Nat}{t:T}(h:B a b t):B (a+1) (b+1) (.node [t]):=(afq h JM).le `A `A
theorem ahS{a b n:Nat}:∀{ts:`D},(∀t∈ts,B a b t)->ts.length<=n->B (a+1) (1+n*b) (.node ts)
 |[],_,_=>JM.le `A `A
 |t::ts,h,hl=>by
  rw[List.length_cons]at hl
  obtain⟨m,rfl⟩:∃m,n=m+1:=⟨n-1,`A⟩
  refine(afq (h t List.mem_cons_self) (ahS (n:=m) (fun u hu=>h u (List.mem_cons_of_mem _ hu)) `A)).le `A ?_
  rw[Nat.succ_mul];lia
theorem B.len{a b:Nat}{ts:`D}(h:B a b (.node ts)):ts.length<b:=by
 have h2:=h.2
 rw[T.aR]at h2
 have:∀us:`D,us.length<=T.aN us:=fun us=>by
  induction us with
  |nil=>exact`W
  |cons u us ih=>
   rw[List.length_cons,T.aK]
   have:1<=u.parts:=by cases u;rw[T.aR];lia
   lia
 have:=this ts
 lia
theorem dJ{K:W.Frag}{H:Hp}{p:Addr}{xs:`E}{ts:`D}(hp:H p=none)(h:TRs K H ts xs):Same H (upd H p (.tup xs))/\TR K (upd H p (.tup xs)) (.node ts) (.ref p):=
 ⟨same_new hp _,tQ (SqT.of upd_same) (h.mono (.new hp))⟩
def pbT:Nat->Nat
 |0=>1
 |d+1=>1+3*pbT d
theorem aeh{ts:`D}{n b:Nat}(hl:ts.length<=n)(h:∀t∈ts,t.parts<=b):T.aN ts<=n*b:=
 Nat.le_trans (T.G9 h) (Nat.mul_le_mul_right b hl)
theorem rA{K:W.Frag}{H:Hp}{p:Addr}(h:H p=some (.tup [])):TR K H (.node []) (.ref p):=tQ (xs:=[]) (SqT.of h) (bH.mpr rfl)
theorem aaM{K:W.Frag}{H:Hp}{t:T}{x:V}(h:TR K H t x):∀n:Nat,TRs K H (List.replicate n t) (List.replicate n x)
 |0=>bH.mpr rfl
 |n+1=>by
  rw[List.replicate_succ,List.replicate_succ]
  exact cD.mpr ⟨x,_,rfl,h,aaM h n⟩
def adU(K:W.Frag):Sp:=fun vs H Q _=>∃(a:Addr)(ns:List Int),vs=[`I]/\SqL K H a (ns.map V.int)/\ns.length<=63/\∀p H',`N->H p=none->Fp H' p->Q (.ref p) H'
def V5:Sp:=fun vs H Q _=>∃(p:Addr)(m:Int),vs=[.ref p,.int m]/\0<m/\Fp H p/\∀i H',0<=i->i<m->Dr p H H'->Q (.int i) H'
def ShT:Nat->T->Prop:=fun d t=>t.deep<=d/\t.parts<=pbT d
def adR(K:W.Frag)(n:Nat):Sp:=fun vs H Q _=>∃(p:Addr)(d:Nat),vs=[.ref p,.int (d:Int)]/\d<=n/\Fp H p/\∀y t H',Dr p H H'->TR K H' t y->ShT d t->Q y H'
def rm(n:Nat):T:=.node (List.replicate n (.node []))
theorem ShT.b{d:Nat}{t:T}(h:ShT d t):B d (pbT d) t:=h
def spLaw(K:W.Frag):Sp:=fun vs H Q _=>∃(a:Addr)(ns:List Int),vs=[`I]/\SqL K H a (ns.map V.int)/\ns.length<=63/\∀H',Q (.bl true) H'
def aD(t:T):Nat:=match t.kids with
 |[]=>0
 |f::_=>min 9 f.kids.length
def aL(t:T):T:=.node (t.kids.drop 1)
theorem agY{α:Type}(x:α)(n:Nat):(List.replicate n [x]).flatten=List.replicate n x:=by
 induction n with
 |zero=>rfl
 |succ n ih=>rw[List.replicate_succ,List.flatten_cons,ih,List.replicate_succ];rfl
theorem alC{ns:List Int}{k:Int}(h0:0<=k)(h:k<(ns.length:Int)):∃i∈ns,atI (ns.map V.int) k=some (.int i):=by
 have hk:k.toNat<ns.length:=`A
 have e:(ns.map V.int)[k.toNat]?=some (.int ns[k.toNat]):=by rw[List.getElem?_map,List.getElem?_eq_getElem hk];rfl
 have:=atI_nat e
 rw[show((k.toNat:Nat):Int)=k by lia]at this
 exact⟨_,List.getElem_mem hk,this⟩
theorem ai9(xs:`E)(i j:Nat):∃k,jT xs (some (i:Int)) (some (j:Int))=(xs.drop (min i xs.length)).take k:=⟨_,by unfold jT;rw[HT.tY,HT.tY]⟩
def i_(n:Nat)(us:`D):T:=.node (rm n::us)
def Jt(K:W.Frag):Sp:=fun vs H Q _=>∃x t,vs=[x]/\TR K H t x/\t.deep<=400/\t.parts<=1000000/\∀y H',`N->TR K H' (i_ 0 t.kids) y->Q y H'
def V6(K:W.Frag):Sp:=fun vs H Q _=>∃x t,vs=[x]/\TR K H t x/\t.deep<=400/\t.parts<=1000000/\∀y H',`N->TR K H' (i_ 8 t.kids) y->Q y H'
def Js(K:W.Frag):Sp:=fun vs H Q _=>∃n:Nat,vs=[.int (n:Int)]/\1<=n/\n<=6/\∀y H',`N->TR K H' (i_ n []) y->Q y H'
def Bw(K:W.Frag):Sp:=fun vs H Q _=>∃x t y u,vs=[x,y]/\TR K H t x/\TR K H u y/\(t.deep<=400/\t.parts<=1000000)/\(u.deep<=400/\u.parts<=1000000)/\∀z H',`N->TR K H' (i_ 7 (t::u.kids)) z->Q z H'
theorem akq{K:W.Frag}{H:Hp}{Q:VK}{σ:L2.St}{ts:`D}{x:V}(hx:TR K H (.node ts) x)(k:Nat){j:Option Int}(q:∀z H',`N->TR K H' (.node (ts.drop k)) z->Q z H')(hj:j=some ((k:Nat):Int):=by rfl):QJ σ H (fun u H3=>ab2 K x j u H3 Q):=al6 hx k q hj
theorem apz{K:W.Frag}{H:Hp}{Q:VK}{σ:L2.St}{ts:`D}{x y:V}{t:T}(hx:TR K H (.node ts) x)(i:Nat)(e:ts[i]?=some t)(q:∀z,TR K H t z->Q z H)(hy:y=.int ((i:Nat):Int):=by rfl):tC y σ H (fun y H2=>af3 K x y H2 Q):=nIx hx i e q hy
theorem pG{a b:Nat}{t:T}(h:B a b t):B a b (aL t):=by
 cases t with
 |node ts=>
  cases ts with
  |nil=>exact h
  |cons u us=>
   obtain⟨h1,h2⟩:=h
   rw[T.bC,T.bf]at h1
   rw[T.aR,T.aK]at h2
   exact⟨by show(T.node us).deep<=a;rw[T.bC];lia,by show(T.node us).parts<=b;rw[T.aR];lia⟩
def leaf:T:=.node []
def ats(s:`D)(k:Nat):T:=(s[k]?).getD leaf
def many(k:Nat):Nat:=([0,1,1,2,2,1,3,1,1,0]:`F).getD k 0
def pad(s:`D)(n:Nat):`D:=s++List.replicate (n-s.length) leaf
theorem aei{s:`D}{n:Nat}(h:n<=s.length):pad s n=s:=by
 unfold pad
 rw[show n-s.length=0 by lia,List.replicate_zero,List.append_nil]
theorem Jw(s:`D)(n:Nat):n<=(pad s n).length:=by
 unfold pad
 rw[List.length_append,List.length_replicate]
 lia
def behind(w:T)(s:`D):`D:=
 if aD w=0 then aL w::s
 else if 6<aD w then pad s (many (aD w))
 else if aD w=1 then(pad s 1).drop 1
 else if aD w=2 then ats (pad s 1) 0::ats (pad s 1) 0::(pad s 1).drop 1
 else if aD w=3 then ats (pad s 2) 1::ats (pad s 2) 0::(pad s 2).drop 2
 else if aD w=4 then .node (ats (pad s 2) 0::(ats (pad s 2) 1).kids)::(pad s 2).drop 2
 else if aD w=5 then ats (ats (pad s 1) 0).kids 0::.node ((ats (pad s 1) 0).kids.drop 1)::(pad s 1).drop 1
 else ats (pad s 3) 2::ats (pad s 3) 0::ats (pad s 3) 1::(pad s 3).drop 3
def onward(tx s:`D):`D×`D×Nat:=
 match(ats tx 0).kids with
 |[]=>(tx.drop 1,s,12)
 |w::ws=>
  if aD w=7 then
   if(ats s 0).kids≠[]then(ats (w.kids.drop 1) 0::.node ws::tx.drop 1,behind w s,7)else(.node (w.kids.drop 2)::.node ws::tx.drop 1,behind w s,8)
  else if aD w=8 then
   if(ats s 0).kids≠[]then(aL w::tx,behind w s,9)else(.node ws::tx.drop 1,behind w s,10)
  else if aD w=9 then(.node ws::tx.drop 1,behind w s,11)
  else(.node ws::tx.drop 1,behind w s,aD w)
theorem QZ(w:T):aD w<=9:=by
 unfold aD
 split
 ·lia
 ·exact Nat.min_le_left _ _
def Jr(K:W.Frag):Sp:=fun vs H Q _=>∃x t,vs=[x]/\TR K H t x/\t.deep<=400/\∀H',`N->Q (.int (aD t:Nat)) H'
theorem ajh{s:`D}{k:Nat}(h:k<s.length):s[k]?=some (ats s k):=by
 unfold ats
 rw[List.getElem?_eq_getElem h]
 rfl
theorem vq(t:T):T.node t.kids=t:=by cases t;rfl
section
variable{w:T}{s:`D}
theorem ar5(h:aD w=0):behind w s=aL w::s:=by unfold behind;rw[if_pos h]
theorem YK(h:6<aD w):behind w s=pad s (many (aD w)):=by unfold behind;rw[if_neg `A,if_pos h]
theorem ar4(h:aD w=1):behind w s=(pad s 1).drop 1:=by unfold behind;rw[h];rfl
theorem ar3(h:aD w=2):behind w s=ats (pad s 1) 0::ats (pad s 1) 0::(pad s 1).drop 1:=by unfold behind;rw[h];rfl
theorem ar0(h:aD w=3):behind w s=ats (pad s 2) 1::ats (pad s 2) 0::(pad s 2).drop 2:=by unfold behind;rw[h];rfl
theorem arZ(h:aD w=4):behind w s=.node (ats (pad s 2) 0::(ats (pad s 2) 1).kids)::(pad s 2).drop 2:=by unfold behind;rw[h];rfl
theorem arY(h:aD w=5):behind w s=ats (ats (pad s 1) 0).kids 0::.node ((ats (pad s 1) 0).kids.drop 1)::(pad s 1).drop 1:=by unfold behind;rw[h];rfl
theorem arX(h:aD w=6):behind w s=ats (pad s 3) 2::ats (pad s 3) 0::ats (pad s 3) 1::(pad s 3).drop 3:=by unfold behind;rw[h];rfl
end
theorem ae0{s:`D}{k:Nat}(h:k<s.length):ats s k∈s:=List.mem_of_getElem? (ajh h)
section
variable{X:Cx}
end
theorem al9{tc:TT}{te:TE}{i:Nat}{u:TS}{D:Ends}{σ:L2.St}{H:Hp}(P:V->`M)(v0:V)(hv0:σ.set i (some v0)=σ)(k:∀v H',P v H'->u D (σ.set i (some v)) H')
  (h:∀A B:`M,(∀H1,(∀R:VK,(∀v H',P v H'->R v H')->te σ H1 R)->A H1)->(∀H1,P v0 H1->B H1)->tc σ H (fun b H1=>if b=true then A H1 else B H1)):
  tSeq (tIfS tc (tAsg te (gName i)) tNext) u D σ H:=by
 refine h (fun H1=>tAsg te (gName i) {D with nx:=u D} σ H1) (fun H1=>tNext {D with nx:=u D} σ H1) (fun H1 r=>r _ fun v H' p=>k v H' p) (fun H1 p=>?_)
 have q:=k v0 H1 p
 rw[hv0]at q
 exact q
theorem B.pos{a b:Nat}{t:T}(h:B a b t):1<=b:=Nat.le_trans (T.fO t) h.2
theorem Zk{a b:Nat}(k:Nat){ts:`D}(h:B a b (.node ts)):B a b (.node (ts.drop k)):=by
 obtain⟨h1,h2⟩:=h
 have e:=List.take_append_drop k ts
 rw[<-e,T.bC,T.oE]at h1
 rw[<-e,T.aR,T.bZ]at h2
 exact⟨by rw[T.bC];lia,by rw[T.aR];lia⟩
theorem wH{a b:Nat}{ts:`D}{t:T}(h:B a b (.node ts))(ht:t∈ts):B a b t:=by
 have h1:=h.1
 have h2:=h.2
 rw[T.bC]at h1
 rw[T.aR]at h2
 have:=T.jO ht
 have:=T.Hl ht
 exact⟨`A,`A⟩
theorem Qt{a b:Nat}{ts:`D}(h:B a b (.node ts))(k:Nat):B a b (ats ts k):=by
 by_cases hk:k<ts.length
 ·exact wH h (ae0 hk)
 ·unfold ats
  rw[List.getElem?_eq_none `A]
  exact JM.le `A h.pos
theorem gM{a b:Nat}{t:T}(h:B a b t):B a b (.node t.kids):=by rw[vq];exact h
theorem amg{a b:Nat}{s:`D}(n:Nat)(hn:n<=3)(ha:1<=a)(h:B a b (.node s)):B a (b+4) (.node (pad s n)):=
 (ady (ahS (a:=0) (b:=1) (n:=3) (fun t ht=>by rw[List.eq_of_mem_replicate ht];exact JM) (by rw[List.length_replicate];lia)) h).le `A `A
theorem am6{te:TE}{i:Nat}{u:TS}{D:Ends}{σ:L2.St}{H:Hp}(P:V->`M)(h:∀R:VK,(∀v H',P v H'->R v H')->te σ H R)(k:∀v H',P v H'->u D (σ.set i (some v)) H'):tSeq (tAsg te (gName i)) u D σ H:=h _ k
theorem lE{te:TE}{i:Nat}{u:TS}{D:Ends}{σ:L2.St}{H:Hp}(σ':V->L2.St)(hσ:∀v,σ.set i (some v)=σ' v)(P:V->`M)(h:∀R:VK,(∀v H',P v H'->R v H')->te σ H R)(k:∀v H',P v H'->u D (σ' v) H'):tSeq (tAsg te (gName i)) u D σ H:=
 am6 P h fun v H' p=>by rw[hσ];exact k v H' p
theorem akA{tc:TT}{te:TE}{i:Nat}{u:TS}{D:Ends}{σ:L2.St}{H:Hp}(σ':V->L2.St)(hσ:∀v,σ.set i (some v)=σ' v)(P:V->`M)(v0:V)(hv0:σ.set i (some v0)=σ)(k:∀v H',P v H'->u D (σ' v) H')
  (h:∀A B:`M,(∀H1,(∀R:VK,(∀v H',P v H'->R v H')->te σ H1 R)->A H1)->(∀H1,P v0 H1->B H1)->tc σ H (fun b H1=>if b=true then A H1 else B H1)):
  tSeq (tIfS tc (tAsg te (gName i)) tNext) u D σ H:=al9 P v0 hv0 (fun v H' p=>by rw[hσ];exact k v H' p) h
def jc(o:Obj)(xs:`E):Prop:=∃(its:Array Value)(n:Nat),o.cls=`a/\o.data=.seq its n/\its.size<=sizeLine/\Vals xs its.toList
theorem jc.sq{K:W.Frag}{o:Obj}{xs:`E}{a:Addr}{H:Hp}(h:jc o xs)(l:K.lookup a=some o):SqT K H a xs:=by
 obtain⟨its,n,h1,h2,h3,h4⟩:=h
 exact .inr ⟨o,its,n,l,h1,h2,h3,h4⟩
def wK(K:W.Frag):Sp:=fun vs H Q _=>∃x t,vs=[x]/\TR K H t x/\t.deep<=400/\∀y H',`N->TR K H' (ats t.kids 0) y->Q y H'
def uY(K:W.Frag):Sp:=fun vs H Q _=>∃x t,vs=[x]/\TR K H t x/\∀y H',`N->TR K H' (aL t) y->Q y H'
theorem afI(t:T):aD t=min 9 (ats t.kids 0).kids.length:=by
 cases t with
 |node ts=>cases ts<;>rfl
theorem mJ{K:W.Frag}{H:Hp}{t:T}{x:V}(h:TR K H t x):TR K H (.node t.kids) x:=by rw[vq];exact h
theorem xO{n:Nat}(h:n<=16000000):n<=sizeLine:=Nat.le_trans h `B
theorem alP:(2:Int)^62=4611686018427387904:=`B
theorem akp{K:W.Frag}{H:Hp}{Q:VK}{x y:V}{k:Int}(n:Nat)(hx:TR K H (.node [.node []]) x)(hy:y=.int k)(hk:k.toNat=n)(h0:-16000000<=k)(hn:n<=16000000)(q:∀z H',`N->TR K H' (rm n) z->Q z H'):GR K x y H Q:=by
 obtain⟨a,xs,rfl,ha,ra⟩:=cB.mp hx
 obtain⟨v,r,rfl,hv,hr⟩:=cD.mp ra
 rw[bH]at hr
 subst hr
 subst hk
 have h2:=alP
 refine⟨a,k,[v],rfl,hy,ha,`A,`A,by show 1*k.toNat<=sizeLine;exact xO `A,fun p H' S h=>q _ _ S ?_⟩
 have e:vJ [v] k=List.replicate k.toNat v:=by
  unfold vJ
  exact agY v _
 rw[e]at h
 exact tQ h (aaM (hv.mono (.of S)) _)
theorem ahK{K:W.Frag}{H:Hp}{Q:VK}{σ:L2.St}{x y:V}{k:Int}(n:Nat)(hx:TR K H (.node [.node []]) x)(hy:y=.int k)(hk:k.toNat=n)(h0:-16000000<=k)(hn:n<=16000000)(q:∀z H',`N->TR K H' (rm n) z->Q z H'):tC y σ H (fun y H2=>GR K x y H2 Q):=akp n hx hy hk h0 hn q
def looks(k:Nat):Nat:=([0,1,1,2,2,1,3,1,1,1,1,0,0]:`F).getD k 0
def rJ(k:Nat)(l:T)(s:`D):`D:=
 if k=0 then l::s
 else if k=1 then s.drop 1
 else if k=2 then ats s 0::s
 else if k=3 then ats s 1::ats s 0::s.drop 2
 else if k=4 then .node (ats s 0::(ats s 1).kids)::s.drop 2
 else if k=5 then ats (ats s 0).kids 0::aL (ats s 0)::s.drop 1
 else if k=6 then ats s 2::ats s 0::ats s 1::s.drop 3
 else s
theorem aeL{s:`D}(h:1<=s.length):ats s 0::s.drop 1=s:=by
 cases s with
 |nil=>simp at h
 |cons t r=>rfl
theorem Zm{w:T}{s:`D}(h:aD w<=6):behind w s=rJ (aD w) (aL w) (pad s (looks (aD w))):=by
 have hl:aD w=0\/aD w=1\/aD w=2\/aD w=3\/aD w=4\/aD w=5\/aD w=6:=`A
 rcases hl with e|e|e|e|e|e|e
 ·rw[ar5 e,e];show _=aL w::pad s 0;rw[aei `W]
 ·rw[ar4 e,e];rfl
 ·rw[ar3 e,e]
  show _=ats (pad s 1) 0::pad s 1
  rw[aeL (Jw s 1)]
 ·rw[ar0 e,e];rfl
 ·rw[arZ e,e];rfl
 ·rw[arY e,e];rfl
 ·rw[arX e,e];rfl
def stepT(tx s:`D):Nat:=(onward tx s).2.2
theorem VG{tx s:`D}(h:(ats tx 0).kids=[]):stepT tx s=12:=by
 unfold stepT onward
 rw[h]
section
variable{tx s:`D}{w:T}{ws:`D}
theorem aej(h:(ats tx 0).kids=[]):onward tx s=(tx.drop 1,s,12):=by
 unfold onward
 rw[h]
theorem W5(h:(ats tx 0).kids=w::ws)(e:aD w=7)(d:(ats s 0).kids≠[]):onward tx s=(ats (w.kids.drop 1) 0::.node ws::tx.drop 1,pad s 1,7):=by
 unfold onward
 rw[h]
 show(if aD w=7 then _ else _)=_
 rw[if_pos e,if_pos d,YK `A,e]
 rfl
theorem ab7(h:(ats tx 0).kids=w::ws)(e:aD w=7)(d:(ats s 0).kids=[]):onward tx s=(.node (w.kids.drop 2)::.node ws::tx.drop 1,pad s 1,8):=by
 unfold onward
 rw[h]
 show(if aD w=7 then _ else _)=_
 rw[if_pos e,if_neg (by simp[d]),YK `A,e]
 rfl
theorem Rw(h:(ats tx 0).kids=w::ws)(e:aD w=8)(d:(ats s 0).kids≠[]):onward tx s=(aL w::tx,pad s 1,9):=by
 unfold onward
 rw[h]
 show(if aD w=7 then _ else _)=_
 rw[if_neg `A,if_pos e,if_pos d,YK `A,e]
 rfl
theorem Ru(h:(ats tx 0).kids=w::ws)(e:aD w=8)(d:(ats s 0).kids=[]):onward tx s=(.node ws::tx.drop 1,pad s 1,10):=by
 unfold onward
 rw[h]
 show(if aD w=7 then _ else _)=_
 rw[if_neg `A,if_pos e,if_neg (by simp[d]),YK `A,e]
 rfl
theorem Rv(h:(ats tx 0).kids=w::ws)(e:aD w=9):onward tx s=(.node ws::tx.drop 1,pad s 0,11):=by
 unfold onward
 rw[h]
 show(if aD w=7 then _ else _)=_
 rw[if_neg `A,if_neg `A,if_pos e,YK `A,e]
 rfl
theorem Rt(h:(ats tx 0).kids=w::ws)(e:aD w<=6):onward tx s=(.node ws::tx.drop 1,rJ (aD w) (aL w) (pad s (looks (aD w))),aD w):=by
 unfold onward
 rw[h]
 show(if aD w=7 then _ else _)=_
 rw[if_neg `A,if_neg `A,if_neg `A,Zm e]
end
theorem Bu{k:Nat}{l:T}{s:`D}(h:7<=k):rJ k l s=s:=by
 unfold rJ
 rw[if_neg `A,if_neg `A,if_neg `A,if_neg `A,if_neg `A,if_neg `A,if_neg `A]
theorem XJ(k:Nat):looks k<=3:=by
 by_cases h:k<13
 ·have:∀k,k<13->looks k<=3:=`B
  exact this k h
 ·unfold looks
  rw[List.getD_eq_getElem?_getD,List.getElem?_eq_none (by show 13<=k;lia)]
  decide
section
variable{tx s:`D}
theorem aek:((ats tx 0).kids=[]/\onward tx s=(tx.drop 1,s,12))\/∃w ws,(ats tx 0).kids=w::ws/\
  (onward tx s=(ats (w.kids.drop 1) 0::.node ws::tx.drop 1,pad s 1,7)\/onward tx s=(.node (w.kids.drop 2)::.node ws::tx.drop 1,pad s 1,8)\/onward tx s=(aL w::tx,pad s 1,9)\/∃k,(k<=6\/k=10\/k=11)/\onward tx s=(.node ws::tx.drop 1,rJ k (aL w) (pad s (looks k)),k)):=by
 cases hk:(ats tx 0).kids with
 |nil=>exact .inl ⟨rfl,aej hk⟩
 |cons w ws=>
  refine .inr ⟨w,ws,rfl,?_⟩
  have h9:=QZ w
  by_cases e7:aD w=7
  ·by_cases d:(ats s 0).kids=[]
   ·exact .inr (.inl (ab7 hk e7 d))
   ·exact .inl (W5 hk e7 d)
  by_cases e8:aD w=8
  ·by_cases d:(ats s 0).kids=[]
   ·exact .inr (.inr (.inr ⟨10,`A,Ru hk e8 d⟩))
   ·exact .inr (.inr (.inl (Rw hk e8 d)))
  by_cases e9:aD w=9
  ·exact .inr (.inr (.inr ⟨11,`A,Rv hk e9⟩))
  ·exact .inr (.inr (.inr ⟨aD w,`A,Rt hk `A⟩))
theorem QL:stepT tx s<=12:=by
 unfold stepT
 rcases aek (tx:=tx) (s:=s)with⟨_,e⟩|⟨w,ws,_,e|e|e|⟨k,h,e⟩⟩
 ·rw[e];exact Nat.le_refl 12
 ·rw[e];show 7<=12;lia
 ·rw[e];show 8<=12;lia
 ·rw[e];show 9<=12;lia
 ·rw[e];show k<=12;lia
variable{w:T}{ws:`D}
end
def BX(tx:`D):Prop:=tx.length<=8000000/\∀t∈tx,B 389 8000000 t
theorem ajS{X:Cx}{pos:Pos}{o i:Expr}{to ti:TE}{t:N_}(ho:QE X o to)(hi:QE X i ti)(hs:Y_ X t)
  (ha:∀v,assign (.Subscript o i pos) X.env v=(do
   let ov<-holding [v] (eval o X.env)
   let iv<-holding [v,ov] (eval i X.env)
   standAt pos
   holding [v,ov,iv] (setItem ov iv v)
   release [v,ov,iv] []):=by intro _;rfl):QG X (.Subscript o i pos) (akK to ti t):=⟨L2.aj2 (ho:=ho.run) (hi:=hi.run) (hs:=hs) (ha:=ha)⟩
section
variable{X:Cx}
theorem aeM(hc:X.calm=true):CallR X (.builtin "sum") (fun xs H Q=>∃(p:Addr)(ns:List Int),xs=[.ref p]/\SqT X.K H p (ns.map V.int)/\Q (.int ns.sum) H):=by
 intro pins s σ H xs us Q I r h
 obtain⟨p,ns,rfl,hq,q⟩:=h
 obtain⟨u,rfl,rx⟩:=vals1 r
 cases rx
 obtain⟨its,r',pl,hz⟩:=I.tuple hq
 have hi:IntsAre its ns:=intsAre_of r'
 obtain⟨ys,e⟩:=hi.allInts.items
 have hns:ns=ys.toList.map (·.1):=by
  rw[<-hi.numsOf,<-nums_intItems,<-e]
 have ht:s.heap.IsTuple p its.toArray:=pl
 rw[e]at ht
 obtain⟨o,ho,hc',n,hd⟩:=id ht
 have hne:p≠s.heap.objs.size:=Nat.ne_of_lt (Heap.lt_size ho)
 have hsz:(intItems ys).size=ys.size:=by simp[intItems]
 have W:=Walks.tuple (prog:=X.prog) (w:=X.w) (A:=X.A.in1) (I.ok.hd hc) s.heap.objs.size p hne (intItems ys)
 rw[hsz]at W
 refine call_sum_walkG (wpAny_pyIter_tuple ht ?_)
 refine⟨s.heap.objs.size,_,_,_,_,_,numAt ys,rfl,W,⟨⟨_,`i,rfl,rfl⟩,ht.push _⟩,fun b hb=>?_,fun i v hP=>intItems_at hP,fun h' tk t' hk=>?_⟩
 ·rcases List.mem_cons.mp hb with rfl|hb
  ·exact Heap.lt_size `i
  ·obtain rfl:=List.mem_singleton.mp hb
   exact Heap.lt_size (Heap.get?_push_of_some _ ho)
 ·have es:preSum (numAt ys) ys.size=ns.sum:=by rw[preSum_eq,List.take_of_length_le `G,hns]
  exact⟨.int ns.sum,H,I.kept (fun b o e=>hk b o (fun z=>absurd (Heap.lt_size e) (by rw[List.mem_singleton.mp z];exact Nat.lt_irrefl _)) (Heap.get?_push_of_some _ e)),⟨t',by rw[es]⟩,q⟩
end
theorem R5{n j:Nat}(h:j<n):ixN n (j:Int)=some j:=by
 unfold ixN
 rw[if_pos `A,if_pos `A,Int.toNat_natCast]
abbrev nv(n:Nat):V:=.int (n:Int)
def V4(K:W.Frag):Sp:=fun vs H Q _=>∃x t,vs=[x]/\TR K H t x/\t.parts<=8000000/\∀H',`N->Q (.int t.parts) H'
def abw(K:W.Frag)(H:Hp)(x:V)(n:Nat)(p:Addr):Nat->Sg->`M:=fun m σ H'=>∃(ys:`E)(ts:`D)(c:Nat)(o:Option V),
 σ=[some x,some (.ref p),some (.int c),o]/\`N/\H' p=some (.lst ys)/\TRs K H' ts ys/\c+T.aN ts=n/\m=T.aN ts
def ev0(k:Nat):`F:=(List.replicate 15 0).set k 1
def lW(tx s:`D):`F:=
 if stepT tx s=2 then(ev0 2).set 13 (ats s 0).parts
 else if stepT tx s=9 then(ev0 9).set 14 (aL (ats (ats tx 0).kids 0)).parts
 else ev0 (stepT tx s)
def sZ(ns:`F):Int:=((ns.take 13).map fun n:Nat=>(n:Int)).sum-(ns.getD 2 0:Nat)+(ns.getD 13 0:Nat)
def bD(tx s:`D):Nat:=if stepT tx s=2 then(ats s 0).parts else 1
theorem Yc(tx s:`D):(lW tx s).length=15:=by
 unfold lW ev0
 split
 ·simp
 split<;>simp
theorem ai4(tx s:`D):sZ (lW tx s)=(bD tx s:Nat):=by
 have h:=QL (tx:=tx) (s:=s)
 unfold lW bD
 split
 ·rename_i e
  show(0+(0+(1+(0+(0+(0+(0+(0+(0+(0+(0+(0+(0+0)))))))))))))-(1:Int)+((ats s 0).parts:Int)=_
  lia
 split
 ·show(0+(0+(0+(0+(0+(0+(0+(0+(0+(1+(0+(0+(0+0)))))))))))))-(0:Int)+(0:Int)=_
  lia
 ·generalize stepT tx s=k at*
  have:∀k,k<=12->k≠2->sZ (ev0 k)=((1:Nat):Int):=`B
  exact this k h (by assumption)
theorem yJ(tx s:`D):1<=bD tx s:=by
 unfold bD
 split
 ·exact T.fO _
 ·exact Nat.le_refl 1
def V_(K:W.Frag):Sp:=fun vs H Q _=>∃(a:Addr)(ns:`F),vs=[`I]/\SqT K H a (ns.map nv)/\ns.length=15/\∀H',`N->Q (.int (sZ ns)) H'
theorem ahJ{ns:`F}{k:Nat}(h:k<ns.length):atI (ns.map nv) (k:Int)=some (.int ((ns.getD k 0:Nat):Int)):=
 atI_nat (by rw[List.getElem?_map,List.getElem?_eq_getElem h,List.getD_eq_getElem?_getD,List.getElem?_eq_getElem h];rfl)
theorem aiN(ns:`F)(k:Nat):(ns.map nv).take k=((ns.take k).map fun n:Nat=>(n:Int)).map V.int:=by
 rw[<-List.map_take,List.map_map]
 rfl
theorem akk(ns:`F)(k v:Nat):(ns.map nv).set k (nv v)=(ns.set k v).map nv:=by rw[List.map_set]
theorem Pa(s:`D)(n:Nat):T.aN (pad s n)<=T.aN s+n:=by
 unfold pad
 rw[T.bZ]
 have:∀m:Nat,T.aN (List.replicate m leaf)=m:=fun m=>by
  induction m with
  |zero=>rfl
  |succ m ih=>rw[List.replicate_succ,T.aK,ih];show T.parts (.node [])+m=_;rw[T.aR,T.cg];lia
 rw[this]
 lia
theorem aiA{s:`D}{n k:Nat}:ats (pad s n) k=ats s k:=by
 unfold pad ats
 by_cases h:k<s.length
 ·rw[List.getElem?_append_left h]
 ·rw[List.getElem?_append_right `A,List.getElem?_eq_none (l:=s) `A,List.getElem?_replicate]
  split<;>rfl
theorem PX(s:`D)(k:Nat):T.aN (s.drop k)<=T.aN s:=by
 have e:=congrArg T.aN (List.take_append_drop k s)
 rw[T.bZ]at e
 lia
theorem Ls(t:T):t.parts=1+T.aN t.kids:=by cases t;rw[T.aR];rfl
theorem Pu(t:T):(aL t).parts<=t.parts:=by
 unfold aL
 rw[T.aR,Ls t]
 have:=PX t.kids 1
 lia
theorem acK(t:T):(ats t.kids 0).parts+(aL t).parts<=t.parts+1:=by
 unfold aL
 rw[T.aR,Ls t]
 cases t.kids with
 |nil=>show T.parts (.node [])+_<=_;rw[T.aR,T.cg];simp[T.cg]
 |cons u us=>show u.parts+(1+T.aN us)<=_;rw[T.aK];lia
theorem split1{s:`D}(h:1<=s.length):T.aN s=(ats s 0).parts+T.aN (s.drop 1):=by
 cases s with
 |nil=>simp at h
 |cons t r=>rw[T.aK];rfl
theorem adP{s:`D}(h:2<=s.length):T.aN s=(ats s 0).parts+((ats s 1).parts+T.aN (s.drop 2)):=by
 match s,h with
 |t::u::r,_=>rw[T.aK,T.aK];rfl
theorem ajF{s:`D}(h:3<=s.length):T.aN s=(ats s 0).parts+((ats s 1).parts+((ats s 2).parts+T.aN (s.drop 3))):=by
 match s,h with
 |t::u::v::r,_=>rw[T.aK,T.aK,T.aK];rfl
theorem abL{k:Nat}{l:T}{s:`D}(h:looks k<=s.length):T.aN (rJ k l s)<=T.aN s+1+(if k=0 then l.parts else if k=2 then(ats s 0).parts else 0):=by
 by_cases h0:k=0
 ·subst h0;show T.aN (l::s)<=_+l.parts;rw[T.aK];lia
 by_cases h1:k=1
 ·subst h1;show T.aN (s.drop 1)<=_;have:=PX s 1;lia
 by_cases h2:k=2
 ·subst h2;show T.aN (ats s 0::s)<=_+(ats s 0).parts;rw[T.aK];lia
 by_cases h3:k=3
 ·subst h3;have:=adP (s:=s) h;show T.aN (ats s 1::ats s 0::s.drop 2)<=_+0;rw[T.aK,T.aK];lia
 by_cases h4:k=4
 ·subst h4;have:=adP (s:=s) h;show T.aN (.node (ats s 0::(ats s 1).kids)::s.drop 2)<=_+0;rw[T.aK,T.aR,T.aK];have:=Ls (ats s 1);lia
 by_cases h5:k=5
 ·subst h5;have:=split1 (s:=s) h;show T.aN (ats (ats s 0).kids 0::aL (ats s 0)::s.drop 1)<=_+0;rw[T.aK,T.aK];have:=acK (ats s 0);lia
 by_cases h6:k=6
 ·subst h6;have:=ajF (s:=s) h;show T.aN (ats s 2::ats s 0::ats s 1::s.drop 3)<=_+0;rw[T.aK,T.aK,T.aK];lia
 ·rw[Bu `A];lia
theorem ajg{tx:`D}{w:T}{ws:`D}(h:(ats tx 0).kids=w::ws):ats tx 0∈tx:=by
 cases tx with
 |nil=>cases h
 |cons t r=>exact List.mem_cons_self
end Sw
namespace PySem
section
variable{prog:Program}{w:World}{A:Around}{E:`V}{s:Shared}
theorem aep{m t:Addr}{i:Nat}{its:Array Value}{x:Value}{Q:`V}(hm:s.heap.IsTupleIter m t i)(ht:s.heap.IsTuple t its)(hx:its[i]?=some x)
  (q:∀g,g.IsTupleIter m t (i+1)->Heap.SameBut m s.heap g->Q x {s with heap:=g}):wpAny `b A (Builtin.SmallTypes.nextOf (.ref m)) Q E s:=by
 obtain⟨om,e1,e2,e3⟩:=id hm
 obtain⟨ot,f1,_,nt,f3⟩:=ht
 unfold Builtin.SmallTypes.nextOf;refine wpAny_bind (wpAny_callSpecial?_slot (name:=Str.ofString "__next__") hm.typeIs F.slot_tuple_iterator_next (wpAny_call_entry F.slot_tuple_iterator_next hm.typeIs F.entry_tuple_iterator_next ?_ (F.args_tuple_iterator_next_1 _)))
 show wpAny _ _ (field (.ref m) 0>>=_) _ _ s
 refine wpAny_bind (wpAny_field e1 e3 (x:=.ref t) rfl ?_);show wpAny _ _ (if(Value.ref t==Value.none)=true then _ else _) _ _ s
 rw[if_neg (fun z:(Value.ref t==Value.none)=true=>Bool.false_ne_true z)];show wpAny _ _ (field (.ref m) 1>>=_) _ _ s
 refine wpAny_bind (wpAny_field e1 e3 (x:=.int i 0) rfl ?_);show wpAny _ _ (seqItems? (.ref t)>>=_) _ _ s
 refine wpAny_bind (wpAny_seqItems f1 f3 ?_);simp only[Int.toNat_natCast,hx]
 refine wpAny_bind (wpAny_setField e1 e3 `G (wpAny_pure ⟨x,rfl,wpAny_pure (q _ ?_ (Heap.SameBut.update ..))⟩))
 refine⟨_,Heap.get?_update_self _ e1 (Obj.isFreed_of_fields (Obj.data_mapFields e3 _)),(Obj.cls_mapFields ..).trans e2,?_⟩
 rw[Obj.data_mapFields e3];simp[rawInt]
theorem aco{m t:Addr}{i:Nat}{its:Array Value}{Q:`V}(hh:A.handled=none)(hm:s.heap.IsTupleIter m t i)(ht:s.heap.IsTuple t its)(hx:its[i]?=none)
  (q:∀g e,Heap.ExtBut m s.heap g->(∃o,g.get? e=some o/\o.cls=.type "StopIteration")->E (.ref e) {s with heap:=g}):wpAny `b A (Builtin.SmallTypes.nextOf (.ref m)) Q E s:=by
 obtain⟨om,e1,e2,e3⟩:=id hm
 obtain⟨ot,f1,_,nt,f3⟩:=ht
 unfold Builtin.SmallTypes.nextOf;refine wpAny_bind (wpAny_callSpecial?_slot (name:=Str.ofString "__next__") hm.typeIs F.slot_tuple_iterator_next (wpAny_call_entry F.slot_tuple_iterator_next hm.typeIs F.entry_tuple_iterator_next ?_ (F.args_tuple_iterator_next_1 _)))
 show wpAny _ _ (field (.ref m) 0>>=_) _ _ s
 refine wpAny_bind (wpAny_field e1 e3 (x:=.ref t) rfl ?_);show wpAny _ _ (if(Value.ref t==Value.none)=true then _ else _) _ _ s
 rw[if_neg (fun z:(Value.ref t==Value.none)=true=>Bool.false_ne_true z)];show wpAny _ _ (field (.ref m) 1>>=_) _ _ s
 refine wpAny_bind (wpAny_field e1 e3 (x:=.int i 0) rfl ?_);show wpAny _ _ (seqItems? (.ref t)>>=_) _ _ s
 refine wpAny_bind (wpAny_seqItems f1 f3 ?_);simp only[Int.toNat_natCast,hx]
 refine wpAny_bind (wpAny_rule (wpAny_bind (wpAny_setField e1 e3 `G ?_)));show wpAny _ _ (newExc (.type "StopIteration") []>>=_) _ _ _
 refine wpAny_bind ?_;simp only[newExc,newTuple];refine wpAny_bind (wpAny_newObj_type ?_ (by size_fits))
 refine wpAny_bind (m:=firstArgMember _ _) (wpAny_of_eq (a:=Value.none) (by first|rfl|(simp only[firstArgMember];rfl)) ?_);refine wpAny_newObj_type ?_ (by size_fits)
 simp only[raiseNew];refine wpAny_bind (wpAny_handled ?_);first|rw[show A.in1.handled=none from hh]|rw[hh]
 refine wpAny_bind (wpAny_pure (wpAny_throw ?_))
 exact q _ _ (((Heap.SameBut.update ..).extBut.push _).push _) ⟨_,`i,rfl⟩
theorem ahT{z I O i1 i2 l1 l2:Addr}{k1 k2:Nat}{xs ys:Array Value}{x y a b:Value}{Q:`V}(D:ZipApart z I O i1 i2 l1 l2)
  (hz:IsZip s.heap z I O .none)(hI:IsPair s.heap I (.ref i1) (.ref i2))(hO:IsPair s.heap O a b)(m1:s.heap.IsTupleIter i1 l1 k1)(m2:s.heap.IsTupleIter i2 l2 k2)
  (t1:s.heap.IsTuple l1 xs)(t2:s.heap.IsTuple l2 ys)(hx:xs[k1]?=some x)(hy:ys[k2]?=some y)
  (q:∀g,IsZip g z I O (rawInt s.heap.objs.size)->IsPair g O x y->g.IsTupleIter i1 l1 (k1+1)->g.IsTupleIter i2 l2 (k2+1)->IsPair g s.heap.objs.size x y->g.objs.size=s.heap.objs.size+1->
   (∀c o,c≠z->c≠O->c≠i1->c≠i2->s.heap.get? c=some o->g.get? c=some o)->Q `g {s with heap:=g}):
  wpAny `b A (Builtin.«zip.__next__» ⟨[.ref z],[]⟩) (fun fin u=>∃v,fin=.done (.ret v)/\Q v u) E s:=by
 show wpAny _ _ (field (.ref z) 2>>=_) _ _ _;refine wpAny_bind (wpAny_field hz rfl (x:=.bool false) rfl ?_)
 show wpAny _ _ (field (.ref z) 3>>=_) _ _ _;refine wpAny_bind (wpAny_field hz rfl (x:=.ref I) rfl ?_)
 refine wpAny_bind (wpAny_seqItems hI rfl ?_);show wpAny _ _ (Builtin.SmallTypes.ownedTupleIsFree (.ref z)>>=_) _ _ _
 refine wpAny_bind ?_;unfold Builtin.SmallTypes.ownedTupleIsFree;refine wpAny_bind (wpAny_field hz rfl (x:=.none) rfl (wpAny_pure ?_))
 simp only[if_true];refine wpAny_bind (wpAny_rule ?_);refine wpAny_bind (wpAny_field hz rfl (x:=.ref O) rfl ?_)
 refine wpAny_bind (wpAny_setField_rec hz `G fun g1 z1 b1=>?_)
 replace z1:IsZip g1 z I O .ellipsis:=z1
 refine wpAny_bind ?_;simp only[List.zipIdx_cons,List.zipIdx_nil,List.forIn_cons,List.forIn_nil]
 refine wpAny_bind (wpAny_bind (wpAny_onRaise ?_));show wpAny _ _ (Builtin.SmallTypes.nextOf (.ref i1)>>=_) _ _ _
 refine wpAny_bind (aep (m1.extBut b1.extBut D.i1z) (t1.extBut b1.extBut D.l1z) hx fun g2 m12 b2=>wpAny_pure ?_)
 have O2:IsPair g2 O a b:=b2.extBut _ _ D.TOi1 (b1.extBut _ _ D.TOz hO)
 refine wpAny_bind (wpAny_seqItems O2 rfl ?_);refine wpAny_bind (wpAny_updateSeq_pair O2 fun g3 O3 b3=>?_)
 replace O3:IsPair g3 O x b:=O3
 refine wpAny_bind (wpAny_letGo (wpAny_pure ?_));refine wpAny_bind (wpAny_bind (wpAny_onRaise ?_));show wpAny _ _ (Builtin.SmallTypes.nextOf (.ref i2)>>=_) _ _ _
 refine wpAny_bind (aep (((m2.extBut b1.extBut D.i2z).extBut b2.extBut D.i12.symm).extBut b3.extBut D.TOi2.symm) (((t2.extBut b1.extBut D.l2z).extBut b2.extBut D.l2i1).extBut b3.extBut D.l2TO) hy fun g4 m24 b4=>wpAny_pure ?_)
 have O4:IsPair g4 O x b:=b4.extBut _ _ D.TOi2 O3
 refine wpAny_bind (wpAny_seqItems O4 rfl ?_);refine wpAny_bind (wpAny_updateSeq_pair O4 fun g5 O5 b5=>?_)
 replace O5:IsPair g5 O x y:=O5
 refine wpAny_bind (wpAny_letGo (wpAny_pure (wpAny_pure ?_)));refine wpAny_bind (wpAny_seqItems O5 rfl ?_);refine wpAny_bind (wpAny_newTuple ?_)
 have sz:g5.objs.size=s.heap.objs.size:=by rw[b5.1,b4.1,b3.1,b2.1,b1.1]
 have z5:IsZip g5 z I O .ellipsis:=b5.extBut _ _ D.TOz.symm (b4.extBut _ _ D.i2z.symm (b3.extBut _ _ D.TOz.symm (b2.extBut _ _ D.i1z.symm z1)))
 have k5:∀c o,c≠z->c≠O->c≠i1->c≠i2->s.heap.get? c=some o->g5.get? c=some o:=fun c o c1 c2 c3 c4 e=>b5.extBut _ _ c2 (b4.extBut _ _ c4 (b3.extBut _ _ c2 (b2.extBut _ _ c3 (b1.extBut _ _ c1 e))))
 have m15:g5.IsTupleIter i1 l1 (k1+1):=((m12.extBut b3.extBut D.TOi1.symm).extBut b4.extBut D.i12).extBut b5.extBut D.TOi1.symm
 have m25:g5.IsTupleIter i2 l2 (k2+1):=m24.extBut b5.extBut D.TOi2.symm
 have zlt:z<g5.objs.size:=Heap.lt_size z5
 show wpAny _ _ (Builtin.SmallTypes.ownedTupleHandOut (.ref z) (.ref g5.objs.size)>>=_) _ _ _
 refine wpAny_bind ?_;unfold Builtin.SmallTypes.ownedTupleHandOut
 have z6:IsZip (g5.push {cls:=`a,data:=.seq #[x,y]}) z I O .ellipsis:=Heap.get?_push_of_some _ z5
 refine wpAny_bind (wpAny_setField_rec z6 `G fun g7 z7 b7=>?_)
 replace z7:IsZip g7 z I O (rawInt g5.objs.size):=z7
 refine wpAny_setField_rec z7 `G fun g8 z8 b8=>?_
 replace z8:IsZip g8 z I O (rawInt g5.objs.size):=z8
 have up:∀c o,c≠z->g5.get? c=some o->g8.get? c=some o:=fun c o c1 e=>b8.extBut _ _ c1 (b7.extBut _ _ c1 (Heap.get?_push_of_some _ e))
 have T8:IsPair g8 g5.objs.size x y:=b8.extBut _ _ (Nat.ne_of_gt zlt) (b7.extBut _ _ (Nat.ne_of_gt zlt) `i)
 have s8:g8.objs.size=g5.objs.size+1:=by rw[b8.1,b7.1,Heap.size_push]
 rw[sz]at z8 T8 s8;refine wpAny_pure ⟨_,rfl,?_⟩;show Q (.ref g5.objs.size) _
 rw[sz];exact q g8 z8 (up _ _ D.TOz O5) (by obtain⟨o,e,r⟩:=m15;exact⟨o,up _ o D.i1z e,r⟩) (by obtain⟨o,e,r⟩:=m25;exact⟨o,up _ o D.i2z e,r⟩) T8 s8 fun c o c1 c2 c3 c4 e=>up c o c1 (k5 c o c1 c2 c3 c4 e)
theorem ajw{z I O i1 i2 l1 l2:Addr}{k1:Nat}{xs:Array Value}{Q:Fin->Shared->Prop}(hh:A.handled=none)(D:ZipApart z I O i1 i2 l1 l2)
  (hz:IsZip s.heap z I O .none)(hI:IsPair s.heap I (.ref i1) (.ref i2))(m1:s.heap.IsTupleIter i1 l1 k1)(t1:s.heap.IsTuple l1 xs)(hx:xs[k1]?=none)
  (q:∀g e,(∀c o,c≠z->c≠O->c≠i1->c≠i2->s.heap.get? c=some o->g.get? c=some o)->(∃o,g.get? e=some o/\o.cls=.type "StopIteration")->E (.ref e) {s with heap:=g}):
  wpAny `b A (Builtin.«zip.__next__» ⟨[.ref z],[]⟩) Q E s:=by
 show wpAny _ _ (field (.ref z) 2>>=_) _ _ _;refine wpAny_bind (wpAny_field hz rfl (x:=.bool false) rfl ?_)
 show wpAny _ _ (field (.ref z) 3>>=_) _ _ _;refine wpAny_bind (wpAny_field hz rfl (x:=.ref I) rfl ?_)
 refine wpAny_bind (wpAny_seqItems hI rfl ?_);show wpAny _ _ (Builtin.SmallTypes.ownedTupleIsFree (.ref z)>>=_) _ _ _
 refine wpAny_bind ?_;unfold Builtin.SmallTypes.ownedTupleIsFree;refine wpAny_bind (wpAny_field hz rfl (x:=.none) rfl (wpAny_pure ?_))
 simp only[if_true];refine wpAny_bind (wpAny_rule ?_);refine wpAny_bind (wpAny_field hz rfl (x:=.ref O) rfl ?_)
 refine wpAny_bind (wpAny_setField_rec hz `G fun g1 z1 b1=>?_)
 replace z1:IsZip g1 z I O .ellipsis:=z1
 refine wpAny_bind ?_;simp only[List.zipIdx_cons,List.zipIdx_nil,List.forIn_cons,List.forIn_nil]
 refine wpAny_bind (wpAny_bind (wpAny_onRaise ?_));show wpAny _ _ (Builtin.SmallTypes.nextOf (.ref i1)>>=_) _ _ _
 refine wpAny_bind (aco hh (m1.extBut b1.extBut D.i1z) (t1.extBut b1.extBut D.l1z) hx fun g2 e b2 he=>?_)
 obtain⟨oe,h1,h2⟩:=he
 have z2:IsZip g2 z I O .ellipsis:=b2 _ _ D.i1z.symm z1
 have ez:e≠z:=fun x=>by subst x;rw[z2]at h1;cases h1;simp at h2
 refine wpAny_setField_rec z2 `G fun g3 _ b3=>q g3 e (fun c o c1 _ c3 _ x=>b3.extBut _ _ c1 (b2 _ _ c3 (b1.extBut _ _ c1 x))) ⟨oe,b3.extBut _ _ ez h1,h2⟩
abbrev zt1(h:Heap)(l1:Addr):Heap:=h.push {cls:=.type "tuple_iterator",data:=.fields #[.ref l1,.int 0 0]}
abbrev zt2(h:Heap)(l1 l2:Addr):Heap:=(zt1 h l1).push {cls:=.type "tuple_iterator",data:=.fields #[.ref l2,.int 0 0]}
abbrev zt3(h:Heap)(l1 l2:Addr):Heap:=(zt2 h l1 l2).push {cls:=`a,data:=.seq #[.ref h.objs.size,.ref (zt1 h l1).objs.size]}
abbrev zt4(h:Heap)(l1 l2:Addr):Heap:=(zt3 h l1 l2).push {cls:=`a,data:=.seq #[.none,.none]}
abbrev zt5(h:Heap)(l1 l2:Addr):Heap:=(zt4 h l1 l2).push {cls:=.type "zip",data:=.fields #[.none,.bool false,.bool false,.ref (zt2 h l1 l2).objs.size,.ref (zt3 h l1 l2).objs.size]}
theorem ajv(l1 l2:Addr)(xs ys:Array Value):
  Meets (Builtin.«zip.__new__» ⟨[.type "zip",.ref l1,.ref l2],[]⟩) (fun _ R u=>u.heap.IsTuple l1 xs/\u.heap.IsTuple l2 ys/\R (.ok (.ret (.ref (zt4 u.heap l1 l2).objs.size))) {u with heap:=zt5 u.heap l1 l2}):=
 .of_wp fun prog w A R u h=>by
  obtain⟨hp,g,d,tk,os⟩:=u;obtain⟨h1,h2,h⟩:=h
  have hsub:=sub_zip
  have T1:Heap.IsTuple (Shared.heap ⟨hp,g,d,tk,os⟩) l1 xs:=h1
  have T2:Heap.IsTuple (Shared.heap ⟨hp.push {cls:=.type "tuple_iterator",data:=.fields #[.ref l1,.int 0 0]},g,d,tk,os⟩) l2 ys:=Heap.IsTuple.push h2 _
  wp_walk using wpAny_pyIter_tuple T1,wpAny_pyIter_tuple T2
  exact⟨_,rfl,h⟩
theorem ajb{l1 l2:Addr}{xs ys:Array Value}{Q:`V}(h1:s.heap.IsTuple l1 xs)(h2:s.heap.IsTuple l2 ys)
  (q:∀g,IsZip g (s.heap.objs.size+4) (s.heap.objs.size+2) (s.heap.objs.size+3) .none->IsPair g (s.heap.objs.size+2) `g (.ref (s.heap.objs.size+1))->
   IsPair g (s.heap.objs.size+3) .none .none->g.IsTupleIter s.heap.objs.size l1 0->g.IsTupleIter (s.heap.objs.size+1) l2 0->g.objs.size=s.heap.objs.size+5->
   (∀c o,s.heap.get? c=some o->g.get? c=some o)->Q (.ref (s.heap.objs.size+4)) {s with heap:=g}):wpAny `b A (call (.type "zip") [.ref l1,.ref l2]) Q E s:=by
 refine callType_new F.called_zip `B (F.typeCall_zip_2 _ _) (F.newCall_zip_2 _ _) (fun obj=>F.args_object_init_3 obj _ _) F.entry_zip_new (ajv l1 l2 xs ys) ⟨h1,h2,?_⟩
 have z1:(zt1 s.heap l1).objs.size=s.heap.objs.size+1:=Heap.size_push ..
 have z2:(zt2 s.heap l1 l2).objs.size=s.heap.objs.size+2:=by rw[Heap.size_push,z1]
 have z3:(zt3 s.heap l1 l2).objs.size=s.heap.objs.size+3:=by rw[Heap.size_push,z2]
 have z4:(zt4 s.heap l1 l2).objs.size=s.heap.objs.size+4:=by rw[Heap.size_push,z3]
 have z5:(zt5 s.heap l1 l2).objs.size=s.heap.objs.size+5:=by rw[Heap.size_push,z4]
 have w5:(zt5 s.heap l1 l2).get? (zt4 s.heap l1 l2).objs.size=some _:=`i
 have w4:(zt5 s.heap l1 l2).get? (zt3 s.heap l1 l2).objs.size=some _:=Heap.get?_push_of_some _ `i
 have w3:(zt5 s.heap l1 l2).get? (zt2 s.heap l1 l2).objs.size=some _:=Heap.get?_push_of_some _ (Heap.get?_push_of_some _ `i)
 have w2:(zt5 s.heap l1 l2).get? (zt1 s.heap l1).objs.size=some _:=Heap.get?_push_of_some _ (Heap.get?_push_of_some _ (Heap.get?_push_of_some _ `i))
 have w1:(zt5 s.heap l1 l2).get? s.heap.objs.size=some _:=Heap.get?_push_of_some _ (Heap.get?_push_of_some _ (Heap.get?_push_of_some _ (Heap.get?_push_of_some _ `i)))
 show _/\_
 rw[z2,z3,z4]at w5;rw[z1,z2]at w3;rw[z3]at w4;rw[z1]at w2;rw[z4]
 exact⟨⟨_,w5,rfl⟩,q _ w5 w3 w4 ⟨_,w1,rfl,rfl⟩ ⟨_,w2,rfl,rfl⟩ z5 fun c o x=>Heap.get?_push_of_some _ (Heap.get?_push_of_some _ (Heap.get?_push_of_some _ (Heap.get?_push_of_some _ (Heap.get?_push_of_some _ x))))⟩
end
end PySem
namespace Sw
open PySem PySem.Spec PyProof.Rows L2
def Itz(K:W.Frag)(a b:Addr):It:=
 ⟨fun i H=>∃xs ys x y,SqT K H a xs/\SqT K H b ys/\xs[i]?=some x/\ys[i]?=some y,fun i H v H'=>∃p x y,v=.ref p/\H p=none/\H'=upd H p (.tup [x,y])/\(∀xs,SqT K H a xs->xs[i]?=some x)/\∀ys,SqT K H b ys->ys[i]?=some y,fun i H=>∃xs,SqT K H a xs/\xs.length<=i⟩
theorem agW{X:Cx}{pins:`U}{σ:Sg}{H:Hp}{s:Shared}{h2:Heap}{tk:Nat}{fp:List Addr}{xs:`E}(I:`J)(hf:∀b∈fp,FpOk X pins H b)
  (k:∀b o,b∉fp->s.heap.get? b=some o->h2.get? b=some o)(new:ObjOk X.prog X.w (upd H s.heap.objs.size (.tup xs)) h2 s.heap.objs.size (.tup xs)):
  Inv X pins σ (upd H s.heap.objs.size (.tup xs)) {s with heap:=h2,toks:=tk}:=by
 have hn:H s.heap.objs.size=none:=I.hok.fresh `K
 have nt:∀b u,H b=some u->b≠s.heap.objs.size:=fun b u q=>ne_of_none q hn
 have ne:∀b u,H b=some u->b∉fp:=fun b u q z=>by rw[(hf b z).1]at q;cases q
 have up:∀b u,H b=some u->upd H s.heap.objs.size (.tup xs) b=some u:=fun b u q=>by rw[upd_ne (nt b u q)];exact q
 refine I.step (g':=s.gens) (d':=s.drawn) (t':=tk) (ch:=fp) (fun b hb=>⟨(hf b hb).2.2.2.1,(hf b hb).2.1,(hf b hb).2.2.2.2.1,(hf b hb).2.2.2.2.2⟩) (fun b o _ _ hb q _=>k b o hb q)
  (fun b o _ _ hb q _=>⟨o.slots,k b o hb q⟩) (fun b o _ q n=>by rw[upd_ne (Nat.ne_of_lt (Heap.lt_size q))];exact n)
  (fun b o hb q=>⟨o,k b o hb q⟩) (fun b ys q=>up _ _ q) (fun b o u q=>up _ _ q) (fun b ps q=>⟨#[],by rw[up _ _ q];simp⟩) (fun m hm=>?_) (fun b u q=>?_) I.bare
 ·obtain⟨o,es,ep,ho,r⟩:=hm
  exact⟨o,es,ep,k _ o (fun z=>(hf _ z).2.1 rfl) ho,r⟩
 ·by_cases hb:b=s.heap.objs.size
  ·subst hb
   rw[upd_same]at q
   cases q
   exact new
  ·rw[upd_ne hb]at q
   refine(I.hok b u q).stay (fun c v hc q'=>k c v ?_ q') (fun c q'=>up _ _ q') fun c ys q'=>up _ _ q'
   rcases hc with z|z
   ·rw[z];exact ne b u q
   ·exact ne c _ z
theorem aae{X:Cx}{pins:`U}{σ:Sg}{H:Hp}{s:Shared}{h2:Heap}{tk:Nat}{fp:List Addr}(I:`J)(hf:∀b∈fp,FpOk X pins H b)
  (k:∀b o,b∉fp->s.heap.get? b=some o->h2.get? b=some o):Inv X pins σ H {s with heap:=h2,toks:=tk}:=by
 have ne:∀b u,H b=some u->b∉fp:=fun b u q z=>by rw[(hf b z).1]at q;cases q
 refine I.step (g':=s.gens) (d':=s.drawn) (t':=tk) (ch:=fp) (fun b hb=>⟨(hf b hb).2.2.2.1,(hf b hb).2.1,(hf b hb).2.2.2.2.1,(hf b hb).2.2.2.2.2⟩) (fun b o _ _ hb q _=>k b o hb q)
  (fun b o _ _ hb q _=>⟨o.slots,k b o hb q⟩) (fun _ _ _ _ n=>n) (fun b o hb q=>⟨o,k b o hb q⟩) (fun _ _ q=>q) (fun _ _ _ q=>q) (fun b ps q=>⟨#[],by rw[q];simp⟩) (fun m hm=>?_) (fun b u q=>?_) I.bare
 ·obtain⟨o,es,ep,ho,r⟩:=hm
  exact⟨o,es,ep,k _ o (fun z=>(hf _ z).2.1 rfl) ho,r⟩
 ·refine(I.hok b u q).stay (fun c v hc q'=>k c v ?_ q') (fun _ q'=>q') fun _ _ q'=>q'
  rcases hc with z|z
  ·rw[z];exact ne b u q
  ·exact ne c _ z
theorem afv{P:Program}{w:World}{K:W.Frag}{elts:List Expr}{x1:Nat}{tp:Pos}(z I O i1 i2 a b:Addr)(D:ZipApart z I O i1 i2 a b):
  Turn P w K (.Tuple elts x1 tp) (Itz K a b) [z,I,O,i1,i2] z (fun i h=>IsZip h z I O .none/\IsPair h I (.ref i1) (.ref i2)/\(∃u v,IsPair h O u v)/\h.IsTupleIter i1 a i/\h.IsTupleIter i2 b i)where
 mem:=`G
 obj:=fun i h st c hc=>by
  obtain⟨h1,h2,⟨u,v,h3⟩,⟨o4,h4,_,d4⟩,⟨o5,h5,_,d5⟩⟩:=st
  simp only[List.mem_cons,List.not_mem_nil,or_false]at hc
  rcases hc with e|e|e|e|e
  ·rw[e];exact⟨_,h1,fun v z=>by cases z⟩
  ·rw[e];exact⟨_,h2,fun v z=>by cases z⟩
  ·rw[e];exact⟨_,h3,fun v z=>by cases z⟩
  ·rw[e];exact⟨_,h4,fun v z=>by rw[d4]at z;cases z⟩
  ·rw[e];exact⟨_,h5,fun v z=>by rw[d5]at z;cases z⟩
 keep:=fun i h h' st k=>by
  obtain⟨h1,h2,⟨u,v,h3⟩,⟨o4,h4,r4⟩,⟨o5,h5,r5⟩⟩:=st
  exact⟨k z `G _ h1,k I `G _ h2,⟨u,v,k O `G _ h3⟩,⟨o4,k i1 `G _ h4,r4⟩,⟨o5,k i2 `G _ h5,r5⟩⟩
 item:=by
  intro X hP hw hK hc i pins s σ H E Iv hf st hg
  subst hP hw hK
  obtain⟨h1,h2,⟨u,v,h3⟩,h4,h5⟩:=st
  obtain⟨xs,ys,x,y,qa,qb,ex,ey⟩:=hg
  obtain⟨its,ra,pa,_⟩:=Iv.tuple qa
  obtain⟨jts,rb,pb,_⟩:=Iv.tuple qb
  obtain⟨vx,hvx,rx⟩:=ra.get ex
  obtain⟨vy,hvy,ry⟩:=rb.get ey
  have hT:s.TypeIs (.ref z) "zip":=⟨_,h1,rfl⟩
  unfold pyNext
  refine wpAny_bind (wpAny_attempt (wpAny_callSpecial?_slot (name:=Str.ofString "__next__") hT F.slot_zip_next (wpAny_call_entry F.slot_zip_next hT F.entry_zip_next
   (ahT D h1 h2 h3 h4 h5 (show s.heap.IsTuple a its.toArray from pa) (show s.heap.IsTuple b jts.toArray from pb) (x:=vx) (y:=vy) (by simpa using hvx) (by simpa using hvy) fun g a1 a2 a3 a4 a5 a6 a7=>wpAny_pure ⟨_,rfl,?_⟩) (F.args_zip_next_1 _))))
  refine wpAny_letOwnedTupleGo_zip a1 fun g2 z2 b2=>?_
  have zlt:z<s.heap.objs.size:=Heap.lt_size h1
  have hn:H s.heap.objs.size=none:=Iv.hok.fresh `K
  have T2:g2.get? s.heap.objs.size=some {cls:=`a,data:=.seq #[vx,vy]}:=(b2.2 _ (Nat.ne_of_gt zlt)).trans a5
  have lt:∀c∈[z,I,O,i1,i2],c<s.heap.objs.size:=fun c hc=>by
   simp only[List.mem_cons,List.not_mem_nil,or_false]at hc
   rcases hc with e|e|e|e|e
   ·rw[e];exact zlt
   ·rw[e];exact Heap.lt_size h2
   ·rw[e];exact Heap.lt_size h3
   ·rw[e];obtain⟨_,q,_⟩:=h4;exact Heap.lt_size q
   ·rw[e];obtain⟨_,q,_⟩:=h5;exact Heap.lt_size q
  refine⟨`g,upd H s.heap.objs.size (.tup [x,y]),agW (s:=s) (xs:=[x,y]) (h2:=g2) (tk:=s.toks) Iv hf (fun c o hc q=>?_) ?_,rfl,⟨_,x,y,rfl,hn,rfl,fun zs hz=>by rw[Iv.qQ hz qa];exact ex,fun zs hz=>by rw[Iv.qQ hz qb];exact ey⟩,⟨z2,?_,⟨_,_,(b2.2 O D.TOz).trans a2⟩,?_,?_⟩,fun c hc=>?_⟩
  ·simp only[List.mem_cons,List.not_mem_nil,or_false,not_or]at hc
   exact(b2.2 c hc.1).trans (a7 c o hc.1 hc.2.2.1 hc.2.2.2.1 hc.2.2.2.2 q)
  ·exact⟨(by show 2<=sizeLine;decide),[vx,vy],.cons rx (.cons ry .nil),⟨_,T2,rfl,_,rfl⟩⟩
  ·exact(b2.2 I D.TIz).trans (a7 I _ D.TIz D.TITO D.TIi1 D.TIi2 h2)
  ·obtain⟨o,q,r⟩:=a3;exact⟨o,(b2.2 i1 D.i1z).trans q,r⟩
  ·obtain⟨o,q,r⟩:=a4;exact⟨o,(b2.2 i2 D.i2z).trans q,r⟩
  ·rw[upd_ne (Nat.ne_of_lt (lt c hc))];exact(hf c hc).1
 done:=by
  intro X hP hw hK hc i pins s σ H E Iv hf st hg
  subst hP hw hK
  obtain⟨h1,h2,⟨u,v,h3⟩,h4,h5⟩:=st
  obtain⟨xs,qa,hl⟩:=hg
  obtain⟨its,ra,pa,_⟩:=Iv.tuple qa
  have hlen:=ra.length
  have hT:s.TypeIs (.ref z) "zip":=⟨_,h1,rfl⟩
  unfold pyNext
  refine wpAny_bind (wpAny_attempt (wpAny_callSpecial?_slot (name:=Str.ofString "__next__") hT F.slot_zip_next (wpAny_call_entry F.slot_zip_next hT F.entry_zip_next
   (ajw (Iv.ok.hd hc) D h1 h2 h4 (show s.heap.IsTuple a its.toArray from pa) (by simp;lia) fun g e hk he=>?_) (F.args_zip_next_1 _))))
  obtain⟨oe,he1,he2⟩:=he
  refine wpAny_bind (wpAny_isInstance (T:="StopIteration") (b:=true) ⟨oe,he1,he2⟩ isSubtype_stop (wpAny_pure ⟨rfl,?_⟩))
  refine aae (tk:=s.toks) Iv hf fun c o hc q=>?_
  simp only[List.mem_cons,List.not_mem_nil,or_false,not_or]at hc
  exact hk c o hc.1 hc.2.2.1 hc.2.2.2.1 hc.2.2.2.2 q
 self:=fun _ _ _ _ _ st h=>wpAny_pyIter_zip st.1 h
theorem alw:bootBuiltins "zip"=some (.type "zip"):=`C
def akB(K:W.Frag)(ta:TA):TI:=fun σ H R=>ta σ H fun vs H1=>∃a b xs ys,vs=[`I,.ref b]/\SqT K H1 a xs/\SqT K H1 b ys/\R (Itz K a b) H1
theorem ajZ{X:Cx}{elts:List Expr}{x1:Nat}{tp p pos:Pos}{a b:Expr}{ta:TA}(hg:Gl X "zip")(hm:X.mg "zip"=none)(ha:PA X [a,b] ta)
  (hs:starEach [a,b] X.env=[(false,eval a X.env),(false,eval b X.env)]:=by rfl)(hs2:starEach [b] X.env=[(false,eval b X.env)]:=by rfl):
  PI X (.Tuple elts x1 tp) (.Call (.Name "zip" p) [a,b] [] pos) (akB X.K ta):=by
 intro pins s σ H R I h
 refine Call_ (ld_blt I hg hm alw (PyProof.Rows.callWith_type1 (thn (ha pos pins s σ H _ I h) fun us s1⟨vs,H1,I1,r1,q1⟩=>?_) (by rw[hs,hs2]) (by rw[hs2];rfl)))
 obtain⟨l1,l2,xs,ys,rfl,qa,qb,q⟩:=q1
 cases r1 with
 |cons r rr=>
  cases rr with
  |cons r' rr=>
   cases rr
   cases r
   cases r'
   obtain⟨its,ra,pa,_⟩:=I1.tuple qa
   obtain⟨jts,rb,pb,_⟩:=I1.tuple qb
   have lt1:l1<s1.heap.objs.size:=by obtain⟨_,e,_⟩:=id pa;exact Heap.lt_size e
   have lt2:l2<s1.heap.objs.size:=by obtain⟨_,e,_⟩:=id pb;exact Heap.lt_size e
   refine ajb (show s1.heap.IsTuple l1 its.toArray from pa) (show s1.heap.IsTuple l2 jts.toArray from pb) fun g z1 z2 z3 z4 z5 z6 z7=>wpAny_pyIter_zip z1 ?_
   have I2:Inv X pins σ H1 {s1 with heap:=g}:=I1.kept (t':=s1.toks) z7
   refine⟨_,_,_,Itz X.K l1 l2,H1,rfl,I2,afv (s1.heap.objs.size+4) (s1.heap.objs.size+2) (s1.heap.objs.size+3) s1.heap.objs.size (s1.heap.objs.size+1) l1 l2 (zipApart_new lt1 lt2),⟨z1,z2,⟨_,_,z3⟩,z4,z5⟩,fun c hc=>?_,q⟩
   have hb':s1.heap.objs.size<=c:=by
    simp only[List.mem_cons,List.not_mem_nil,or_false]at hc
    rcases hc with e|e|e|e|e<;>rw[e]<;>lia
   exact I1.fpOk hb' (I1.hok.fresh hb')
section
variable{X:Cx}{pins:`U}{σ:Sg}{H:Hp}{s:Shared}{scope:Scope}{cl:List (Str×Addr)}{x y:Str}{fr:List Str}{js:`F}{fp:List Addr}
theorem ahc{h1:Heap}{m1:`Y}{tk:Nat}(I:`J)(L:Jh X scope x fr js cl)(hc:X.calm=true)(hfp:∀b∈fp,FpOk X pins H b)(hsz:∀b∈fp,b<s.heap.objs.size)
  (hy:scope.names.lookup y=some .local)(hn:h1.Ns s.heap.objs.size m1)(hk:∀b o,s.heap.get? b=some o->h1.get? b=some o):
  Inv (blk X scope cl s.heap.objs.size (x::y::fr) s H fp pins) [] (none::none::frv σ js) H {s with heap:=h1,toks:=tk}:=by
 refine⟨aeP I L hc hfp hsz,rfl,I.bare,Un.kept hk,⟨m1,hn,fun i yy v e1 e2 _=>?_⟩,fun y c e=>?_,I.hok.fresh `K,fun y c e=>I.freeC y c (L.sub y c e),fun p hp=>?_,I.hok.kept hk,?_⟩
 ·cases i with
  |zero=>exact absurd e2 `G
  |succ i=>
  cases i with
  |zero=>exact absurd e2 `G
  |succ i=>
   have e1':fr[i]?=some yy:=by simpa[blk]using e1
   obtain⟨j,hj,hN,hcell,hrel⟩:=L.frk.get e1'
   have e2':σ[j]?=some (some v):=by
    have q:(frv σ js)[i]?=some (some v):=by simpa using e2
    unfold frv at q
    rw[List.getElem?_map,hj]at q
    have q':(σ[j]?).getD none=some v:=by simpa using q
    cases hs:σ[j]? with
    |none=>rw[hs]at q';cases q'
    |some o=>rw[hs]at q';exact congrArg some q'
   obtain⟨m,_,hl⟩:=I.loc
   obtain⟨u,r,lk⟩:=hl j yy v hN e2' (.inr (.inl hcell))
   refine⟨u,r,.inr ⟨.inl hrel,?_⟩⟩
   rcases lk with⟨hloc,_⟩|⟨_,c,hc1,hc2⟩
   ·have:X.env.scope.names.lookup yy=some .local:=hloc
    rw[hcell]at this;cases this
   ·obtain⟨c',hc'⟩:=L.has yy (.inl hrel)
    have e3:=L.sub yy c' hc'
    rw[hc1]at e3;cases e3
    exact⟨c,hc',hc2.keeps hk⟩
 ·obtain⟨v,hv⟩:=I.cell y c (L.sub y c e)
  exact⟨v,hv.keeps hk⟩
 ·have hp':p∈X.pn++pins:=by simpa[blk]using hp
  obtain⟨a1,a2,a3,a4,a5⟩:=I.pin p hp'
  refine⟨hk _ _ a1,a2,Nat.ne_of_lt (Heap.lt_size a1),fun z=>?_,a5⟩
  rcases List.mem_cons.mp (I.stkSub _ z)with e|e
  ·exact a3 e
  ·exact a4 e
 ·show(none::none::frv σ js).length=(x::y::fr).length
  simp[frv,L.frk.len]
end
def ae4(K:W.Frag)(J:It)(js:`F)(te:TE)(σ:Sg)(Q:VK)(H1:Hp):Prop:=∀D,H1 D=none->
 ∃W:Nat->Nat->`E->`M,(∃m,W 0 m [] (upd H1 D (.lst [])))/\∀i m ys H',W i m ys H'->H' D=some (.lst ys)/\
  ((J.stop i H'/\Q (.ref D) H')\/(J.go i H'/\∀v H2,J.yld i H' v H2->∃a x y,v=`I/\SqT K H2 a [x,y]/\te (some x::some y::frv σ js) H2 fun z H3=>H3 D=some (.lst ys)/\ys.length<sizeLine/\
   ∃m',m'<m/\W (i+1) m' (ys++[z]) (upd H3 D (.lst (ys++[z])))))
def ajC(K:W.Frag)(wi:TI)(js:`F)(te:TE):TE:=fun σ H Q=>wi σ H fun J H1=>ae4 K J js te σ Q H1
section
variable{X:Cx}{scope:Scope}{cl:List (Str×Addr)}{x y:Str}{fr:List Str}{js:`F}{elt iter:Expr}{px py pt pos:Pos}{kt:Nat}{wi:TI}{te:TE}
theorem aj5(hc:X.calm=true)(L:Jh X scope x fr js cl)(hy:scope.names.lookup y=some .local)(nd2:(x::y::fr).Nodup)(hi:PI X (.Tuple [.Name x px,.Name y py] kt pt) iter wi)
  (he:∀C s H fp pins,PE (blk X scope cl C (x::y::fr) s H fp pins) elt te)
  (hs:∀v,foldedSetIterable iter X.env v=pure v:=by intro _;rfl):
  PE X (.ListComp elt [⟨.Tuple [.Name x px,.Name y py] kt pt,iter,[],0⟩] scope pos) (ajC X.K wi js te):=by
 intro pins s σ H Q I h
 rw[eval_ListComp]
 refine wpAny_comprehension_free (use:=none) rfl hs L.clos L.kind L.loc (thn (hi pins s σ H _ I h) fun v s1 h1=>thn h1 fun itv s2 h2=>?_)
 obtain⟨it,fp,tn,J,H2,e,I2,T,st2,f2,rd⟩:=h2
 subst e
 obtain⟨W,⟨m0,w0⟩,turn⟩:=rd _ I2.fresh
 have I3:=I2.lnew (ys:=[]) (its:=[]) (t':=s2.toks) .nil `W
 refine wpAny_newObj_type ?_
 have X8:∀b∈fp,b<s2.heap.objs.size:=fun b hb=>by
  obtain⟨o,ho,_⟩:=T.obj 0 _ st2 b hb
  exact Heap.lt_size ho
 generalize hs3:({s2 with heap:=s2.heap.push {cls:=.type "list",dict:=none,data:=.seq ([]:`L).toArray}}:Shared)=s3
 have I3':Inv X pins σ (upd H2 s2.heap.objs.size (.lst [])) s3:=by rw[<-hs3];exact I3
 have sz3:s3.heap.objs.size=s2.heap.objs.size+1:=by rw[<-hs3];exact Heap.size_push ..
 have k23:∀b o,s2.heap.get? b=some o->s3.heap.get? b=some o:=fun b o e=>by rw[<-hs3];exact Heap.get?_push_of_some _ e
 have fsz:∀b∈fp,b<s3.heap.objs.size:=fun b hb=>by rw[sz3];exact Nat.lt_succ_of_lt (X8 b hb)
 have f3:∀b∈fp,FpOk X pins (upd H2 s2.heap.objs.size (.lst [])) b:=fun b hb=>⟨by rw[upd_ne (Nat.ne_of_lt (X8 b hb))];exact(f2 b hb).1,(f2 b hb).2⟩
 refine wpAny_newFunctionEnv L.cell (by intro y' hy';simp at hy') (fun h4 hn4 agR=>?_) L.kind
 have k34:∀b o,s3.heap.get? b=some o->h4.get? b=some o:=fun b o e=>(agR.2 b (Nat.ne_of_lt (Heap.lt_size e))).trans (Heap.get?_push_of_some _ e)
 generalize hX':blk X scope cl s3.heap.objs.size (x::y::fr) s3 (upd H2 s2.heap.objs.size (.lst [])) fp pins=X'
 have I4:Inv X' [] (none::none::frv σ js) (upd H2 s2.heap.objs.size (.lst [])) {s3 with heap:=h4,toks:=s3.toks+([]:List (Str×Value)).length}:=by
  rw[<-hX'];exact ahc I3' L hc f3 fsz hy hn4 k34
 have st4:tn 0 h4:=T.keep _ _ _ st2 fun b _ o e=>k34 b o (k23 b o e)
 have he':PE X' elt te:=by rw[<-hX'];exact he _ _ _ _ _
 have xp:X'.prog=X.prog:=by rw[<-hX'];rfl
 have xw:X'.w=X.w:=by rw[<-hX'];rfl
 have xK:X'.K=X.K:=by rw[<-hX'];rfl
 have xA:X'.A=X.A:=by rw[<-hX'];rfl
 have xc:X'.calm=true:=by rw[<-hX'];rfl
 have xe:X'.xe=fun _ _=>False:=by rw[<-hX'];rfl
 have xn:X'.N=x::y::fr:=by rw[<-hX'];rfl
 have xv:X'.env=compEnvC scope cl s3.heap.objs.size X.env:=by rw[<-hX'];rfl
 have xpn:X'.pn=X.pn++pins:=by rw[<-hX'];rfl
 have xex:X'.ex=fp:=by rw[<-hX'];rfl
 have xfs:X'.fs=frs X.stack:=by rw[<-hX'];rfl
 have back:∀{H':Hp}{s':Shared}{h':Heap}{σ':Sg},Inv X' [] σ' H' s'->Heap.SameBut s3.heap.objs.size s'.heap h'->Inv X pins σ H' {s' with heap:=h'}:=fun{H' s' h' σ'}J' hsb=>by
  rw[<-hX']at J';exact YJ I3' J' f3 hsb
 have frame:∀b∈fp,b∉frs X.stack:=fun b hb z=>by
  rcases List.mem_cons.mp (I3'.stkSub b z)with e|e
  ·exact(f3 b hb).2.1 e
  ·exact(f3 b hb).2.2.1 e
 have stat:∀{H':Hp},(∀b∈fp,H' b=none)->∀b∈fp,FpOk X' [] H' b:=fun{H'}hn b hb=>by
  refine⟨hn b hb,?_,?_,.inl (by rw[xex];exact hb),?_,?_⟩
  ·rw[xv];exact Nat.ne_of_lt (fsz b hb)
  ·rw[xfs];exact frame b hb
  ·rw[xv];exact fun y' c e=>(f3 b hb).2.2.2.2.1 y' c (L.sub y' c e)
  ·rw[xpn,List.append_nil];exact(f3 b hb).2.2.2.2.2
 have loop:codeAny `X X.A (.compLoop (.ListComp elt [⟨.Tuple [.Name x px,.Name y py] kt pt,iter,[],0⟩] scope pos) 0 (.ref it) (.ref s2.heap.objs.size) (compEnvC scope cl s3.heap.objs.size X.env))
   (compPost `X X.A X.xe none (EP X pins σ Q) (.ref s2.heap.objs.size) s3.heap.objs.size) {s3 with heap:=h4,toks:=s3.toks+([]:List (Str×Value)).length}:=by
  refine abk (fun n s'=>∃i ys o o' H',Inv X' [] (o::o'::frv σ js) H' s'/\tn i s'.heap/\(∀b∈fp,H' b=none)/\W i n ys H') ?_ m0 ⟨0,[],none,none,_,I4,st4,fun b hb=>(f3 b hb).1,w0⟩
  rintro n s5⟨i,ys,o,o',H5,I5,st5,fr5,w5⟩
  obtain⟨hD,hstep⟩:=turn i n ys H5 w5
  rcases hstep with⟨stop,qn⟩|⟨go,step⟩
  ·have q:=T.done X' xp xw xK xc i [] s5 _ H5 (fun _ _=>False) I5 (stat fr5) st5 stop
   rw[xA]at q
   refine thn q fun r s6⟨hr,I6⟩=>?_
   subst hr
   obtain⟨m6,hn6,_⟩:=I6.loc
   rw[xv]at hn6
   exact⟨m6,hn6,fun h' hsb=>⟨.ref s2.heap.objs.size,H5,back I6 hsb,rfl,qn⟩⟩
  ·have q:=T.item X' xp xw xK xc i [] s5 _ H5 (fun _ _=>False) I5 (stat fr5) st5 go
   rw[xA]at q
   refine thn q fun r s6⟨u,hr,h6⟩=>?_
   subst hr
   refine thn h6 fun _ s7⟨xx,H7,I7,r7,y7,st7,fr7⟩=>?_
   have I7':=I7.pinned (stat fr7) (T.obj _ _ st7)
   obtain⟨ta,x0,y0,rfl,qt,step⟩:=step xx _ y7
   have g0:PG X' (.Name x px) (gName 0):=by
    refine pg_name (i:=0) (x:=x) (by rw[xn];exact nd2) (by rw[xn];rfl) ?_ ?_
    ·rw[xv];exact .inl (lookup_relabel_local L.var)
    ·rw[xv];exact .inr (lookup_relabel_local L.var)
   have g1:PG X' (.Name y py) (gName 1):=by
    refine pg_name (i:=1) (x:=y) (by rw[xn];exact nd2) (by rw[xn];rfl) ?_ ?_
    ·rw[xv];exact .inl (lookup_relabel_local hy)
    ·rw[xv];exact .inr (lookup_relabel_local hy)
   have hg:PG X' (.Tuple [.Name x px,.Name y py] kt pt) (agU X'.K 2 (Vr (gName 0) (Vr (gName 1) agV))):=aeg xc (Lp g0 (Lp g1 aa_))
   have q7:=hg _ s7 _ H7 _ u (fun σ8 H8=>σ8=some x0::some y0::frv σ js/\H8=H7) I7' r7 ⟨ta,[x0,y0],rfl,by rw[xK];exact qt,rfl,_,_,rfl,_,_,rfl,rfl,rfl,rfl⟩
   rw[xp,xw,xA,xe,xv]at q7
   refine thn q7 fun _ s8⟨σ8,H8,I8,e8,e8'⟩=>?_
   subst e8 e8'
   have q8:=he' _ s8 _ _ _ I8 step
   rw[xp,xw,xA,xe,xv]at q8
   refine thn q8 fun yv s9⟨yr,H9,I9,r9,d9,z9,m9,hm9,w9⟩=>?_
   have q9:=bW (X:=X') _ s9 _ H9 (.ref s2.heap.objs.size) [yr] (.ref s2.heap.objs.size) [yv] (fun z H'=>H'=upd H9 s2.heap.objs.size (.lst (ys++[yr]))) I9 rfl (.cons r9 .nil) ⟨_,ys,yr,rfl,rfl,d9,z9,rfl⟩
   rw[xp,xw,xA,xe]at q9
   refine thn q9 fun _ s10⟨_,H10,I10,_,e10⟩=>?_
   subst e10
   refine⟨m9,hm9,i+1,ys++[yr],some x0,some y0,_,I10.unpinned,T.keep _ _ _ st7 fun b hb ob e=>(I10.pin (b,ob) (List.mem_append_right _ (List.mem_append_right _ (mem_pinsAt hb e)))).1,fun b hb=>?_,w9⟩
   obtain⟨ob,e,_⟩:=T.obj _ _ st7 b hb
   exact(I10.pin (b,ob) (List.mem_append_right _ (List.mem_append_right _ (mem_pinsAt hb e)))).2.1
 exact codeAny_compStart_list loop (T.self _ 0 _ _ _ st4 loop)
end
theorem ad7{X:Cx}{elts:List Expr}{x1:Nat}{tp p pos:Pos}{a b:Expr}{ta:TA}(hg:Gl X "zip")(hm:X.mg "zip"=none)(ha:QA X [a,b] ta)
  (hs:starEach [a,b] X.env=[(false,eval a X.env),(false,eval b X.env)]:=by rfl)(hs2:starEach [b] X.env=[(false,eval b X.env)]:=by rfl):
  QI X (.Tuple elts x1 tp) (.Call (.Name "zip" p) [a,b] [] pos) (akB X.K ta):=⟨ajZ hg hm ha.run hs hs2⟩
theorem ajT{X:Cx}{scope:Scope}{cl:List (Str×Addr)}{x y:Str}{fr:List Str}{js:`F}{elt iter:Expr}{px py pt pos:Pos}{kt:Nat}{wi:TI}{te:TE}(hc:X.calm=true)(L:Jh X scope x fr js cl)(hy:scope.names.lookup y=some .local)(nd2:(x::y::fr).Nodup)(hi:QI X (.Tuple [.Name x px,.Name y py] kt pt) iter wi)
  (he:∀C s H fp pins,QE (blk X scope cl C (x::y::fr) s H fp pins) elt te)
  (hs:∀v,foldedSetIterable iter X.env v=pure v:=by intro _;rfl):
  QE X (.ListComp elt [⟨.Tuple [.Name x px,.Name y py] kt pt,iter,[],0⟩] scope pos) (ajC X.K wi js te):=⟨aj5 hc L hy nd2 hi.run (fun C s H fp pins=>(he C s H fp pins).run) hs⟩
theorem aku{K:W.Frag}{a b:Addr}{H1:Hp}{ns ms:`F}{σ:Sg}{js:`F}{te:TE}{Q:VK}(hn:ns.length<=1000)(he:ns.length=ms.length)(ha:SqT K H1 a (ns.map nv))(hb:SqT K H1 b (ms.map nv))
  (hte:∀(i j:Nat)(H':Hp)(R:VK),R (nv (i+j)) H'->te (some (nv i)::some (nv j)::frv σ js) H' R)
  (q:∀D H',Same H1 H'->H' D=some (.lst ((ns.zipWith (· +·) ms).map nv))->Q (.ref D) H'):ae4 K (Itz K a b) js te σ Q H1:=by
 intro D hD
 refine⟨fun i m ys H'=>i<=ns.length/\m=ns.length-i/\Same H1 H'/\H' D=some (.lst ys)/\ys=((ns.zipWith (· +·) ms).take i).map nv,⟨_,`W,rfl,same_new hD _,upd_same,rfl⟩,?_⟩
 rintro i m ys H'⟨hi,rfl,S,hl,rfl⟩
 refine⟨hl,?_⟩
 have ha':=cO (.of S) ha
 have hb':=cO (.of S) hb
 have hz:(ns.zipWith (· +·) ms).length=ns.length:=by rw[List.length_zipWith,he,Nat.min_self]
 by_cases h:i<ns.length
 ·have hm:i<ms.length:=`A
  have ex:(ns.map nv)[i]?=some (nv ns[i]):=by rw[List.getElem?_map,List.getElem?_eq_getElem h];rfl
  have ey:(ms.map nv)[i]?=some (nv ms[i]):=by rw[List.getElem?_map,List.getElem?_eq_getElem hm];rfl
  refine .inr ⟨⟨_,_,_,_,ha',hb',ex,ey⟩,?_⟩
  rintro v H2⟨p,x,y,rfl,hp,rfl,hx,hy⟩
  have e1:=(hx _ ha').symm.trans ex
  have e2:=(hy _ hb').symm.trans ey
  cases e1
  cases e2
  refine⟨p,_,_,rfl,SqT.of upd_same,hte _ _ _ _ ?_⟩
  have hne:D≠p:=fun z=>by rw[z,hp]at hl;cases hl
  refine⟨by rw[upd_ne hne];exact hl,by rw[List.length_map,List.length_take];exact Nat.lt_of_le_of_lt (Nat.min_le_left _ _) (Nat.lt_of_lt_of_le (Nat.lt_of_lt_of_le h hn) `B),ns.length-(i+1),`A,`A,rfl,bN (S.trans (same_new hp _)) hD,upd_same,?_⟩
  have et:(ns.zipWith (· +·) ms).take (i+1)=(ns.zipWith (· +·) ms).take i++[ns[i]+ms[i]]:=by
   rw[List.take_succ,List.getElem?_zipWith,List.getElem?_eq_getElem h,List.getElem?_eq_getElem hm]
   rfl
  rw[et,List.map_append]
  rfl
 ·have e:i=ns.length:=`A
  subst e
  refine .inl ⟨⟨_,ha',by rw[List.length_map];exact`K⟩,q D H' S ?_⟩
  rw[hl,List.take_of_length_le `A]
theorem CallR.or{X:Cx}{f:Value}{r1 r2:`E->Hp->VK->Prop}(h1:CallR X f r1)(h2:CallR X f r2):CallR X f (fun xs H Q=>r1 xs H Q\/r2 xs H Q):=by
 intro pins s σ H xs us Q I r h
 rcases h with h|h
 ·exact h1 pins s σ H xs us Q I r h
 ·exact h2 pins s σ H xs us Q I r h
section
variable{X:Cx}{pins:`U}{σ:Sg}{H:Hp}{s:Shared}
end
section
variable{X:Cx}
theorem YD:CallR X (.builtin "isinstance") (fun xs H Q=>(∃x T t b,xs=[x,.ty T]/\TyOf X.K H x t/\W.kitOne X.K t (.type T)=some b/\Q (.bl b) H)\/(∃a ys T b,xs=[`I,.ty T]/\SqT X.K H a ys/\W.kitOne X.K `a (.type T)=some b/\Q (.bl b) H)):=CallR.or Am Ip
end
def aa2(K:W.Frag):Sp:=fun vs H Q _=>∃a b ns ms,vs=[`I,.ref b]/\SqT K H a (List.map nv ns)/\SqT K H b (List.map nv ms)/\ns.length=15/\ms.length=15/\∀p H',`N->SqT K H' p ((ns.zipWith (· +·) ms).map nv)->Q (.ref p) H'
inductive Dt where
 |i(n:Int)|s(x:Str)|t(ds:List Dt)
namespace Dt
mutual
def deep:Dt->Nat
 | .i _=>0
 | .s _=>0
 | .t ds=>bF ds
def bF:List Dt->Nat
 |[]=>0
 |d::ds=>max (deep d+1) (bF ds)
end
mutual
def beq:Dt->Dt->Bool
 | .i n,.i m=>n==m
 | .s x,.s y=>x==y
 | .t ds,.t es=>ig ds es
 | .i _,.s _=>false
 | .i _,.t _=>false
 | .s _,.i _=>false
 | .s _,.t _=>false
 | .t _,.i _=>false
 | .t _,.s _=>false
def ig:List Dt->List Dt->Bool
 |[],[]=>true
 |d::ds,e::es=>beq d e&&ig ds es
 |[],_::_=>false
 |_::_,[]=>false
end
mutual
theorem beq_iff:∀d e:Dt,beq d e=true↔d=e
 | .i n,.i m=>by rw[beq,beq_iff_eq];simp
 | .s x,.s y=>by rw[beq,beq_iff_eq];simp
 | .t ds,.t es=>by rw[beq,yO ds es];simp
 | .i _,.s _=>by rw[beq];simp
 | .i _,.t _=>by rw[beq];simp
 | .s _,.i _=>by rw[beq];simp
 | .s _,.t _=>by rw[beq];simp
 | .t _,.i _=>by rw[beq];simp
 | .t _,.s _=>by rw[beq];simp
theorem yO:∀ds es:List Dt,ig ds es=true↔ds=es
 |[],[]=>by rw[ig];simp
 |d::ds,e::es=>by rw[ig,Bool.and_eq_true,beq_iff d e,yO ds es];simp
 |[],_::_=>by rw[ig];simp
 |_::_,[]=>by rw[ig];simp
end
theorem oJ(d:Dt):beq d d=true:=(beq_iff d d).mpr rfl
theorem jO{d:Dt}:∀{ds:List Dt},d∈ds->d.deep+1<=bF ds
 |e::es,h=>by
  rw[bF]
  rcases List.mem_cons.mp h with rfl|h
  ·lia
  ·have:=jO h
   lia
end Dt
mutual
def DR(K:W.Frag)(H:Hp):Dt->V->Prop
 | .i n,x=>x=.int n
 | .s z,x=>x=.str z
 | .t ds,x=>∃a xs,x=`I/\SqT K H a xs/\DRs K H ds xs
def DRs(K:W.Frag)(H:Hp):List Dt->`E->Prop
 |[],xs=>xs=[]
 |d::ds,xs=>∃x r,xs=x::r/\DR K H d x/\DRs K H ds r
end
section
variable{K:W.Frag}{H H':Hp}
theorem Fq{n:Int}{x:V}:DR K H (.i n) x↔x=.int n:=by rw[DR]
theorem zj{z:Str}{x:V}:DR K H (.s z) x↔x=.str z:=by rw[DR]
theorem tR{ds:List Dt}{x:V}:DR K H (.t ds) x↔∃a xs,x=`I/\SqT K H a xs/\DRs K H ds xs:=by rw[DR]
theorem xu{xs:`E}:DRs K H [] xs↔xs=[]:=by rw[DRs]
theorem jX{d:Dt}{ds:List Dt}{xs:`E}:DRs K H (d::ds) xs↔∃x r,xs=x::r/\DR K H d x/\DRs K H ds r:=by rw[DRs]
theorem DRs.length:∀{ds:List Dt}{xs:`E},DRs K H ds xs->xs.length=ds.length
 |[],xs,h=>by rw[xu]at h;rw[h];rfl
 |d::ds,xs,h=>by
  obtain⟨x,r,rfl,_,h2⟩:=jX.mp h
  rw[List.length_cons,List.length_cons,DRs.length h2]
theorem DRs.get:∀{ds:List Dt}{xs:`E}{j:Nat}{x:V},DRs K H ds xs->xs[j]?=some x->∃d,ds[j]?=some d/\DR K H d x
 |[],xs,j,x,h,e=>by rw[xu]at h;rw[h]at e;simp at e
 |d::ds,xs,0,x,h,e=>by
  obtain⟨y,r,rfl,h1,_⟩:=jX.mp h
  cases e
  exact⟨d,rfl,h1⟩
 |d::ds,xs,j+1,x,h,e=>by
  obtain⟨y,r,rfl,_,h2⟩:=jX.mp h
  obtain⟨d',hd',h'⟩:=DRs.get (j:=j) h2 (by simpa using e)
  exact⟨d',by simpa using hd',h'⟩
mutual
def ofT:T->Dt
 | .node ts=>.t (Xi ts)
def Xi:`D->List Dt
 |[]=>[]
 |t::ts=>ofT t::Xi ts
end
mutual
theorem TR.dr:∀{t:T}{x:V},TR K H t x->DR K H (ofT t) x
 | .node ts,x,h=>by
  obtain⟨a,xs,e,h1,h2⟩:=cB.mp h
  rw[ofT]
  exact tR.mpr ⟨a,xs,e,h1,TRs.dr h2⟩
theorem TRs.dr:∀{ts:`D}{xs:`E},TRs K H ts xs->DRs K H (Xi ts) xs
 |[],xs,h=>by rw[Xi];exact xu.mpr (bH.mp h)
 |t::ts,xs,h=>by
  obtain⟨x,r,e,h1,h2⟩:=cD.mp h
  rw[Xi]
  exact jX.mpr ⟨x,r,e,TR.dr h1,TRs.dr h2⟩
end
theorem DR2{a:Addr}{d e:Dt}{x y:V}(h:SqT K H a [x,y])(h1:DR K H d x)(h2:DR K H e y):DR K H (.t [d,e]) `I:=
 tR.mpr ⟨a,_,rfl,h,jX.mpr ⟨_,_,rfl,h1,jX.mpr ⟨_,_,rfl,h2,xu.mpr rfl⟩⟩⟩
end
section
variable{X:Cx}{pins:`U}{σ:Sg}{H:Hp}{s:Shared}
mutual
theorem aeH(I:`J):∀(d e:Dt)(x:V),DR X.K H d x->DR X.K H e x->d=e
 | .i n,.i m,x,h,g=>by rw[Fq]at h g;rw[h]at g;cases g;rfl
 | .i n,.s m,x,h,g=>by rw[Fq]at h;rw[zj]at g;rw[h]at g;cases g
 | .i n,.t m,x,h,g=>by rw[Fq]at h;obtain⟨a,xs,e,_⟩:=tR.mp g;rw[h]at e;cases e
 | .s n,.i m,x,h,g=>by rw[zj]at h;rw[Fq]at g;rw[h]at g;cases g
 | .s n,.s m,x,h,g=>by rw[zj]at h g;rw[h]at g;cases g;rfl
 | .s n,.t m,x,h,g=>by rw[zj]at h;obtain⟨a,xs,e,_⟩:=tR.mp g;rw[h]at e;cases e
 | .t n,.i m,x,h,g=>by rw[Fq]at g;obtain⟨a,xs,e,_⟩:=tR.mp h;rw[g]at e;cases e
 | .t n,.s m,x,h,g=>by rw[zj]at g;obtain⟨a,xs,e,_⟩:=tR.mp h;rw[g]at e;cases e
 | .t ds,.t es,x,h,g=>by
  obtain⟨a,xs,rfl,h1,h2⟩:=tR.mp h
  obtain⟨b,ys,e,g1,g2⟩:=tR.mp g
  cases e
  have:=I.qQ h1 g1
  subst this
  rw[abn I ds es xs h2 g2]
theorem abn(I:`J):∀(ds es:List Dt)(xs:`E),DRs X.K H ds xs->DRs X.K H es xs->ds=es
 |[],[],_,_,_=>rfl
 |[],e::es,xs,h,g=>by
  rw[xu]at h
  obtain⟨x,r,z,_⟩:=jX.mp g
  rw[h]at z;cases z
 |d::ds,[],xs,h,g=>by
  rw[xu]at g
  obtain⟨x,r,z,_⟩:=jX.mp h
  rw[g]at z;cases z
 |d::ds,e::es,xs,h,g=>by
  obtain⟨x,r,rfl,h1,h2⟩:=jX.mp h
  obtain⟨y,q,z,g1,g2⟩:=jX.mp g
  cases z
  rw[aeH I d e x h1 g1,abn I ds es r h2 g2]
end
def mR(ds es:List Dt)(j:Nat):Bool:=match ds[j]?,es[j]? with
 |some d,some e=>Dt.beq d e
 |_,_=>true
theorem Uy:∀ds es:List Dt,((List.range (min ds.length es.length)).all (mR ds es)&&ds.length==es.length)=Dt.ig ds es:=by
 intro ds
 induction ds with
 |nil=>
  intro es
  cases es with
  |nil=>rfl
  |cons e es=>rw[Dt.ig];simp
 |cons d ds ih=>
  intro es
  cases es with
  |nil=>rw[Dt.ig];simp
  |cons e es=>
   have e1:min (d::ds).length (e::es).length=min ds.length es.length+1:=by simp only[List.length_cons];lia
   rw[e1,List.range_succ_eq_map,List.all_cons,List.all_map]
   have e2:(mR (d::ds) (e::es)∘Nat.succ)=mR ds es:=by
    funext j
    simp[mR]
   have e3:mR (d::ds) (e::es) 0=Dt.beq d e:=rfl
   have e4:((d::ds).length==(e::es).length)=(ds.length==es.length):=`G
   rw[e2,e3,e4,Bool.and_assoc,ih,Dt.ig]
theorem alV(I:`J):∀(n:Nat)(d e:Dt)(A:Around)(x y:V)(u v:Value),d.deep<n->DR X.K H d x->DR X.K H e y->RelV x u->RelV y v->A.units+n<cLine->SeqAt.EqAt A s u v (Dt.beq d e):=by
 intro n
 induction n with
 |zero=>intro d e A x y u v hd;lia
 |succ n ih=>
  intro d e A x y u v hd q r ru rv hu
  have hu0:A.units<cLine:=`A
  cases d with
  |i n1=>
   rw[Fq]at q;subst q;obtain⟨t1,rfl⟩:=ru
   cases e with
   |i m1=>rw[Fq]at r;subst r;obtain⟨t2,rfl⟩:=rv;rw[Dt.beq];exact SeqAt.EqAt.int_int _ _ _ _
   |s m1=>rw[zj]at r;subst r;obtain⟨t2,rfl⟩:=rv;rw[Dt.beq];exact SeqAt.EqAt.int_str _ _ _ _
   |t es=>
    obtain⟨b,ys,rfl,r1,r2⟩:=tR.mp r
    cases rv
    obtain⟨jts,_,ht2,_⟩:=I.tuple r1
    rw[Dt.beq];exact SeqAt.EqAt.int_tuple _ _ ht2 hu0
  |s x1=>
   rw[zj]at q;subst q;obtain⟨t1,rfl⟩:=ru
   cases e with
   |i m1=>rw[Fq]at r;subst r;obtain⟨t2,rfl⟩:=rv;rw[Dt.beq];exact SeqAt.EqAt.str_int _ _ _ _
   |s m1=>rw[zj]at r;subst r;obtain⟨t2,rfl⟩:=rv;rw[Dt.beq];exact SeqAt.EqAt.str_str _ _ _ _
   |t es=>
    obtain⟨b,ys,rfl,r1,r2⟩:=tR.mp r
    cases rv
    obtain⟨jts,_,ht2,_⟩:=I.tuple r1
    rw[Dt.beq];exact SeqAt.EqAt.str_tuple _ _ ht2 hu0
  |t ds=>
   obtain⟨a,xs,rfl,q1,q2⟩:=tR.mp q
   cases ru
   obtain⟨its,rvs,ht,_⟩:=I.tuple q1
   cases e with
   |i m1=>rw[Fq]at r;subst r;obtain⟨t2,rfl⟩:=rv;rw[Dt.beq];exact SeqAt.EqAt.tuple_int _ _ ht hu0
   |s m1=>rw[zj]at r;subst r;obtain⟨t2,rfl⟩:=rv;rw[Dt.beq];exact SeqAt.EqAt.tuple_str _ _ ht hu0
   |t es=>
    obtain⟨b,ys,rfl,r1,r2⟩:=tR.mp r
    cases rv
    obtain⟨jts,ajL,ht2,_⟩:=I.tuple r1
    by_cases hne:a=b
    ·subst hne
     have et:Dt.t ds=Dt.t es:=aeH I _ _ _ q r
     rw[et,Dt.oJ]
     exact SeqAt.EqAt.same _
    ·refine SeqAt.EqAt.of_refs hne ?_
     rw[Dt.deep]at hd
     have l1:=rvs.length
     have l2:=ajL.length
     have l3:=q2.length
     have l4:=r2.length
     have key:=SeqAt.RcAt.tuples (A:=A) (e:=mR ds es) ht ht2 `A (fun j j1 j2=>?_)
     ·have ev:((List.range (min its.toArray.size jts.toArray.size)).all (mR ds es)&&its.toArray.size==jts.toArray.size)=Dt.beq (.t ds) (.t es):=by
       rw[List.size_toArray,List.size_toArray,<-l1,<-l2,l3,l4,Dt.beq,<-Uy]
      rw[ev]at key
      exact key
     ·have j1':j<xs.length:=by rw[l1];simpa using j1
      have j2':j<ys.length:=by rw[l2];simpa using j2
      obtain⟨u1,hu1,ru1⟩:=rvs.get (List.getElem?_eq_getElem j1')
      obtain⟨u2,hu2,ru2⟩:=ajL.get (List.getElem?_eq_getElem j2')
      obtain⟨d1,hd1,dr1⟩:=q2.get (List.getElem?_eq_getElem j1')
      obtain⟨d2,hd2,dr2⟩:=r2.get (List.getElem?_eq_getElem j2')
      have ee:mR ds es j=Dt.beq d1 d2:=by unfold mR;rw[hd1,hd2]
      have g1:its.toArray[j]=u1:=by
       obtain⟨_,e⟩:=List.getElem?_eq_some_iff.mp hu1
       simpa using e
      have g2:jts.toArray[j]=u2:=by
       obtain⟨_,e⟩:=List.getElem?_eq_some_iff.mp hu2
       simpa using e
      rw[ee,g1,g2]
      have hm:=Dt.jO (List.mem_of_getElem? hd1)
      exact ih d1 d2 A.in1 _ _ u1 u2 `A dr1 dr2 ru1 ru2 (by rw[Around.in1_units];lia)
end
section
variable{X:Cx}{pins:`U}{σ:Sg}{H:Hp}{s:Shared}
theorem agP(I:`J){n:Nat}{A:Around}{ds es:List Dt}{xs ys:`E}{its jts:`L}(q2:DRs X.K H ds xs)(r2:DRs X.K H es ys)(rv:Vals xs its)(rv2:Vals ys jts)(hd:Dt.bF ds<=n)(hu:A.units+n<cLine)
  (j:Nat)(j1:j<its.toArray.size)(j2:j<jts.toArray.size):SeqAt.EqAt A s its.toArray[j] jts.toArray[j] (mR ds es j):=by
 have l1:=rv.length
 have l2:=rv2.length
 have j1':j<xs.length:=by rw[l1];simpa using j1
 have j2':j<ys.length:=by rw[l2];simpa using j2
 obtain⟨u1,hu1,ru1⟩:=rv.get (List.getElem?_eq_getElem j1')
 obtain⟨u2,hu2,ru2⟩:=rv2.get (List.getElem?_eq_getElem j2')
 obtain⟨d1,hd1,dr1⟩:=q2.get (List.getElem?_eq_getElem j1')
 obtain⟨d2,hd2,dr2⟩:=r2.get (List.getElem?_eq_getElem j2')
 have ee:mR ds es j=Dt.beq d1 d2:=by unfold mR;rw[hd1,hd2]
 have g1:its.toArray[j]=u1:=by
  obtain⟨_,e⟩:=List.getElem?_eq_some_iff.mp hu1
  simpa using e
 have g2:jts.toArray[j]=u2:=by
  obtain⟨_,e⟩:=List.getElem?_eq_some_iff.mp hu2
  simpa using e
 rw[ee,g1,g2]
 have hm:=Dt.jO (List.mem_of_getElem? hd1)
 exact alV I n d1 d2 A _ _ u1 u2 `A dr1 dr2 ru1 ru2 hu
end
section
variable{X:Cx}
def ane(K:W.Frag)(n:Nat):R2:=fun x y H Q=>∃ds es,DR K H (.t ds) x/\DR K H (.t es) y/\(Dt.t ds).deep<n/\Q (.bl (Dt.beq (.t ds) (.t es))) H
theorem aj_{n:Nat}(hu:X.A.units+n<cLine):OpR X (compareOp .Eq) (ane X.K n):=by
 intro pins s σ H x y v u Q I rx ry h
 obtain⟨ds,es,h1,h2,hd,q⟩:=h
 obtain⟨a,xs,rfl,q1,q2⟩:=tR.mp h1
 obtain⟨b,ys,rfl,r1,r2⟩:=tR.mp h2
 cases rx
 cases ry
 obtain⟨its,rv,ht,_⟩:=I.tuple q1
 obtain⟨jts,rv2,ht2,_⟩:=I.tuple r1
 rw[Dt.deep]at hd
 have key:=SeqAt.RcAt.tuples (A:=X.A) (e:=mR ds es) ht ht2 `A (agP I q2 r2 rv rv2 (n:=n-1) `A (by rw[Around.in1_units];lia))
 have ev:((List.range (min its.toArray.size jts.toArray.size)).all (mR ds es)&&its.toArray.size==jts.toArray.size)=Dt.beq (.t ds) (.t es):=by
  rw[List.size_toArray,List.size_toArray,<-rv.length,<-rv2.length,q2.length,r2.length,Dt.beq,<-Uy]
 rw[ev]at key
 exact key _ _ _ _ ⟨.bl _,H,I,rfl,q⟩
end
def fQ:`F:=List.replicate 15 0
def eG(a b:`F):`F:=a.zipWith (· +·) b
theorem Y0{a b:`F}(h:a.length=15)(g:b.length=15):(eG a b).length=15:=by unfold eG;rw[List.length_zipWith,h,g];rfl
theorem ae3{b:`F}(g:b.length=15):eG fQ b=b:=by
 unfold eG fQ
 refine List.ext_getElem? fun i=>?_
 rw[List.getElem?_zipWith,List.getElem?_replicate]
 by_cases h:i<15
 ·rw[if_pos h,List.getElem?_eq_getElem `A]
  show some (0+_)=some _
  rw[Nat.zero_add]
 ·rw[if_neg h,List.getElem?_eq_none `A]
theorem ac8{b:`F}(g:b.length=15):eG b fQ=b:=by
 unfold eG fQ
 refine List.ext_getElem? fun i=>?_
 rw[List.getElem?_zipWith,List.getElem?_replicate]
 by_cases h:i<15
 ·rw[if_pos h,List.getElem?_eq_getElem `A]
  show some (_+0)=some _
  rw[Nat.add_zero]
 ·rw[if_neg h,List.getElem?_eq_none `A]
theorem ac9(a b c:`F):eG (eG a b) c=eG a (eG b c):=by
 unfold eG
 refine List.ext_getElem? fun i=>?_
 simp only[List.getElem?_zipWith]
 cases a[i]? <;>cases b[i]? <;>cases c[i]? <;>simp[Nat.add_assoc]
def goT(b:Nat)(tx s:`D):`D×`D×`F:=
 if h:tx=[]\/b<bD tx s then(tx,s,fQ)
 else((goT (b-bD tx s) (onward tx s).1 (onward tx s).2.1).1,(goT (b-bD tx s) (onward tx s).1 (onward tx s).2.1).2.1,eG (lW tx s) (goT (b-bD tx s) (onward tx s).1 (onward tx s).2.1).2.2)
termination_by b
decreasing_by
 all_goals
  have:=yJ tx s
  have:¬b<bD tx s:=fun z=>h (.inr z)
  lia
def spT(b:Nat)(tx s:`D):Nat:=
 if h:tx=[]\/b<bD tx s then 0
 else bD tx s+spT (b-bD tx s) (onward tx s).1 (onward tx s).2.1
termination_by b
decreasing_by
 have:=yJ tx s
 have:¬b<bD tx s:=fun z=>h (.inr z)
 lia
section
variable{b:Nat}{tx s:`D}
theorem wW(h:tx=[]\/b<bD tx s):goT b tx s=(tx,s,fQ):=by rw[goT,dif_pos h]
theorem aaO(h:tx=[]\/b<bD tx s):spT b tx s=0:=by rw[spT,dif_pos h]
theorem wX(h1:tx≠[])(h2:bD tx s<=b):goT b tx s=((goT (b-bD tx s) (onward tx s).1 (onward tx s).2.1).1,(goT (b-bD tx s) (onward tx s).1 (onward tx s).2.1).2.1,eG (lW tx s) (goT (b-bD tx s) (onward tx s).1 (onward tx s).2.1).2.2):=by
 rw[goT,dif_neg (fun z=>z.elim h1 `A)]
theorem aaP(h1:tx≠[])(h2:bD tx s<=b):spT b tx s=bD tx s+spT (b-bD tx s) (onward tx s).1 (onward tx s).2.1:=by
 rw[spT,dif_neg (fun z=>z.elim h1 `A)]
end
theorem BL{P:Nat->`D->`D->Prop}(h0:∀b tx s,(tx=[]\/b<bD tx s)->P b tx s)(h1:∀b tx s,tx≠[]->bD tx s<=b->P (b-bD tx s) (onward tx s).1 (onward tx s).2.1->P b tx s):∀b tx s,P b tx s:=by
 intro b
 induction b using Nat.strongRecOn with
 |ind b ih=>
  intro tx s
  by_cases h:tx=[]\/b<bD tx s
  ·exact h0 b tx s h
  ·have hc:=yJ tx s
   have h2:bD tx s<=b:=by
    have:¬b<bD tx s:=fun z=>h (.inr z)
    lia
   exact h1 b tx s (fun z=>h (.inl z)) h2 (ih _ `A _ _)
theorem X6:∀b tx s,(goT b tx s).2.2.length=15:=by
 refine BL (fun b tx s h=>?_) (fun b tx s h1 h2 ih=>?_)
 ·rw[wW h];rfl
 ·rw[wX h1 h2];exact Y0 (Yc _ _) ih
theorem acU:sZ fQ=0:=`B
theorem acV{ns ms:`F}(h1:ns.length=15)(h2:ms.length=15):sZ (eG ns ms)=sZ ns+sZ ms:=by
 unfold eG
 match ns,h1,ms,h2 with
 |[a0,a1,a2,a3,a4,a5,a6,a7,a8,a9,a10,a11,a12,a13,a14],_,[c0,c1,c2,c3,c4,c5,c6,c7,c8,c9,c10,c11,c12,c13,c14],_=>
  simp only[sZ,List.zipWith_cons_cons,List.zipWith_nil_left,List.take_succ_cons,List.take_zero,List.map_cons,List.map_nil,List.sum_cons,List.sum_nil,List.getD_cons_succ,List.getD_cons_zero,Int.natCast_add]
  lia
theorem ai0:∀b tx s,sZ (goT b tx s).2.2=(spT b tx s:Nat):=by
 refine BL (fun b tx s h=>?_) (fun b tx s h1 h2 ih=>?_)
 ·rw[wW h,aaO h];exact acU
 ·rw[wX h1 h2,aaP h1 h2]
  show sZ (eG _ _)=_
  rw[acV (Yc _ _) (X6 _ _ _),ai4,ih]
  lia
inductive Sane:Nat->`D->`D->Prop
 |mk{b:Nat}{tx s:`D}(h1:BX tx)(h2:B 390 8000000 (.node s))(h3:tx≠[]->bD tx s<=b->Sane (b-bD tx s) (onward tx s).1 (onward tx s).2.1):Sane b tx s
theorem Sane.bx{b:Nat}{tx s:`D}(h:Sane b tx s):BX tx:=by cases h;assumption
theorem Sane.bs{b:Nat}{tx s:`D}(h:Sane b tx s):B 390 8000000 (.node s):=by cases h;assumption
theorem Sane.next{b:Nat}{tx s:`D}(h:Sane b tx s)(h1:tx≠[])(h2:bD tx s<=b):Sane (b-bD tx s) (onward tx s).1 (onward tx s).2.1:=by
 cases h with
 |mk _ _ h3=>exact h3 h1 h2
theorem Sane.last:∀b tx s,Sane b tx s->BX (goT b tx s).1/\B 390 8000000 (.node (goT b tx s).2.1):=by
 refine BL (fun b tx s h g=>?_) (fun b tx s h1 h2 ih g=>?_)
 ·rw[wW h];exact⟨g.bx,g.bs⟩
 ·rw[wX h1 h2];exact ih (g.next h1 h2)
theorem lO{s:`D}{i:Nat}(h:i<s.length):(ats s i).deep+1<=T.bF s:=T.jO (ae0 h)
theorem rC(s:`D)(k:Nat):T.bF (s.drop k)<=T.bF s:=by
 have e:=congrArg T.bF (List.take_append_drop k s)
 rw[T.oE]at e
 lia
theorem wZ(t:T):t.deep=T.bF t.kids:=by cases t;rw[T.bC];rfl
theorem vp(t:T):(aL t).deep<=t.deep:=by
 unfold aL
 rw[T.bC,wZ t]
 exact rC _ _
theorem PK(t:T):(ats t.kids 0).deep<=t.deep:=by
 rw[wZ t]
 cases t.kids with
 |nil=>show T.deep (.node [])<=_;rw[T.bC,T.iC];lia
 |cons u us=>show u.deep<=_;rw[T.bf];lia
theorem WW(s:`D)(n:Nat):T.bF (pad s n)<=max (T.bF s) 1:=by
 unfold pad
 rw[T.oE]
 have:∀m:Nat,T.bF (List.replicate m leaf)<=1:=fun m=>by
  induction m with
  |zero=>show T.bF []<=1;rw[T.iC];lia
  |succ m ih=>rw[List.replicate_succ,T.bf];show max (T.deep (.node [])+1) _<=1;rw[T.bC,T.iC];lia
 have:=this (n-s.length)
 lia
theorem adA{k:Nat}{l:T}{s:`D}(h:looks k<=s.length):T.bF (rJ k l s)<=max (T.bF s+1) (l.deep+1):=by
 by_cases h0:k=0
 ·subst h0;show T.bF (l::s)<=_;rw[T.bf];lia
 by_cases h1:k=1
 ·subst h1;show T.bF (s.drop 1)<=_;have:=rC s 1;lia
 by_cases h2:k=2
 ·subst h2
  have h:1<=s.length:=h
  have:=lO (s:=s) (i:=0) `A
  show T.bF (ats s 0::s)<=_;rw[T.bf];lia
 by_cases h3:k=3
 ·subst h3
  have h:2<=s.length:=h
  have:=lO (s:=s) (i:=0) `A
  have:=lO (s:=s) (i:=1) `A
  have:=rC s 2
  show T.bF (ats s 1::ats s 0::s.drop 2)<=_;rw[T.bf,T.bf];lia
 by_cases h4:k=4
 ·subst h4
  have h:2<=s.length:=h
  have:=lO (s:=s) (i:=0) `A
  have:=lO (s:=s) (i:=1) `A
  have:=rC s 2
  have:=wZ (ats s 1)
  show T.bF (.node (ats s 0::(ats s 1).kids)::s.drop 2)<=_;rw[T.bf,T.bC,T.bf];lia
 by_cases h5:k=5
 ·subst h5
  have h:1<=s.length:=h
  have:=lO (s:=s) (i:=0) `A
  have:=rC s 1
  have:=PK (ats s 0)
  have:=vp (ats s 0)
  show T.bF (ats (ats s 0).kids 0::aL (ats s 0)::s.drop 1)<=_;rw[T.bf,T.bf];lia
 by_cases h6:k=6
 ·subst h6
  have h:3<=s.length:=h
  have:=lO (s:=s) (i:=0) `A
  have:=lO (s:=s) (i:=1) `A
  have:=lO (s:=s) (i:=2) `A
  have:=rC s 3
  show T.bF (ats s 2::ats s 0::ats s 1::s.drop 3)<=_;rw[T.bf,T.bf,T.bf];lia
 ·rw[Bu `A];lia
def vZ:Str:=PySem.Str.ofString "told"
def an0:Str:=PySem.Str.ofString "out"
def Vm(b:Nat)(tx s:`D):Str:=if(goT b tx s).1=[]then vZ else an0
def Vn(b:Nat)(tx s:`D):T:=if(goT b tx s).1=[]then ats (goT b tx s).2.1 0 else leaf
def ab5(tx s:`D):T:=.node [.node tx,.node s]
def QV(K:W.Frag):Sp:=fun vs H Q _=>∃x t y u,vs=[x,y]/\TR K H t x/\TR K H u y/\∀z H',`N->TR K H' (ab5 [t] [u]) z->Q z H'
def ahy(K:W.Frag):Sp:=fun vs H Q _=>∃(x y:V)(t u:T)(b:Nat),vs=[x,y,.int (b:Int)]/\TR K H t x/\TR K H u y/\Sane b [t] [u]/\
 ∀p v H',`N->SqT K H' p [.str (Vm b [t] [u]),v,nv (spT b [t] [u])]->TR K H' (Vn b [t] [u]) v->Q (.ref p) H'
def Uc(K:W.Frag):Sp:=fun vs H Q _=>∃(x y:V)(t u:T)(b:Nat),vs=[x,y,.int (b:Int)]/\TR K H t x/\TR K H u y/\Sane b [t] [u]/\
 ∀c H',`N->SqT K H' c ((goT b [t] [u]).2.2.map nv)->Q (.ref c) H'
def ajV(p:`D)(d:T):`D:=i_ 0 d.kids::i_ 4 []::p
def ahz(K:W.Frag):Sp:=fun vs H Q _=>∃x p y d,vs=[x,y]/\TR K H (.node p) x/\TR K H d y/\B 390 900000 (.node p)/\B 390 900000 d/\∀z H',`N->TR K H' (.node (ajV p d)) z->Q z H'
section
variable(p:`D)(d x:T)(Y:`D)
end
end Sw
namespace PySem
open Builtin Builtin.Str
section
variable{prog:Program}{w:World}{A:Around}{E:`V}{s:Shared}{x:Str}{t:Tok}{Q:`V}
theorem abT{y:Str}{u:Tok}(hy:(y.length==0)=false)
  (q:∀(l:List (Str×Tok))(k:Nat),l.map (·.1)=Txt.split x y->Q `g {s with toks:=k,heap:=s.heap.push {cls:=.type "list",data:=.seq (strValues l).toArray}})
  (z1:x.length<=sizeLine)(z2:(partsBetween x (occurrences x y 0 x.length (x.length+1)) y.length).length<=sizeLine):wpAny `b A (call (.builtin "str.split") [.str x t,.str y u]) Q E s:=by
 cases c1:(decide (x.length<y.length)||decide (Builtin.Str.strKind x<Builtin.Str.strKind y))
 ·cases c2:(occurrences x y 0 x.length (x.length+1)).isEmpty
  ·refine call_meets F.slot_str_split (typeIs_str _ _ _) F.entry_str_split (F.args_str_split_2 _ _) (meets_str_split_sep x y t u c1 hy c2 z1 z2) ?_
   show wants Q E _ {s with toks:=_,heap:=s.heap.push {cls:=.type "list",data:=.seq (strsFrom s.toks (partsBetween x (occurrences x y 0 x.length (x.length+1)) y.length)).toArray}};rw[strsFrom_eq]
   exact q (numbered s.toks _) _ ((numbered_texts _ _).trans ((if_neg (ne_true_of_eq_false c1)).trans (if_neg (ne_true_of_eq_false c2))).symm)
  ·exact call_meets F.slot_str_split (typeIs_str _ _ _) F.entry_str_split (F.args_str_split_2 _ _) (meets_str_split_not_found x y t u c1 hy c2) (q [(x,t)] s.toks ((if_neg (ne_true_of_eq_false c1)).trans (if_pos c2)).symm)
 ·exact call_meets F.slot_str_split (typeIs_str _ _ _) F.entry_str_split (F.args_str_split_2 _ _) (meets_str_split_cannot_occur x y t u c1) (q [(x,t)] s.toks (if_pos c1).symm)
end
end PySem
namespace Sw
open PySem PySem.Spec PyProof.Rows L2
def dh(sep:`F):`R->`F
 |[]=>[]
 |[l]=>l
 |l::r=>l++sep++dh sep r
theorem sI(sep l:`F){r:`R}(h:r≠[]):dh sep (l::r)=l++sep++dh sep r:=by
 cases r with
 |nil=>exact absurd rfl h
 |cons _ _=>rfl
theorem Wf(sep:`F):∀ls:`R,PySem.Str.join (tx sep) (ls.map tx)=tx (dh sep ls)
 |[]=>rfl
 |[l]=>rfl
 |l::m::r=>by
  have ih:=Wf sep (m::r)
  show tx l++tx sep++PySem.Str.join (tx sep) ((m::r).map tx)=_
  rw[ih,zm,zm]
  rfl
theorem afy (sep:`F) (ls:`R):Txt.join (tx sep) (ls.map tx)=tx (dh sep ls):=by
 have key:∀ (ls:`R) (acc:`F),(ls.map tx).foldl (fun acc p=>acc++(tx sep).cps++p.cps) acc.toArray=(dh sep (acc::ls)).toArray:=by
  intro ls
  induction ls with
  | nil=>intro acc; rfl
  | cons l ls ih =>
   intro acc
   rw [List.map_cons,List.foldl_cons]
   have e:acc.toArray++(tx sep).cps++(tx l).cps=(acc++sep++l).toArray:=by simp [tx]
   rw [e,ih]
   cases ls with
   | nil=>rfl
   | cons m r =>
    show (acc++sep++l++sep++dh sep (m::r)).toArray=(acc++sep++(l++sep++dh sep (m::r))).toArray
    simp only [List.append_assoc]
 show Str.mk _=_
 cases ls with
 | nil=>rfl
 | cons l ls =>
  have:=key ls l
  show Str.mk (((l::ls).map tx).drop 1 |>.foldl (fun acc p=>acc++(tx sep).cps++p.cps) (((l::ls).map tx).headD Str.empty).cps)=tx (dh sep (l::ls))
  rw [List.map_cons,List.drop_one,List.tail_cons,List.headD_cons]
  exact congrArg Str.mk this
theorem Uv(sep:`F):∀ls:`R,(dh sep ls).length<=ls.flatten.length+ls.length*sep.length
 |[]=>by simp[dh]
 |[l]=>by simp[dh]
 |l::m::r=>by
  have ih:=Uv sep (m::r)
  show(l++sep++dh sep (m::r)).length<=_
  rw[List.length_append,List.length_append,List.flatten_cons,List.length_append,List.length_cons (a:=l),Nat.add_mul]
  lia
section
variable{X:Cx}
theorem ag9(hc:X.calm=true):CallR X (.builtin "any") (fun xs H Q=>∃(p:Addr)(bs:List Bool),xs=[.ref p]/\SqL X.K H p (bs.map V.bl)/\Q (.bl (bs.any id)) H):=by
 intro pins s σ H xs us Q I r h
 obtain⟨p,bs,rfl,hq,q⟩:=h
 obtain⟨u,rfl,rx⟩:=vals1 r
 cases rx
 obtain⟨its,r',pl,hz⟩:=I.list hq
 have hit:=YH r'
 subst hit
 have hl:=pl.isList
 have hlt:p<s.heap.objs.size:=by obtain⟨_,e,_⟩:=hl;exact Heap.lt_size e
 refine call_any_walk (wpAny_pyIter_list hl ?_)
 refine⟨_,_,_,_,_,_,fun i=>bs.getD i false,rfl,Walks.list (A:=X.A.in1) (I.ok.hd hc) _ p (Nat.ne_of_lt hlt) (bs.map Value.bool).toArray,⟨⟨_,`i,rfl,rfl⟩,hl.push _⟩,?_,fun h' tk hk=>?_⟩
 ·intro i v s Q E hv hQ
  rw[List.getElem?_toArray,List.getElem?_map]at hv
  cases hh:bs[i]? with
  |none=>rw[hh]at hv;cases hv
  |some b=>
   rw[hh]at hv
   cases hv
   have hQ':Q (bs.getD i false) s:=hQ
   rw[List.getD_eq_getElem?_getD,hh]at hQ'
   exact wpAny_truthy_bool hQ'
 ·have es:(List.range (bs.map Value.bool).toArray.size).any (fun i=>bs.getD i false)=bs.any id:=by
   rw[List.size_toArray,List.length_map,Bool.eq_iff_iff,List.any_eq_true,List.any_eq_true]
   refine⟨fun⟨i,hi,e⟩=>?_,fun⟨b,hb,e⟩=>?_⟩
   ·have hi':=List.mem_range.mp hi
    rw[List.getD_eq_getElem?_getD,List.getElem?_eq_getElem hi',Option.getD_some]at e
    exact⟨_,List.getElem_mem hi',e⟩
   ·obtain⟨i,hi,e'⟩:=List.getElem_of_mem hb
    refine⟨i,List.mem_range.mpr hi,?_⟩
    rw[List.getD_eq_getElem?_getD,List.getElem?_eq_getElem hi,Option.getD_some,e']
    exact e
  rw[es]
  exact⟨.bl (bs.any id),H,I.kept (old_kept hk),rfl,q⟩
def ajO(K:W.Frag):V->`E->Hp->VK->Prop:=fun x vs H Q=>∃(l:Addr)(sep:`F)(ls:`R),x=.str (tx sep)/\vs=[.ref l]/\SqL K H l (ls.map fun c=>V.str (tx c))/\ls.flatten.length+ls.length*sep.length<=16777216/\Q (.str (tx (dh sep ls))) H
theorem agC:MtM X "str.join" (ajO X.K):=by
 intro pins s σ H x vs v us Q I rx rv h
 obtain⟨l,sep,ls,rfl,rfl,hq,hz,q⟩:=h
 obtain⟨t,rfl⟩:=rx
 obtain⟨u,rfl,ru⟩:=rv.one
 cases ru
 obtain⟨its,r,pl,_⟩:=I.list hq
 have hs:StrsAre its (ls.map tx):=CZ (by rw[List.map_map];exact r)
 refine join_list (ys:=ls.map tx) pl.isList (by simpa using hs) ?_ fun t' k=>?_
 ·rw[QK,jo,List.length_map]
  exact hz
 ·rw[show Txt.join (tx sep) (ls.map tx)=tx (dh sep ls)from afy sep ls]
  exact⟨.str (tx (dh sep ls)),H,I.tok _,⟨_,rfl⟩,q⟩
def ajM:V->`E->Hp->VK->Prop:=fun x vs H Q=>∃(l:`F)(c:Nat),x=.str (tx l)/\vs=[.str (tx [c])]/\l.length<=8000000/\
 ∀D ls,H D=none->dh [c] ls=l->ls≠[]->(∀p∈ls,c∉p)->Q (.ref D) (upd H D (.lst (ls.map fun p=>V.str (tx p))))
theorem alO(z:Str):z=tx z.cps.toList:=rfl
theorem aaN:∀ss:List Str,∃ls:`R,ss=ls.map tx
 |[]=>⟨[],rfl⟩
 |z::ss=>by
  obtain⟨ls,e⟩:=aaN ss
  exact⟨z.cps.toList::ls,by rw[List.map_cons,<-e,<-alO]⟩
theorem Ua:∀{l:List (Str×Tok)}{ls:`R},l.map (·.1)=ls.map tx->Vals (ls.map fun p=>V.str (tx p)) (strValues l)
 |[],ls,h=>by
  cases ls with
  |nil=>exact .nil
  |cons _ _=>cases h
 |(z,t)::l,ls,h=>by
  cases ls with
  |nil=>cases h
  |cons p ls=>
   have h':=List.cons.inj h
   have e:z=tx p:=h'.1
   subst e
   exact .cons ⟨t,rfl⟩ (Ua h'.2)
theorem agB:MtM X "str.split" ajM:=by
 intro pins s σ H x vs v us Q I rx rv h
 obtain⟨l,c,rfl,rfl,hl,q⟩:=h
 obtain⟨t,rfl⟩:=rx
 obtain⟨u,rfl,ru⟩:=rv.one
 obtain⟨t',rfl⟩:=ru
 have z2:(Builtin.Str.partsBetween (tx l) (Builtin.Str.occurrences (tx l) (tx [c]) 0 (tx l).length ((tx l).length+1)) (tx [c]).length).length<=sizeLine:=by
  rw[PyProof.Rows.len_partsBetween]
  have:=StrLaws.occ_length_le (tx l) (tx [c]) 0 (tx l).length ((tx l).length+1)
  rw[jo]at this|-
  exact Nat.le_trans (Nat.succ_le_succ this) (Nat.le_trans (Nat.add_le_add_right hl 2) `B)
 refine abT rfl (fun ll k e=>?_) (by rw[jo];exact Nat.le_trans hl `B) z2
 obtain⟨ls,els⟩:=aaN (ll.map (·.1))
 have e2:Txt.split (tx l) (tx [c])=ls.map tx:=by rw[<-e,els]
 have hj:dh [c] ls=l:=by
  have:=StrLaws.join_split (tx l) (tx [c])
  rw[e2,Wf]at this
  exact Gj.mp this
 have hf:∀p∈ls,c∉p:=fun p hp=>by
  have:=StrLaws.split_free (tx l) c (tx p) (by
   show tx p∈Txt.split (tx l) (tx [c])
   rw[e2]
   exact List.mem_map.mpr ⟨p,hp,rfl⟩)
  simpa[tx]using this
 have hne:ls≠[]:=fun z=>by
  have:=PyProof.Rows.split_pos (tx l) (tx [c])
  rw[e2,z]at this
  simp at this
 have hln:ls.length<=sizeLine:=by
  have:=PyProof.Rows.split_le (tx l) (tx [c])
  rw[e2,List.length_map,jo]at this
  exact Nat.le_trans this (Nat.le_trans (Nat.add_le_add_right hl 2) `B)
 have hn:H s.heap.objs.size=none:=I.hok.fresh `K
 have I2:=I.lnew (ys:=ls.map fun p=>V.str (tx p)) (its:=strValues ll) (t':=k) (Ua els) (by rw[List.length_map];exact hln)
 exact⟨`g,_,I2,rfl,q _ ls hn hj hne hf⟩
def aia:V->`E->Hp->VK->Prop:=fun x vs H Q=>∃(l:`F)(c:Nat),x=.str (tx l)/\vs=[.str (tx [c])]/\Q (.bl (l.head? ==some c)) H
theorem adO(l:`F)(c:Nat):Txt.startswith (tx l) (tx [c])=(l.head? ==some c):=by
 unfold Txt.startswith Builtin.Str.subAt
 cases l with
 |nil=>rfl
 |cons a r=>
  show(decide (0+1<=(a::r).length)&&((a::r).toArray.extract 0 (0+1)== #[c]))=(some a==some c)
  have e:(a::r).toArray.extract 0 (0+1)=#[a]:=`G
  rw[e,decide_eq_true `G,Bool.true_and]
  simp
theorem Uo:MtM X "str.startswith" aia:=by
 intro pins s σ H x vs v us Q I rx rv h
 obtain⟨l,c,rfl,rfl,q⟩:=h
 obtain⟨t,rfl⟩:=rx
 obtain⟨u,rfl,ru⟩:=rv.one
 obtain⟨t',rfl⟩:=ru
 refine SC.startswith ?_
 rw[adO]
 exact⟨.bl _,H,I,rfl,q⟩
end
open SeqAt in
theorem Kf(l:Addr)(items:Array Value)(n:Nat)(dd:Option Addr)(sl:`f)(x:Value)(e:Value->Bool)(j:Nat)(hj:j<items.size)(hit:e items[j]=true)(hno:∀m(hm:m<items.size),m<j->e items[m]=false):
  Meets (Builtin.«tuple.index» ⟨[.ref l,x],[]⟩) (fun A R u=>u.heap.get? l=some {cls:=`a,dict:=dd,data:=.seq items n,slots:=sl}/\(∀y,y∈items->EqAt A.in1 u y x (e y))/\R (.ok (.ret (.int j u.toks))) {u with toks:=u.toks+1}):=
 .of_wp fun prog w A R u h=>by
  obtain⟨hp,g,d,tk,os⟩:=u;obtain⟨hl,he,h⟩:=h
  unfold Builtin.«tuple.index»
  simp only[Std.Legacy.Range.forIn_eq_forIn_range']
  wp_walk using wpAny_loadPart' hl,wpAny_forIn_list _ (fun rest b s'=>b.1=none/\s'=⟨hp,g,d,tk,os⟩/\∃i,i<=j/\rest=(List.range' 0 items.size).drop i) _
  case turn=>
   rintro i rest b s'⟨hb,rfl,m,hm,hr⟩
   have hlt:m<items.size:=by
    have:=congrArg List.length hr
    simp at this
    lia
   have hr2:(List.range' 0 items.size).drop m=m::(List.range' 0 items.size).drop (m+1):=by
    rw[List.drop_eq_getElem_cons (by simpa using hlt)]
    simp
   rw[hr2]at hr
   obtain⟨rfl,rfl⟩:=List.cons.inj hr
   have e1:items[i]?=some items[i]:=Array.getElem?_eq_getElem hlt
   rw[e1]
   refine wpAny_bind (he _ (Array.getElem_mem hlt) prog w _ _ ?_)
   by_cases hmj:i=j
   ·subst hmj
    rw[hit]
    wp_walk
    exact⟨_,rfl,h⟩
   ·rw[hno i hlt `A]
    wp_walk
    exact⟨rfl,rfl,i+1,`A,rfl⟩
  case fin=>
   rintro⟨b1,b2⟩s'⟨hb,rfl,m,hm,hr⟩
   have:=congrArg List.length hr
   simp at this
   lia
  case h=>
   refine⟨rfl,rfl,0,`W,?_⟩
   simp
end Sw
namespace Sw
abbrev W(n:Nat):T:=i_ n []
abbrev PJ(yes no:`D):T:=i_ 7 (.node yes::no)
section
variable{t cs s:`D}{e:Std}{n c:Nat}
end
def alS(t:`D):`D:=W 6::W 6::W 4::W 6::W 6::W 4::W 3::t
def ahW(t:`D):`D:=W 1::W 4::W 3::W 5::t
def ahV:Nat->`D
 |1=>[W 1]
 |2=>[W 2,W 6,W 3,W 4,W 3,W 4]
 |3=>[W 3,W 5,W 3,W 6,W 4,W 3,W 4]
 |4=>[W 3,W 5,W 6,W 4,W 4]
 |5=>[W 5,W 6,W 6,W 4,W 3,W 4]
 |6=>[W 3,W 5,W 3,W 5,W 3,W 6,W 4,W 6,W 4,W 3,W 4]
 |_=>[]
def ajz(t:`D):`D:=W 6::W 6::W 4::W 6::W 5::t
def amm:`D:=[W 4,W 3,W 6,W 5,W 3,W 1,W 4]
def tNo:`D:=[W 4,W 3,W 6,W 5,W 1,W 4]
def alT:`D:=[W 4,W 3,W 6,W 5,W 3,W 2,W 6,W 4,W 6,W 5,W 6,W 4,W 4,W 3,W 4]
def alR:`D:=[W 4,W 6,W 1,W 3]
def VF:Nat->`D->`D
 |0,t=>t
 |n+1,t=>W 1::VF n t
def Vo(k:Nat):`D:=VF (k+1) (if k=0 then alS []else if k=7 then ajz [PJ amm tNo]else ahW (ahV k++[W 3]))
def ahv:Nat->`D->`D
 |0,t=>t
 |n+1,t=>W 3::W 4::ahv n t
def Bv:`D:=ahv 8 (W 4::ajz [PJ alT alR])
def Gm:`D:=VF 10 [W 4]
def zp:Nat->`D
 |0=>[PJ Gm Bv]
 |d+1=>[PJ (W 5::W 3::zp d) (Vo (7-d))]
def abP:`D:=[W 5,PJ (W 5::W 5::zp 8) [W 1]]
def abQ:`D:=[i_ 8 abP,W 1,W 5,W 3,W 1]
def zq:`D:=W 5::i_ 0 []::W 6::W 4::i_ 0 []::W 6::W 4::abQ
section
variable{t cs s us:`D}{e:Std}{n c:Nat}
end
end Sw
namespace PySem
open Builtin Builtin.Str
section
variable{prog:Program}{w:World}{A:Around}{E:`V}{s:Shared}{x:Str}{t:Tok}{Q:`V}
theorem afG(q:∀(l:List (Str×Tok))(k:Nat),l.map (·.1)=Txt.words x->Q `g {s with toks:=k,heap:=s.heap.push {cls:=.type "list",data:=.seq (strValues l).toArray}})
  (z1:x.length<=sizeLine)(z2:(spaceWords x (x.length+1)).length<=sizeLine):wpAny `b A (call (.builtin "str.split") [.str x t]) Q E s:=by
 refine call_meets F.slot_str_split (typeIs_str _ _ _) F.entry_str_split (F.args_str_split_1 _) (meets_str_split_space x t z1 z2) ?_
 cases hw:spaceWords x (x.length+1)==[(0,x.length)]
 ·simp only[Bool.false_eq_true,if_false];rw[strsFrom_eq]
  exact q (numbered s.toks (wordsOf x)) _ ((numbered_texts _ _).trans (if_neg (ne_true_of_eq_false hw)).symm)
 ·simp only[if_true];exact q [(x,t)] s.toks (if_pos hw).symm
end
section
variable{prog:Program}{w:World}{A:Around}{E:`V}{s:Shared}
theorem abR:isSubtype (.type "range_iterator") (.type "reversed")=pure false:=by rw[isSubtype_type];kernel_rfl
def ux:Obj:={cls:=.type "range_iterator",data:=.fields #[rawInt 7,rawInt 8,rawInt (-1)]}
theorem acP(r:Addr)(t u v:Tok):Meets (Builtin.«range.__reversed__» ⟨[.ref r],[]⟩) (fun _ R s=>IsRange s.heap r 0 8 1 t u v/\R (.ok (.ret `g)) {s with heap:=s.heap.push ux}):=
 .of_wp fun prog w A R s h=>by obtain⟨hp,g,d,tk,os⟩:=s;obtain⟨hl,h⟩:=h;wp_walk;exact⟨_,rfl,h⟩
theorem S_{r:Addr}{t u v:Tok}{Q₁:`V}(hr:IsRange s.heap r 0 8 1 t u v)(h:Q₁ `g {s with heap:=s.heap.push ux}):
  codeAny `b A (.call (.builtin "reversed.__new__") ⟨[.type "reversed",.ref r],[]⟩) (wants Q₁ E) s:=by
 have hT:s.TypeIs (.ref r) "range":=⟨_,hr,rfl⟩
 refine codeAny_of_tree (show wpAny _ A.in1 (do checkBuiltinCall "reversed.__new__" ⟨[.type "reversed",.ref r],[]⟩;again (.builtin "reversed.__new__" ⟨[.type "reversed",.ref r],[]⟩)) _ _ s from ?_)
 refine wpAny_bind (wpAny_of_eq (F.newCall_reversed_1 _) (wpAny_pure ⟨plainId_quiet F.plain_reversed_new _,codeAny_builtin F.entry_reversed_new ?_⟩));rw[Around.under_plainId F.plain_reversed_new _];unfold Builtin.«reversed.__new__»
 refine wpAny_bind (wpAny_of_eq (newClass_reversed _) ?_);try dsimp only
 refine wpAny_bind (wpAny_of_eq (a:=()) (by first|rfl|kernel_rfl) ?_);refine wpAny_bind (wpAny_of_eq (a:=()) (by first|rfl|kernel_rfl) ?_);try dsimp only
 refine wpAny_bind (wpAny_specialOf hT F.slot_range_reversed.lookup ?_);try dsimp only
 refine wpAny_bind (wpAny_of_eq (F.slot_range_reversed.bind _) ?_);try dsimp only
 first
 |rw[if_neg (show¬((Value.builtin "range.__reversed__"==Value.none)=true)from Bool.false_ne_true)]
 |(show wpAny _ _ (if(Value.builtin "range.__reversed__"==Value.none)=true then _ else _) _ _ _;rw[if_neg (show¬((Value.builtin "range.__reversed__"==Value.none)=true)from Bool.false_ne_true)])
 refine wpAny_bind (wpAny_rule ?_);refine wpAny_bind (m:=runValue (.call (.builtin "range.__reversed__") ⟨[.ref r],[]⟩)) (show wpAny _ _ (call (.builtin "range.__reversed__") [.ref r]) _ _ _ from call_meets F.slot_range_reversed hT F.entry_range_reversed (F.args_range_reversed_1 _) (acP r t u v) ⟨hr,?_⟩)
 first
 |exact wpAny_pure h
 |exact wpAny_bind (wpAny_pure (wpAny_pure h))
theorem Tc{r:Addr}{t u v:Tok}{Q:`V}(hr:IsRange s.heap r 0 8 1 t u v)(h:Q `g {s with heap:=s.heap.push ux}):
  wpAny `b A (call (.type "reversed") [.ref r]) Q E s:=by
 refine callType_other (U:="range_iterator") (Q₁:=fun obj s₁=>obj=`g/\s₁={s with heap:=s.heap.push ux}) `C F.create_reversed ⟨_,_,F.mro_reversed⟩ F.made_reversed abR (F.typeCall_reversed_1 _) (S_ hr ⟨rfl,rfl⟩) ?_
 rintro obj s₁⟨rfl,rfl⟩
 exact⟨⟨_,`i,rfl⟩,h⟩
end
end PySem
namespace Sw
open PySem PySem.Spec PyProof.Rows L2 SwR
section
variable{X:Cx}
theorem aaK:∀{l:List (Str×Tok)}{zs:List Str},l.map (·.1)=zs->Vals (zs.map V.str) (strValues l)
 |[],_,h=>by cases h;exact .nil
 |(z,t)::l,_,h=>by cases h;exact .cons ⟨t,rfl⟩ (aaK rfl)
def aib:V->`E->Hp->VK->Prop:=fun x vs H Q=>∃z:Str,x=.str z/\vs=[]/\z.length<=1000/\(Builtin.Str.spaceWords z (z.length+1)).length<=1000/\(Txt.words z).length<=1000/\
 ∀D,H D=none->Q (.ref D) (upd H D (.lst ((Txt.words z).map V.str)))
theorem aes:MtM X "str.split" aib:=by
 intro pins s σ H x vs v us Q I rx rv h
 obtain⟨z,rfl,rfl,hl,hw,hw2,q⟩:=h
 obtain⟨t,rfl⟩:=rx
 cases rv
 refine afG (fun ll k e=>?_) (Nat.le_trans hl `B) (Nat.le_trans hw `B)
 have hn:H s.heap.objs.size=none:=I.hok.fresh `K
 have I2:=I.lnew (ys:=(Txt.words z).map V.str) (its:=strValues ll) (t':=k) (aaK e) (by rw[List.length_map];exact Nat.le_trans hw2 `B)
 exact⟨`g,_,I2,rfl,q _ hn⟩
def Itd:It:=⟨fun i _=>i<8,fun i H x H'=>H'=H/\x=.int (7-i),fun i _=>8<=i⟩
theorem adG{P:Program}{w:World}{K:W.Frag}{tg:Expr}(it:Addr):Turn P w K tg Itd [it] it (fun i h=>IsRangeIter h it (7+(i:Nat)*(-1)) ((8:Nat)-(i:Nat)) (-1))where
 mem:=`G
 obj:=fun i h st b hb=>by
  have e:b=it:=by simpa using hb
  subst e
  exact⟨_,st,fun v z=>by have z':Data.fields _=Data.cell v:=z;cases z'⟩
 keep:=fun i h h' st k=>k it `G _ st
 item:=by
  intro X hP hw hK hc i pins s σ H E I hf st hg
  subst hP hw hK
  obtain⟨f0,f1,f2,f3,f4,f5⟩:=hf it `G
  have W:=Walks.range (prog:=X.prog) (w:=X.w) (I.ok.hd hc) it 7 (-1) 8
  refine W.item i s _ _ hg st fun v h' tk hv st' kk=>?_
  obtain⟨t,rfl⟩:=hv
  have I1:Inv X pins σ H {s with heap:=h',toks:=tk}:=I.turned (fun b o hb e=>kk b o (by simpa using hb) e) f0 f1 f3 f4 f5
  refine⟨_,rfl,go_of (s:={s with heap:=h',toks:=tk}) (n:="range_iterator") st' rfl rfl `B ⟨.int (7-i),H,I1,⟨t,by rw[show(7:Int)+(i:Int)* -1=7-i by lia]⟩,⟨rfl,rfl⟩,st',fun b hb=>(hf b hb).1⟩⟩
 done:=by
  intro X hP hw hK hc i pins s σ H E I hf st hg
  subst hP hw hK
  obtain⟨f0,f1,f2,f3,f4,f5⟩:=hf it `G
  exact wpAny_pyNext_range_end (I.ok.hd hc) st (by have:8<=i:=hg;lia) fun h' eb=>⟨rfl,I.turned (t':=s.toks) (fun b o hb e=>eb b o hb e) f0 f1 f3 f4 f5⟩
 self:=fun _ _ _ _ _ st h=>wpAny_pyIter_rangeiter st h
def ahN(ta:TA):TI:=fun σ H R=>ta σ H fun vs H1=>vs=[.int 8]/\R Itd H1
theorem aiw{tg a:Expr}{ta:TA}{p p2 pos pos2:Pos}(hg:Gl X "range")(hm:X.mg "range"=none)(hg2:Gl X "reversed")(hm2:X.mg "reversed"=none)(ha:PA X [a] ta)(hs:starEach [a] X.env=[(false,eval a X.env)]:=by rfl)
  (hs2:starEach [.Call (.Name "range" p) [a] [] pos] X.env=[(false,eval (.Call (.Name "range" p) [a] [] pos) X.env)]:=by rfl):
  PI X tg (.Call (.Name "reversed" p2) [.Call (.Name "range" p) [a] [] pos] [] pos2) (ahN ta):=by
 intro pins s σ H R I h
 refine wpAny_Call_Name_kw (ld_blt I hg2 hm2 Av ?_)
 refine PyProof.Rows.callWith_type1 ?_ (by rw[hs2];rfl) (by rfl)
 rw[hs2]
 refine Calls.spliced_cons ?_
 refine Call_ (ld_blt I hg hm boot_range (PyProof.Rows.callWith_type1 (thn (ha pos pins s σ H _ I h) fun us s1⟨vs,H1,I1,r1,q1⟩=>?_) hs rfl))
 obtain⟨rfl,q⟩:=q1
 cases r1 with
 |cons r rr=>
  cases rr
  obtain⟨t,rfl⟩:=r
  refine call_range_1 (Calls.spliced_nil ?_)
  generalize M8:({s1 with heap:=s1.heap.push {cls:=.type "range",data:=.fields #[.int 0 s1.toks,.int 8 t,.int 1 (s1.toks+1)]},toks:=s1.toks+1+1}:Shared)=s2
  have I2:Inv X pins σ H1 s2:=by rw[<-M8];exact I1.kept fun b o e=>Heap.get?_push_of_some _ e
  have hr:IsRange s2.heap s1.heap.objs.size 0 8 1 s1.toks t (s1.toks+1):=by rw[<-M8];exact`i
  refine Tc hr ?_
  have hit:IsRangeIter (s2.heap.push ux) s2.heap.objs.size 7 8 (-1):=`i
  have I3:Inv X pins σ H1 {s2 with heap:=s2.heap.push ux}:=I2.kept (t':=s2.toks) fun b o e=>Heap.get?_push_of_some _ e
  refine wpAny_pyIter_rangeiter (s:={s2 with heap:=s2.heap.push ux}) hit ?_
  refine⟨s2.heap.objs.size,[s2.heap.objs.size],_,Itd,H1,rfl,I3,adG _,hit,fun b hb=>?_,q⟩
  have e:b=s2.heap.objs.size:=by simpa using hb
  subst e
  exact I2.fpOk `K (I2.hok.fresh `K)
theorem aij{tg a:Expr}{ta:TA}{p p2 pos pos2:Pos}(hg:Gl X "range")(hm:X.mg "range"=none)(hg2:Gl X "reversed")(hm2:X.mg "reversed"=none)(ha:QA X [a] ta)(hs:starEach [a] X.env=[(false,eval a X.env)]:=by rfl)
  (hs2:starEach [.Call (.Name "range" p) [a] [] pos] X.env=[(false,eval (.Call (.Name "range" p) [a] [] pos) X.env)]:=by rfl):
  QI X tg (.Call (.Name "reversed" p2) [.Call (.Name "range" p) [a] [] pos] [] pos2) (ahN ta):=⟨aiw hg hm hg2 hm2 ha.run hs hs2⟩
theorem agX{g:TG}{tb:TS}{D:Ends}{σ:Sg}{H:Hp}(Pv:Nat->Sg->`M)(h0:Pv 0 σ H)
  (hs:∀i σ H,i<8->Pv i σ H->g (.int (7-i)) σ H fun σ2 H2=>tb {D with nx:=Pv (i+1),ct:=Pv (i+1),bk:=D.nx} σ2 H2)(hd:∀σ H,Pv 8 σ H->D.nx σ H):
  ∃W:Nat->Nat->Sg->`M,(∃m,W 0 m σ H)/\∀i m σ H,W i m σ H->
   (Itd.stop i H/\D.nx σ H)\/(Itd.go i H/\∃N:Sg->`M,(∀σ' H',N σ' H'->∃m',m'<m/\W (i+1) m' σ' H')/\∀x H',Itd.yld i H x H'->g x σ H' fun σ2 H2=>tb {D with nx:=N,ct:=N,bk:=D.nx} σ2 H2):=by
 refine⟨fun i m σ H=>m=8-i/\i<=8/\Pv i σ H,⟨8,rfl,`W,h0⟩,?_⟩
 rintro i m σ H⟨rfl,hi,p⟩
 by_cases hlt:i<8
 ·refine .inr ⟨hlt,Pv (i+1),fun σ' H' p'=>⟨8-(i+1),`A,rfl,hlt,p'⟩,fun x H' y=>?_⟩
  obtain⟨rfl,rfl⟩:=y
  exact hs i σ _ hlt p
 ·have e:i=8:=`A
  subst e
  exact .inl ⟨`K,hd σ H p⟩
def aa7(K:W.Frag):V->`E->Hp->VK->Prop:=fun x vs H Q=>∃(a:Addr)(cs:List Str)(p:Str)(j:Nat),x=`I/\vs=[.str p]/\SqT K H a (cs.map V.str)/\cs[j]?=some p/\(∀m,m<j->cs[m]?≠some p)/\Q (.int (j:Nat)) H
theorem aeu:MtM X "tuple.index" (aa7 X.K):=by
 intro pins s σ H x vs v us Q I rx rv h
 obtain⟨a,cs,p,j,rfl,rfl,hq,hj,hn,q⟩:=h
 cases rx
 obtain⟨u,rfl,ru⟩:=rv.one
 obtain⟨its,r,ht,hz⟩:=I.tuple hq
 obtain⟨⟨cls,dd,data,sl⟩,ho,hc,n,hd⟩:=id ht
 simp only at hc hd
 subst hc hd
 have flat:∀l:List Str,(l.map V.str).all uQ=true:=fun l=>by
  rw[List.all_eq_true];intro y hy
  obtain⟨c,_,rfl⟩:=List.mem_map.mp hy
  rfl
 have hlen:=r.length
 rw[List.length_map]at hlen
 have hjl:j<cs.length:=(List.getElem?_eq_some_iff.mp hj).1
 have at_:∀m(hm:m<its.toArray.size),eqU (.str p) its.toArray[m]=decide (cs[m]?=some p):=fun m hm=>by
  have hm':m<cs.length:=by rw[List.size_toArray]at hm;lia
  obtain⟨u',e1,ru'⟩:=r.get (i:=m) (x:=.str cs[m]) (by rw[List.getElem?_map,List.getElem?_eq_getElem hm'];rfl)
  have e2:its.toArray[m]=u':=by
   have:=List.getElem?_eq_some_iff.mp e1
   simpa using this.2
  rw[e2,PL ru' rfl,List.getElem?_eq_getElem hm']
  show(cs[m]==p)=_
  by_cases z:cs[m]=p
  ·rw[decide_eq_true (congrArg some z),z];exact beq_self_eq_true _
  ·rw[decide_eq_false (fun y=>z (Option.some.inj y))];exact beq_eq_false_iff_ne.mpr z
 have hjs:j<its.toArray.size:=by rw[List.size_toArray];lia
 refine call_meets F.slot_tuple_index ⟨_,ho,rfl⟩ F.entry_tuple_index (F.args_tuple_index_2 _ _)
  (Kf a its.toArray n dd sl u (eqU (.str p)) j hjs (by rw[at_ j hjs,hj];exact decide_eq_true rfl) (fun m hm hlt=>by rw[at_ m hm];exact decide_eq_false (hn m hlt))) ⟨ho,fun y hy=>?_,?_⟩
 ·exact yp ru rfl r (flat cs) y (by simpa using hy)
 ·exact⟨.int (j:Nat),H,I.tok _,⟨_,rfl⟩,q⟩
theorem ajU{K:W.Frag}{e:Expr}{T:String}{r:V->`E->Hp->VK->Prop}{to:TE}{t:TA}(hK:X.K=K)(h:QE X e (tBM X.K T r to t)):QE X e (tBM K T r to t):=by subst hK;exact h
theorem acu{K:W.Frag}(hK:X.K=K):MtM X "tuple.index" (aa7 K):=by subst hK;exact aeu
end
theorem agi{X:Cx}:OpR X (binaryOp .FloorDiv) (rI (fun _ j=>0<j/\j.natAbs.log2<9000) fun i j=>.int (i/j)):=opI fun i j _ _ _ _ _ hc q=>by
 have h1:(0:Int)<j:=hc.1
 exact floordiv_int `A (by rw[Int.fdiv_eq_ediv_of_nonneg i `A];exact q) (.inl (PyProof.noPylong_of_log2 hc.2))
end Sw
namespace Sw
def KY(t:`D):`D:=i_ 0 []::W 4::t
def Gn(t:`D):`D:=W 2::KY (W 4::t)
section
variable{ω:Nat->Nat}{t cs s:`D}{e:Std}{τ:Nat}
end
def Tq:`F:=[2,2,0,1,2,2,2,0,0,0,1,0,1,0,0]
def Ei:`R:=[[0,1,0,1,2,3,4,1,1,1,0,0,3,0,1169],
 [0,4,0,3,1,5,0,2,1,1,0,0,4,0,1169],
 [0,4,1,6,3,6,1,3,1,1,0,0,5,0,1169],
 [0,5,0,8,3,8,1,4,1,1,0,0,6,0,1169],
 [0,6,0,7,3,9,1,5,1,1,0,0,7,0,1169],
 [0,7,0,8,3,10,2,6,1,1,0,0,8,0,1169],
 [0,8,0,12,4,12,2,7,1,1,0,0,9,0,1169],
 [0,9,0,9,3,12,4,9,1,1,0,0,11,0,1169],
 [0,9,0,8,3,12,4,8,2,1,0,0,11,0,1169],
 [0,0,1,19,15,14,7,10,1,1,0,0,12,0,1169],
 [0,1,0,17,11,12,4,9,2,1,0,0,12,0,1169],
 [0,10,0,8,1,11,0,10,0,1,0,0,11,0,1169],
 [0,1,0,0,0,1,0,0,1,1,0,0,2,0,1169],
 [0,0,0,0,0,0,0,0,0,0,0,0,0,1,0],
 [0,0,0,0,0,0,0,0,0,0,0,0,0,1,0]]
def Gp:`F->`R->`F->`F
 |n::ns,r::rs,acc=>Gp ns rs (acc.zipWith (· +·) (r.map (n*·)))
 |_,_,acc=>acc
def turnT(ns:`F):`F:=Gp ns Ei Tq
theorem KZ:∀{ns:`F}{rs:`R}{acc:`F},(∀r∈rs,r.length=15)->acc.length=15->(Gp ns rs acc).length=15
 |[],_,_,_,h=>by cases‹List (`F)›<;>exact h
 |_::_,[],_,_,h=>h
 |n::ns,r::rs,acc,h,ha=>by
  have hr:=h r List.mem_cons_self
  exact KZ (ns:=ns) (rs:=rs) (acc:=acc.zipWith (· +·) (r.map (n*·))) (fun r' hr'=>h r' (List.mem_cons_of_mem _ hr')) (by rw[List.length_zipWith,ha,List.length_map,hr];rfl)
theorem Ub:∀{i:Nat}{ns:`F}{rs:`R}{acc:`F}{n:Nat}{r:`F},ns[i]?=some n->rs[i]?=some r->Gp (ns.take (i+1)) rs acc=(Gp (ns.take i) rs acc).zipWith (· +·) (r.map (n*·))
 |0,n::ns,r::rs,acc,_,_,h1,h2=>by cases h1;cases h2;cases rs<;>rfl
 |i+1,n::ns,r::rs,acc,m,q,h1,h2=>by
  show Gp (ns.take (i+1)) rs _=(Gp (ns.take i) rs _).zipWith (· +·) _
  exact Ub (by simpa using h1) (by simpa using h2)
theorem Ng:∀r∈Ei,r.length=15:=`B
theorem ai7:∀r∈Ei,∀n∈r,n<=100000:=`B
theorem afw(ns:`F):(turnT ns).length=15:=KZ Ng rfl
open PySem PySem.Spec PyProof.Rows L2
structure Bf(n:Nat)(tx s:`D):Prop where
 each:∀t∈tx,B 40 22000 t
 len:tx.length<=10+n
 sd:T.bF s<=60+n
 sp:T.aN s<=3000+n*22010
theorem Bf.alz{n:Nat}{tx s:`D}(h:Bf n tx s)(hn:n<=320):BX tx:=⟨by have:=h.len;lia,fun t ht=>(h.each t ht).le `A `A⟩
theorem Bf.alA{n:Nat}{tx s:`D}(h:Bf n tx s)(hn:n<=320):B 390 8000000 (.node s):=⟨by rw[T.bC];have:=h.sd;lia,by rw[T.aR];have:=h.sp;lia⟩
theorem Bf.step{n:Nat}{tx s:`D}(h:Bf n tx s):Bf (n+bD tx s) (onward tx s).1 (onward tx s).2.1:=by
 have hc:=yJ tx s
 have hmul:(n+bD tx s)*22010=n*22010+bD tx s*22010:=Nat.add_mul _ _ _
 have hsp:=h.sp
 have hsd:=h.sd
 have hl:=h.len
 have hd1:∀t∈tx.drop 1,B 40 22000 t:=fun t ht=>h.each t (List.mem_of_mem_drop ht)
 have hdl:(tx.drop 1).length<=tx.length-1:=by rw[List.length_drop];lia
 have hp1:=Pa s 1
 have hq1:=WW s 1
 have hst:stepT tx s=(onward tx s).2.2:=rfl
 rcases aek (tx:=tx) (s:=s)with⟨_,e⟩|⟨w,ws,hk,hr⟩
 ·rw[e]
  exact⟨hd1,by show(tx.drop 1).length<=_;lia,by show T.bF s<=_;lia,by show T.aN s<=_;lia⟩
 have hm:=ajg hk
 have h0:=h.each _ hm
 have htl:1<=tx.length:=List.length_pos_iff.mpr (List.ne_nil_of_mem hm)
 have hw:B 40 22000 w:=wH (gM h0) (by rw[hk];exact List.mem_cons_self)
 have hws:B 40 22000 (.node ws):=by have:=Zk 1 (gM h0);rw[hk]at this;exact this
 rcases hr with e|e|e|⟨k,g,e⟩
 ·rw[e]
  refine⟨fun t ht=>?_,by show(tx.drop 1).length+1+1<=_;lia,by show T.bF (pad s 1)<=_;lia,by show T.aN (pad s 1)<=_;lia⟩
  rcases List.mem_cons.mp ht with rfl|ht
  ·exact Qt (Zk 1 (gM hw)) 0
  rcases List.mem_cons.mp ht with rfl|ht
  ·exact hws
  ·exact hd1 t ht
 ·rw[e]
  refine⟨fun t ht=>?_,by show(tx.drop 1).length+1+1<=_;lia,by show T.bF (pad s 1)<=_;lia,by show T.aN (pad s 1)<=_;lia⟩
  rcases List.mem_cons.mp ht with rfl|ht
  ·exact Zk 2 (gM hw)
  rcases List.mem_cons.mp ht with rfl|ht
  ·exact hws
  ·exact hd1 t ht
 ·rw[e]
  refine⟨fun t ht=>?_,by show tx.length+1<=_;lia,by show T.bF (pad s 1)<=_;lia,by show T.aN (pad s 1)<=_;lia⟩
  rcases List.mem_cons.mp ht with rfl|ht
  ·exact pG hw
  ·exact h.each t ht
 ·have hlk:=XJ k
  have hpk:=Pa s (looks k)
  have hqk:=WW s (looks k)
  have hwp:=abL (k:=k) (l:=aL w) (s:=pad s (looks k)) (Jw _ _)
  have hwd:=adA (k:=k) (l:=aL w) (s:=pad s (looks k)) (Jw _ _)
  have hlw:=Pu w
  have hld:=vp w
  have hw1:=hw.1
  have hw2:=hw.2
  have hck:k=2->bD tx s=(ats s 0).parts:=fun z=>by
   unfold bD
   rw[hst,e]
   exact if_pos z
  rw[aiA]at hwp
  rw[e]
  refine⟨fun t ht=>?_,by show(tx.drop 1).length+1<=_;lia,by show T.bF (rJ k (aL w) (pad s (looks k)))<=_;lia,?_⟩
  ·rcases List.mem_cons.mp ht with rfl|ht
   ·exact hws
   ·exact hd1 t ht
  ·show T.aN (rJ k (aL w) (pad s (looks k)))<=_
   by_cases k0:k=0
   ·rw[if_pos k0]at hwp
    lia
   rw[if_neg k0]at hwp
   by_cases k2:k=2
   ·rw[if_pos k2]at hwp
    have:=hck k2
    lia
   ·rw[if_neg k2]at hwp
    lia
theorem Bf.sane:∀b tx s,∀n,Bf n tx s->n+b<=320->Sane b tx s:=by
 refine BL (fun b tx s h n g hn=>?_) (fun b tx s h1 h2 ih n g hn=>?_)
 ·refine .mk (g.alz `A) (g.alA `A) fun z1 z2=>?_
  rcases h with h|h
  ·exact absurd h z1
  ·lia
 ·exact .mk (g.alz `A) (g.alA `A) fun _ _=>ih (n+bD tx s) g.step `A
def cj:`D:=i_ 0 (Gn [])::Gn []
def HD:Nat->Nat->`D->`D->Option (`D×`F)
 |0,_,_,_=>none
 |_+1,_,[],s=>some (s,fQ)
 |n+1,b,t::ts,s=>if b<bD (t::ts) s then none else match HD n (b-bD (t::ts) s) (onward (t::ts) s).1 (onward (t::ts) s).2.1 with
  |none=>none
  |some (e,ns)=>some (e,eG (lW (t::ts) s) ns)
theorem PN:∀{n b:Nat}{tx s e:`D}{ns:`F},HD n b tx s=some (e,ns)->goT b tx s=([],e,ns)
 |0,_,_,_,_,_,h=>by cases h
 |_+1,_,[],_,_,_,h=>by
  rw[wW (.inl rfl)]
  cases h
  rfl
 |n+1,b,t::ts,s,e,ns,h=>by
  rw[HD]at h
  split at h
  ·cases h
  ·rename_i hb
   rw[wX `G `A]
   split at h
   ·cases h
   ·rename_i e' ns' he
    cases h
    rw[PN he]
theorem Eh{n b:Nat}{t u:T}{e:`D}{ns:`F}(h:HD n b [t] [u]=some (e,ns)):Vm b [t] [u]=vZ/\Vn b [t] [u]=ats e 0:=by
 have g:=PN h
 have g1:(goT b [t] [u]).1=[]:=by rw[g]
 exact⟨if_pos g1,(if_pos g1).trans (by rw[g])⟩
def VD:`D:=ajV zq (.node cj)
def Vz:`F:=[2,0,1,0,2,0,0,0,0,0,0,0,1,19,0]
theorem Rf(u:T):HD 10 2000 [.node cj] [u]=some ([.node cj,u],Vz):=by kernel_rfl
theorem afX(xs:`D):HD 200 182 [.node zq] [.node (.node cj::xs)]=some ([.node cj],[2,21,1,23,15,33,13,15,6,6,1,0,28,19,7014]):=by kernel_rfl
theorem ah7(xs:`D):HD 210 184 [.node VD] [.node xs]=some ([.node cj],[3,21,1,23,16,33,13,15,6,6,1,0,28,19,7014]):=by kernel_rfl
theorem aiP:sZ (turnT Vz)=182:=`C
theorem Q_{b:Nat}{t u:T}(h1:B 40 22000 t)(h2:B 40 2000 u)(hb:b<=320):Sane b [t] [u]:=
 Bf.sane b _ _ 0 ⟨fun z hz=>by rw[List.mem_singleton.mp hz];exact h1,by show 1<=10;lia,by rw[T.bf,T.iC];have:=h2.1;lia,by rw[T.aK,T.cg];have:=h2.2;lia⟩ `A
theorem Sane.up:∀b tx s,Sane b tx s->(goT b tx s).1=[]->∀m,Sane (b+m) tx s:=by
 refine BL (fun b tx s h g e m=>?_) (fun b tx s h1 h2 ih g e m=>?_)
 ·rw[wW h]at e
  exact .mk g.bx g.bs fun z=>absurd e z
 ·rw[wX h1 h2]at e
  refine .mk g.bx g.bs fun _ _=>?_
  have:=ih (g.next h1 h2) e m
  rwa[show b+m-bD tx s=b-bD tx s+m by lia]
theorem Ld{u:T}(h:B 40 2000 u):Sane 2000 [.node cj] [u]:=by
 have g:=PN (show HD 10 30 [.node cj] [u]=some ([.node cj,u],Vz)by kernel_rfl)
 have:=Sane.up 30 _ _ (Q_ (b:=30) (t:=.node cj) ⟨`C,`C⟩ h `A) (by rw[g]) 1970
 exact this
theorem ad0{u:T}(h:B 40 2000 u):Sane 182 [.node zq] [u]:=Q_ ⟨`C,`C⟩ h `A
theorem afW{u:T}(h:B 40 2000 u):Sane 184 [.node VD] [u]:=Q_ ⟨`C,`C⟩ h `A
def nmC(k:Nat):`F:=([[108,97,121],[100,114,111,112],[116,119,105,110],[115,119,97,112],[102,114,111,110,116],[112,97,114,116],[116,117,114,110],[102,111,114,107],[119,104,105,108,101]]:`R).getD k []
def rW:`E:=(List.range 9).map fun k=>V.str (tx (nmC k))
theorem Mj:[V.str (Str.ofString "lay"),.str (Str.ofString "drop"),.str (Str.ofString "twin"),.str (Str.ofString "swap"),.str (Str.ofString "front"),.str (Str.ofString "part"),.str (Str.ofString "turn"),.str (Str.ofString "fork"),.str (Str.ofString "while")]=rW:=by
 rw[show Str.ofString "lay"=tx [108,97,121]by decide+kernel,show Str.ofString "drop"=tx [100,114,111,112]by decide+kernel,show Str.ofString "twin"=tx [116,119,105,110]by decide+kernel,
  show Str.ofString "swap"=tx [115,119,97,112]by decide+kernel,show Str.ofString "front"=tx [102,114,111,110,116]by decide+kernel,show Str.ofString "part"=tx [112,97,114,116]by decide+kernel,
  show Str.ofString "turn"=tx [116,117,114,110]by decide+kernel,show Str.ofString "fork"=tx [102,111,114,107]by decide+kernel,show Str.ofString "while"=tx [119,104,105,108,101]by decide+kernel]
 rfl
theorem gj{k:Nat}(h:k<9):atI rW (k:Int)=some (.str (tx (nmC k))):=atI_nat (by unfold rW;rw[List.getElem?_map,List.getElem?_range h];rfl)
theorem jY:Str.ofString "["=tx [91]:=`C
theorem Og:Str.ofString "]"=tx [93]:=`C
theorem Gk:Str.ofString "|"=tx [124]:=`C
theorem QD:Str.ofString "!"=tx [33]:=`C
theorem Jo:Str.ofString "'"=tx [39]:=`C
theorem Vw:Str.ofString " "=tx [32]:=`C
def wV(w:T):Bool:=T.beq w leaf||(ats w.kids 0).kids.any fun t=>!T.beq t leaf
def gb(w:T):Bool:=if wV w=true then true else if aD w=0\/aD w=8 then false else if aD w=7 then T.beq (aL w) leaf else(decide (aD w=9)|| !T.beq (aL w) leaf)
theorem Xj{w:T}(h:gb w=false):aD w<=8:=by
 have h9:aD w<=9:=by unfold aD;split<;>lia
 rcases Nat.lt_or_ge (aD w) 9 with z|z
 ·lia
 ·have e:aD w=9:=`A
  unfold gb at h
  rw[e]at h
  split at h
  ·cases h
  ·rw[if_neg `A,if_neg `A]at h
   simp at h
mutual
inductive Wr:T->`R->Prop
 |odd{w:T}(h:gb w=true):Wr w [33::w.wr]
 |lay{w:T}(h:gb w=false)(hs:aD w=0):Wr w [39::(aL w).wr]
 |plain{w:T}(h:gb w=false)(h1:1<=aD w)(h6:aD w<=6):Wr w [nmC (aD w)]
 |fork{w:T}{ps qs:`R}(h:gb w=false)(hs:aD w=7)(hy:Ts (ats (aL w).kids 0).kids ps)(hn:Ts (aL (aL w)).kids qs):Wr w ([nmC 7,[91]]++ps++[[124]]++qs++[[93]])
 |loop{w:T}{ps:`R}(h:gb w=false)(hs:aD w=8)(hb:Ts (aL w).kids ps):Wr w ([nmC 8,[91]]++ps++[[93]])
inductive Ts:`D->`R->Prop
 |nil:Ts [] []
 |cons{w:T}{ws:`D}{ps qs:`R}(h:Wr w ps)(g:Ts ws qs):Ts (w::ws) (ps++qs)
end
abbrev Itm:=T⊕`F
inductive qO:List Itm->`R->Prop
 |nil:qO [] []
 |txt{l:`F}{r:List Itm}{ps:`R}(h:qO r ps):qO (.inr l::r) (l::ps)
 |word{w:T}{r:List Itm}{ps qs:`R}(h:Wr w ps)(g:qO r qs):qO (.inl w::r) (ps++qs)
theorem qO.append{a b:List Itm}{ps qs:`R}(h:qO a ps)(g:qO b qs):qO (a++b) (ps++qs):=by
 induction h with
 |nil=>exact g
 |txt _ ih=>exact .txt ih
 |word h _ ih=>rw[List.append_assoc];exact .word h ih
theorem BW:∀{ws:`D}{ps:`R},Ts ws ps->qO (ws.map .inl) ps
 |[],_,h=>by cases h;exact .nil
 |w::ws,_,h=>by cases h with|cons h g=>exact .word h (BW g)
theorem nZ(l:`F):qO [.inr l] [l]:=.txt .nil
def cL(w:T):List Itm:=
 if gb w=true then[.inr (33::w.wr)]else if aD w=0 then[.inr (39::(aL w).wr)]
 else if aD w=7 then[.inr (nmC 7),.inr [91]]++(ats (aL w).kids 0).kids.map .inl++[.inr [124]]++(aL (aL w)).kids.map .inl++[.inr [93]]
 else if aD w=8 then[.inr (nmC 8),.inr [91]]++(aL w).kids.map .inl++[.inr [93]]else[.inr (nmC (aD w))]
theorem ab6{w:T}{ps:`R}(h:Wr w ps):qO (cL w) ps:=by
 cases h with
 |odd h=>unfold cL;rw[if_pos h];exact nZ _
 |lay h hs=>unfold cL;rw[if_neg (by rw[h];decide),if_pos hs];exact nZ _
 |plain h h1 h6=>unfold cL;rw[if_neg (by rw[h];decide),if_neg `A,if_neg `A,if_neg `A];exact nZ _
 |fork h hs hy hn=>
  unfold cL
  rw[if_neg (by rw[h];decide),if_neg `A,if_pos hs]
  exact((((qO.txt (nZ _)).append (BW hy)).append (nZ _)).append (BW hn)).append (nZ _)
 |loop h hs hb=>
  unfold cL
  rw[if_neg (by rw[h];decide),if_neg `A,if_neg `A,if_pos hs]
  exact((qO.txt (nZ _)).append (BW hb)).append (nZ _)
def wtI:Itm->Nat
 | .inl t=>5*t.parts
 | .inr _=>1
def wtL(l:List Itm):Nat:=(l.map wtI).sum
theorem xH(a:Itm)(l:List Itm):wtL (a::l)=wtI a+wtL l:=rfl
theorem jl(a b:List Itm):wtL (a++b)=wtL a+wtL b:=by unfold wtL;rw[List.map_append,List.sum_append]
theorem uR:∀ws:`D,wtL (ws.map .inl)=5*T.aN ws
 |[]=>rfl
 |w::ws=>by rw[List.map_cons,xH,uR ws,T.aK];show 5*_+_=_;lia
theorem Jm:∀l:List Itm,l.length<=wtL l
 |[]=>`K
 |a::l=>by
  rw[xH,List.length_cons]
  have:=Jm l
  have h1:1<=wtI a:=by
   cases a with
   |inl t=>show 1<=5*t.parts;have:=T.fO t;lia
   |inr _=>exact`K
  lia
theorem wR(w:T):T.aN (aL w).kids+1<=w.parts:=by
 cases w with
 |node ts=>
  cases ts with
  |nil=>rw[T.aR];show T.aN []+1<=_;rw[T.cg];lia
  |cons f r=>rw[T.aR,T.aK];show T.aN r+1<=_;lia
theorem adE(l:T):T.aN (ats l.kids 0).kids+T.aN (aL l).kids<=T.aN l.kids:=by
 cases l with
 |node ts=>
  cases ts with
  |nil=>show T.aN []+T.aN []<=T.aN [];rw[T.cg];lia
  |cons f r=>
   show T.aN f.kids+T.aN r<=T.aN (f::r)
   rw[T.aK]
   have:=T.eY f
   lia
theorem afH(w:T):wtL (cL w)<5*w.parts:=by
 have h0:=T.fO w
 have h1:=wR w
 have h2:=adE (aL w)
 have one:∀l:`F,wtL [.inr l]=1:=fun _=>rfl
 unfold cL
 split
 ·rw[one];lia
 split
 ·rw[one];lia
 split
 ·rw[jl,jl,jl,jl,uR,uR,one,one]
  have:wtL [(.inr (nmC 7):Itm),.inr [91]]=2:=rfl
  lia
 split
 ·rw[jl,jl,uR,one]
  have:wtL [(.inr (nmC 8):Itm),.inr [91]]=2:=rfl
  lia
 ·rw[one];lia
def szP(ps:`R):Nat:=ps.flatten.length+ps.length
theorem lD(a b:`R):szP (a++b)=szP a+szP b:=by unfold szP;rw[List.flatten_append,List.length_append,List.length_append];lia
theorem wJ(l:`F):szP [l]=l.length+1:=by unfold szP;simp
theorem akn(k:Nat):(nmC k).length<=5:=by
 rcases Nat.lt_or_ge k 9 with h|h
 ·have:∀k,k<9->(nmC k).length<=5:=`B
  exact this k h
 ·unfold nmC
  rw[List.getD_eq_getElem?_getD,List.getElem?_eq_none (by show 9<=k;exact h)]
  exact`W
mutual
theorem alL:∀{w:T}{ps:`R},Wr w ps->szP ps<=12*w.parts
 |w,_,.odd h=>by rw[wJ,List.length_cons,T.pN];have:=T.fO w;lia
 |w,_,.lay h hs=>by rw[wJ,List.length_cons,T.pN];have:=wR w;have:=T.eY (aL w);lia
 |w,_,.plain h h1 h6=>by rw[wJ];have:=akn (aD w);have:=T.fO w;lia
 |w,_,.fork (ps:=ps) (qs:=qs) h hs hy hn=>by
  have a1:=Jp hy
  have a2:=Jp hn
  have h1:=wR w
  have h2:=adE (aL w)
  rw[lD,lD,lD,lD,wJ,wJ]
  have:szP [nmC 7,[91]]=7:=rfl
  simp only[List.length_singleton]
  lia
 |w,_,.loop (ps:=ps) h hs hb=>by
  have a1:=Jp hb
  have h1:=wR w
  rw[lD,lD,wJ]
  have:szP [nmC 8,[91]]=8:=rfl
  simp only[List.length_singleton]
  lia
theorem Jp:∀{ws:`D}{ps:`R},Ts ws ps->szP ps<=12*T.aN ws
 |_,_,.nil=>`W
 |_,_,.cons h g=>by
  have a1:=alL h
  have a2:=Jp g
  rw[lD,T.aK]
  lia
end
def IR(K:W.Frag)(H:Hp):Itm->V->Prop
 | .inl t,x=>TR K H t x
 | .inr l,x=>x=.str (tx l)
theorem IR.mono{K:W.Frag}{H H':Hp}(S:Kt H H'):∀{o:Itm}{x:V},IR K H o x->IR K H' o x
 | .inl _,_,h=>TR.mono S h
 | .inr _,_,h=>h
theorem M5{K:W.Frag}{H:Hp}:∀{ts:`D}{xs:`E},TRs K H ts xs->aO (IR K H) (ts.map .inl) xs
 |[],xs,h=>by rw[bH]at h;rw[h];exact .nil
 |t::ts,xs,h=>by
  obtain⟨x,r,rfl,h1,h2⟩:=cD.mp h
  exact .cons h1 (M5 h2)
def IT(K:W.Frag)(H:Hp)(its:List Itm)(v:V):Prop:=∃a xs,v=`I/\SqT K H a xs/\aO (IR K H) its xs
theorem IT.mono{K:W.Frag}{H H':Hp}{its:List Itm}{v:V}(S:Kt H H')(h:IT K H its v):IT K H' its v:=by
 obtain⟨a,xs,rfl,h1,h2⟩:=h
 exact⟨a,xs,rfl,cO S h1,h2.imp fun _ _=>IR.mono S⟩
theorem TR.it{K:W.Frag}{H:Hp}{ts:`D}{x:V}(h:TR K H (.node ts) x):IT K H (ts.map .inl) x:=by
 obtain⟨a,xs,rfl,ha,ra⟩:=cB.mp h
 exact⟨a,xs,rfl,ha,M5 ra⟩
theorem itN{K:W.Frag}{H:Hp}{p:Addr}{xs:`E}{its:List Itm}(hp:H p=none)(h:aO (IR K H) its xs):Same H (upd H p (.tup xs))/\IT K (upd H p (.tup xs)) its (.ref p):=
 ⟨same_new hp _,_,_,rfl,SqT.of upd_same,h.imp fun _ _=>IR.mono (.new hp)⟩
theorem Jz{K:W.Frag}{H:Hp}{Q:VK}{is js:List Itm}{x y:V}(hx:IT K H is x)(hy:IT K H js y)(hz:is.length+js.length<=sizeLine)(q:∀z H',`N->IT K H' (is++js) z->Q z H'):Wv K x y H Q:=by
 obtain⟨a,xs,rfl,ha,ra⟩:=hx
 obtain⟨b,ys,rfl,hb,rb⟩:=hy
 exact⟨a,b,xs,ys,rfl,rfl,ha,hb,by rw[ra.length,rb.length];exact hz,fun p H' S h=>q _ _ S ⟨p,_,rfl,h,(ra.append rb).imp fun _ _=>IR.mono (.of S)⟩⟩
theorem aiV{K:W.Frag}{H:Hp}{a:Addr}{ts:`D}{xs:`E}{σ:Sg}{js:`F}{te:TE}{Q:VK}(f:T->V)(ha:SqT K H a xs)(hts:TRs K H ts xs)(hz:xs.length<=sizeLine)
  (hte:∀t x H'(R:VK),t∈ts->`N->TR K H' t x->(∀H3,Same H' H3->R (f t) H3)->te (some x::frv σ js) H' R)
  (q:∀D H',`N->H' D=some (.lst (ts.map f))->Q (.ref D) H'):Fl (Itt K a) js te σ Q H:=by
 refine abj (K:=K) (a:=a) (xs:=xs) (fun D i ys H'=>H D=none/\`N/\H' D=some (.lst ys)/\ys.length=i/\ys=(ts.take i).map f) hz (fun D hD=>?_) (fun D i ys H' j=>⟨j.2.2.1,j.2.2.2.1,cO (.of j.2.1) ha⟩) (fun D i x ys H' R hx j hR=>?_) (fun D ys H' j=>?_)
 ·exact⟨hD,same_new hD _,upd_same,rfl,rfl⟩
 ·obtain⟨hD,S,h1,hl,e⟩:=j
  obtain⟨t,et,ht⟩:=hts.get hx
  refine hte t x H' R (List.mem_of_getElem? et) S (ht.mono (.of S)) fun H3 S3=>?_
  refine hR _ H3 (S3 _ _ h1) ⟨hD,bN (S.trans S3) hD,upd_same,by rw[List.length_append,hl];rfl,?_⟩
  rw[List.take_add_one,et,List.map_append,e]
  rfl
 ·obtain⟨hD,S,h1,hl,e⟩:=j
  refine q D H' S ?_
  rw[h1,e,List.take_of_length_le (by rw[hts.length];exact`K)]
def aaT(K:W.Frag):Sp:=fun vs H Q _=>∃x t,vs=[x]/\TR K H t x/\t.parts<=100000/\∀H',`N->Q (.str (tx t.wr)) H'
def abV(K:W.Frag):Sp:=fun vs H Q _=>∃x w,vs=[x]/\TR K H w x/\B 400 100000 w/\∀H',`N->Q (.bl (gb w)) H'
def Ud(K:W.Frag):Sp:=fun vs H Q _=>∃x w,vs=[x]/\TR K H w x/\B 400 100000 w/\∀y H',`N->IT K H' (cL w) y->Q y H'
def aaS(K:W.Frag):Sp:=fun vs H Q _=>∃x ts ps,vs=[x]/\TR K H (.node ts) x/\Ts ts ps/\B 400 80000 (.node ts)/\∀H',`N->Q (.str (tx (dh [32] ps))) H'
theorem aly:bootBuiltins "any"=some (.builtin "any"):=`C
theorem agh{X:Cx}{K:W.Frag}{A:Around}{n:Nat}(hK:X.K=K)(hA:X.A=A)(hu:A.units+n+1<cLine):OpR X (compareOp .NotEq) (ahD K n):=by subst hK;subst hA;exact abe hu
section
variable{X:Cx}{o e value:Expr}{f:Str}{pos pos':Pos}{ta tv:TE}
theorem aW(he:QE X e ta)(hb:attributeBase e f X.env (eval e X.env)=eval e X.env):QE X (.Attribute e f pos) (tFld X.K ta f):=⟨pe_fld he.run hb⟩
theorem cP(ha:QE X o ta)(hv:QE X value tv)(hs:swapsWith value (some (.Attribute o f pos')) pos.line X.env=pure false):QS X (.Assign [.Attribute o f pos'] value pos) (sFld X.K ta tv f):=⟨ps_fld ha.run hv.run hs⟩
end
section
variable{X:Cx}{CX:CXT}{k:Nat}{f C:Addr}{fd:FuncData}{ps:List Str}{sp:Sp}{dvs:`E}{ds:`L}{E:XK}{m x:Str}{p apos pos:Pos}{o e:Expr}{es:List Expr}{ta:TE}{t:TA}
theorem ud{pl:Sem Bool}(he:QE X o ta)(c:Cls X.K C)(hm:Meth X.K C m f)(F:FnOk X.prog X.w X.K X.mg X.base CX k f fd ps sp)(hr:Room k X.A)(hb:Binds X.K fd ps ds)(hd:Vals dvs ds)(hx:Passes CX X E)(ha:QA X (e::es) t)
  (hst:starEach (e::es) X.env=(false,eval e X.env)::starEach es X.env:=by rfl)(hpl:(backTo pos (starEach es X.env)).any (·.1)=false:=by rfl)
  (ht:eval (.Call (.Attribute o m apos) (e::es) [] pos) X.env=(do
   let ov<-eval o X.env
   standAt apos.atName
   let(f,first)<-holding [ov] (getMethod ov m pl)
   callWith pos f first (backTo pos (starEach (e::es) X.env)) (backToKw pos (keywordEach [] X.env))):=by rfl):QE X (.Call (.Attribute o m apos) (e::es) [] pos) (tMeth C m sp dvs E ta t):=⟨pe_meth (pl:=pl) he.run c hm F hr hb hd hx ha.run hst hpl ht⟩
theorem eX{pl:Sem Bool}(he:QE X o ta)(c:Cls X.K C)(hm:Meth X.K C m f)(F:FnOk X.prog X.w X.K X.mg X.base CX k f fd ps sp)(hr:Room k X.A)(hb:Binds X.K fd ps ds)(hd:Vals dvs ds)(hx:Passes CX X E)
  (ht:eval (.Call (.Attribute o m apos) [] [] pos) X.env=(do
   let ov<-eval o X.env
   standAt apos.atName
   let(f,first)<-holding [ov] (getMethod ov m pl)
   callWith pos f first (backTo pos (starEach [] X.env)) (backToKw pos (keywordEach [] X.env))):=by rfl):QE X (.Call (.Attribute o m apos) [] [] pos) (tMeth C m sp dvs E ta tNil):=⟨agd (pl:=pl) he.run c hm F hr hb hd hx ht⟩
theorem af6(M:Mk X.K C f)(F:FnOk X.prog X.w X.K X.mg X.base CX k f fd ps sp)(hr:Room (k+1) X.A)(hg:Gl X x)(hm:X.mg x=some (.ref C))(hb:Binds X.K fd ps ds)(hd:Vals dvs ds)(hx:Passes CX X E)
  (hdb:`l:=by decide):QE X (.Call (.Name x p) [] [] pos) (tMake C sp dvs E tNil):=⟨pe_make0 M F hr hg hm hb hd hx hdb⟩
end
theorem OD(f:Str)(u v:V):∀fs:`c,putF f v (putF f u fs)=putF f v fs
 |[]=>by
  show putF f v [(f,u)]=[(f,v)]
  unfold putF
  rw[if_pos rfl]
 |(g,x)::r=>by
  rw[putF]
  by_cases h:g=f
  ·rw[if_pos h,putF,if_pos h,putF,if_pos h]
  ·rw[if_neg h,putF,if_neg h,OD f u v r,putF,if_neg h]
theorem uf(f:Str)(v:V):∀fs:`c,(putF f v fs).length<=fs.length+1
 |[]=>`K
 |(g,x)::r=>by
  rw[putF]
  split
  ·show r.length+1<=r.length+1+1;lia
  ·have:=uf f v r
   show(putF f v r).length+1<=r.length+1+1
   lia
def fl(R P:Addr)(nm:`F):`c:=putF "named" (.str (tx nm)) (putF "places" (.ref P) (putF "rows" (.ref R) []))
section
variable{R P:Addr}{nm:`F}
theorem Cj:(fl R P nm).lookup ("rows":Str)=some (.ref R):=by unfold fl;rw[lookup_putF,if_neg `C,lookup_putF,if_neg `C,lookup_putF,if_pos rfl]
theorem rB:(fl R P nm).lookup ("places":Str)=some (.ref P):=by unfold fl;rw[lookup_putF,if_neg `C,lookup_putF,if_pos rfl]
theorem jP:(fl R P nm).lookup ("named":Str)=some (.str (tx nm)):=by unfold fl;rw[lookup_putF,if_pos rfl]
theorem JG{m:Str}(h1:¬m="named")(h2:¬m="places")(h3:¬m="rows"):(fl R P nm).lookup m=none:=by unfold fl;rw[lookup_putF,if_neg h1,lookup_putF,if_neg h2,lookup_putF,if_neg h3];rfl
theorem X_(nm':`F):putF "named" (.str (tx nm')) (fl R P nm)=fl R P nm':=by unfold fl;rw[OD]
theorem Yb:(fl R P nm).length<1000:=by
 unfold fl
 have h1:=uf "named" (.str (tx nm)) (putF "places" (.ref P) (putF "rows" (.ref R) []))
 have h2:=uf "places" (.ref P) (putF "rows" (.ref R) [])
 have h3:=uf "rows" (.ref R) []
 have:([]:`c).length=0:=rfl
 lia
end
def plV(pl:`R):`E:=pl.reverse.map fun c=>V.str (tx c)
structure RdX(K:W.Frag)(C:Addr)(H₀ H:Hp)(o dx R P:Addr)(ys:`E)(st:List `D)(pl:`R)(nm:`F):Prop where
 ob:H o=some (.ins C dx (fl R P nm))
 on:H₀ o=none
 pn:H₀ P=none
 rows:qw K H₀ H R st ys
 at_:H P=some (.lst (plV pl))
 np:(.ref P:V)∉(.ref R:V)::ys
def mK(K:W.Frag)(C:Addr)(H₀ H:Hp)(o:Addr)(st:List `D)(pl:`R)(nm:`F):Prop:=∃dx R P ys,RdX K C H₀ H o dx R P ys st pl nm
section
variable{K:W.Frag}{C:Addr}{H₀ H:Hp}{o dx R P:Addr}{ys:`E}{st:List `D}{pl:`R}{nm:`F}
theorem Uj{H':Hp}{p:Addr}(h:qw K H₀ H p st ys)(S:`N):qw K H₀ H' p st ys:=
 ⟨h.new,h.same.trans S,S _ _ h.at_,h.rows.imp fun _ _⟨a,xs,e,h1,h2,h3⟩=>⟨a,xs,e,h1,S _ _ h2,h3.mono (.of S)⟩,h.nd⟩
theorem GD{p q:Addr}{x:HO}(h:qw K H₀ H p st ys)(k:Kt H (upd H q x))(h0:H₀ q=none)(hn:(.ref q:V)∉(.ref p:V)::ys):qw K H₀ (upd H q x) p st ys:=
 ⟨h.new,bN h.same h0,by rw[upd_ne (fun z=>hn (by rw[z];exact List.mem_cons_self))];exact h.at_,jN k h.rows fun z=>hn (List.mem_cons_of_mem _ z),h.nd⟩
theorem ah8(h:qw K H₀ H R st ys){q:Addr}(hq:(.ref q:V)∈(.ref R:V)::ys):∃zs,H q=some (.lst zs):=by
 rcases List.mem_cons.mp hq with z|z
 ·cases z;exact⟨_,h.at_⟩
 ·obtain⟨i,hi⟩:=List.mem_iff_getElem?.mp z
  obtain⟨ts,_,a,xs,e,_,h2,_⟩:=h.rows.get hi
  cases e
  exact⟨_,h2⟩
theorem RdX.grow{H':Hp}(h:RdX K C H₀ H o dx R P ys st pl nm)(S:`N):RdX K C H₀ H' o dx R P ys st pl nm:=⟨S _ _ h.ob,h.on,h.pn,Uj h.rows S,S _ _ h.at_,h.np⟩
theorem mK.grow{H':Hp}(h:mK K C H₀ H o st pl nm)(S:`N):mK K C H₀ H' o st pl nm:=by obtain⟨dx,R,P,ys,h⟩:=h;exact⟨dx,R,P,ys,h.grow S⟩
theorem mK.same(h:mK K C H₀ H o st pl nm):Same H₀ H:=by obtain⟨dx,R,P,ys,h⟩:=h;exact h.rows.same
theorem Kt.ins{C' dx':Addr}{fs:`c}{x:HO}(h:H o=some (.ins C' dx' fs)):Kt H (upd H o x):=
 ⟨fun b xs e=>by rw[upd_ne (fun z=>by rw[z,h]at e;cases e)];exact e,fun b _ _ e=>by rw[upd_ne (fun z=>by rw[z,h]at e;cases e)];exact e⟩
theorem RdX.name(h:RdX K C H₀ H o dx R P ys st pl nm)(nm':`F):RdX K C H₀ (upd H o (.ins C dx (fl R P nm'))) o dx R P ys st pl nm':=by
 have hn:(.ref o:V)∉(.ref R:V)::ys:=fun z=>by
  obtain⟨zs,e⟩:=ah8 h.rows z
  rw[h.ob]at e
  cases e
 have hP:P≠o:=fun z=>by have:=h.at_;rw[z,h.ob]at this;cases this
 exact⟨upd_same,h.on,h.pn,GD h.rows (Kt.ins h.ob) h.on hn,by rw[upd_ne hP];exact h.at_,h.np⟩
theorem RdX.oP(h:RdX K C H₀ H o dx R P ys st pl nm):o≠P:=fun z=>by have:=h.at_;rw[<-z,h.ob]at this;cases this
theorem RdX.oR(h:RdX K C H₀ H o dx R P ys st pl nm):o≠R:=fun z=>by have:=h.rows.at_;rw[<-z,h.ob]at this;cases this
theorem RdX.PR(h:RdX K C H₀ H o dx R P ys st pl nm):P≠R:=fun z=>h.np (by rw[z];exact List.mem_cons_self)
theorem RdX.place(h:RdX K C H₀ H o dx R P ys st pl nm){pl':`R}{zs:`E}(e:zs=plV pl'):RdX K C H₀ (upd H P (.lst zs)) o dx R P ys st pl' nm:=by
 subst e
 exact⟨by rw[upd_ne h.oP];exact h.ob,h.on,h.pn,GD h.rows (Kt.lst h.at_) h.pn h.np,upd_same,h.np⟩
theorem RdX.enter(h:RdX K C H₀ H o dx R P ys st pl nm){q:Addr}(hq:H q=none):RdX K C H₀ (upd (upd H q (.lst [])) R (.lst (ys++[.ref q]))) o dx R P (ys++[.ref q]) ([]::st) pl nm:=by
 have nPq:P≠q:=ne_of_none h.at_ hq
 refine⟨?_,h.on,h.pn,GC h.rows hq,?_,fun z=>?_⟩
 ·rw[upd_ne h.oR,upd_ne (ne_of_none h.ob hq)];exact h.ob
 ·rw[upd_ne h.PR,upd_ne nPq];exact h.at_
 ·rcases List.mem_cons.mp z with z|z
  ·exact h.PR (V.ref.inj z)
  ·rcases List.mem_append.mp z with z|z
   ·exact h.np (List.mem_cons_of_mem _ z)
   ·exact nPq (V.ref.inj (List.mem_singleton.mp z))
theorem RdX.add{r:`D}{rs:List `D}{t:T}{x:V}(h:RdX K C H₀ H o dx R P ys (r::rs) pl nm)(ht:TR K H t x):
  ∃(ys0:`E)(a:Addr)(xs:`E),ys=ys0++[`I]/\H a=some (.lst xs)/\xs.length=r.length/\RdX K C H₀ (upd H a (.lst (xs++[x]))) o dx R P ys ((r++[t])::rs) pl nm:=by
 have hr:=h.rows.rows
 rw[List.reverse_cons]at hr
 obtain⟨ys0,y,rfl,h1,a,xs,rfl,ha0,ha,hta⟩:=aO.snoc hr
 have nd:=h.rows.nd
 have ndp:=(List.nodup_cons.mp nd).1
 have ndy:=(List.nodup_cons.mp nd).2
 have na:(`I:V)∉ys0:=fun z=>(List.nodup_append.mp ndy).2.2 _ z _ `G rfl
 have nRa:R≠a:=fun z=>ndp (by rw[z];simp)
 have nPa:P≠a:=fun z=>h.np (by rw[z];simp)
 have noa:o≠a:=fun z=>by rw[<-z,h.ob]at ha;cases ha
 have k:=Kt.lst (o:=.lst (xs++[x])) ha
 refine⟨ys0,a,xs,rfl,ha,hta.length,by rw[upd_ne noa];exact h.ob,h.on,h.pn,⟨h.rows.new,bN h.rows.same ha0,by rw[upd_ne nRa];exact h.rows.at_,?_,nd⟩,by rw[upd_ne nPa];exact h.at_,h.np⟩
 rw[List.reverse_cons]
 exact aO.append (jN k h1 na) (aO.one ⟨a,_,rfl,ha0,upd_same,TRs.append (hta.mono k) (jE (ht.mono k))⟩)
theorem RdX.shut{r:`D}{rs:List `D}(h:RdX K C H₀ H o dx R P ys (r::rs) pl nm):
  ∃(ys0:`E)(a:Addr)(xs:`E),ys=ys0++[`I]/\R≠a/\H a=some (.lst xs)/\TRs K H r xs/\RdX K C H₀ (upd H R (.lst ys0)) o dx R P ys0 rs pl nm:=by
 have hr:=h.rows.rows
 rw[List.reverse_cons]at hr
 obtain⟨ys0,y,rfl,h1,a,xs,rfl,ha0,ha,hta⟩:=aO.snoc hr
 have nd:=h.rows.nd
 have ndp:=(List.nodup_cons.mp nd).1
 have ndy:=(List.nodup_cons.mp nd).2
 have nRa:R≠a:=fun z=>ndp (by rw[z];simp)
 have k:=Kt.lst (o:=.lst ys0) h.rows.at_
 refine⟨ys0,a,xs,rfl,nRa,ha,hta,by rw[upd_ne h.oR];exact h.ob,h.on,h.pn,⟨h.rows.new,bN h.rows.same h.rows.new,upd_same,jN k h1 fun z=>ndp (by simp[z]),List.nodup_cons.mpr ⟨fun z=>ndp (by simp[z]),(List.nodup_append.mp ndy).1⟩⟩,by rw[upd_ne h.PR];exact h.at_,fun z=>h.np ?_⟩
 rcases List.mem_cons.mp z with z|z
 ·rw[z];exact List.mem_cons_self
 ·exact List.mem_cons_of_mem _ (List.mem_append_left _ z)
end
end Sw
namespace SwR
open PySem PySem.Spec PyProof.Rows L2 Sw
def adf(K:W.Frag)(a:Addr)(n:Nat):It:=
 ⟨fun i H=>∃xs x,SqT K H a xs/\xs.length=n/\xs.reverse[i]?=some x,fun i H v H'=>H'=H/\∀xs,SqT K H a xs->xs.reverse[i]?=some v,fun i H=>∃xs,SqT K H a xs/\xs.length=n/\n=i⟩
theorem ad2{α:Type}{xs:List α}{i:Nat}{x:α}(h:xs.reverse[i]?=some x):i<xs.length/\xs[xs.length-1-i]?=some x:=by
 have hi:i<xs.length:=by have:=(List.getElem?_eq_some_iff.mp h).1;simpa using this
 exact⟨hi,by rw[List.getElem?_reverse hi]at h;exact h⟩
theorem adF{P:Program}{w:World}{K:W.Frag}{tg:Expr}(a it:Addr)(n:Nat)(hne:a≠it):Turn P w K tg (adf K a n) [it] it (fun i h=>RvO h it a ((n:Int)-1-(i:Int)))where
 mem:=`G
 obj:=fun i h st b hb=>by
  have e:b=it:=by simpa using hb
  subst e
  obtain⟨o,ho,hc,hd⟩:=st
  exact⟨o,ho,fun v z=>by rw[hd]at z;cases z⟩
 keep:=fun i h h' st k=>st.keep fun o e=>k it `G o e
 item:=by
  intro X hP hw hK hc i pins s σ H E I hf st hg
  subst hP hw hK
  obtain⟨xs,x,hq,hn,hx⟩:=hg
  obtain⟨hi,hx'⟩:=ad2 hx
  obtain⟨its,rv,p,hz⟩:=I.tuple hq
  obtain⟨u,hu,ru⟩:=rv.get hx'
  obtain⟨f0,f1,f2,f3,f4,f5⟩:=hf it `G
  have hl:=rv.length
  have e1:(n:Int)-1-(i:Int)=((xs.length-1-i:Nat):Int):=`A
  rw[e1]at st
  refine next_item (items:=its.toArray) st p (x:=u) (by simpa using hu) (by rw[List.size_toArray];lia) hne fun h' tk st' sb=>?_
  have e2:((xs.length-1-i:Nat):Int)-1=(n:Int)-1-((i+1:Nat):Int):=`A
  rw[e2]at st'
  have I1:Inv X pins σ H {s with heap:=h',toks:=tk}:=I.turned (fun b o hb e=>(sb.2 b hb).trans e) f0 f1 f3 f4 f5
  obtain⟨o,e,c,d⟩:=id st'
  exact⟨u,rfl,go_of (s:={s with heap:=h',toks:=tk}) e c d `B ⟨x,H,I1,ru,⟨rfl,fun ys hy=>by rw[I.qQ hy hq];exact hx⟩,st',fun b hb=>(hf b hb).1⟩⟩
 done:=by
  intro X hP hw hK hc i pins s σ H E I hf st hg
  subst hP hw hK
  obtain⟨xs,hq,hn,hx⟩:=hg
  obtain⟨f0,f1,f2,f3,f4,f5⟩:=hf it `G
  have e1:(n:Int)-1-(i:Int)=-1:=`A
  rw[e1]at st
  exact next_end (I.ok.hd hc) st fun h' eb=>⟨rfl,I.turned (t':=s.toks) (fun b o hb e=>eb b o hb e) f0 f1 f3 f4 f5⟩
 self:=fun _ _ _ _ _ st h=>zA st h
def ahM(K:W.Frag)(tl:TE):TI:=fun σ H R=>tl σ H fun x H1=>∃a xs,x=`I/\SqT K H1 a xs/\R (adf K a xs.length) H1
theorem aiv{X:Cx}{tg l:Expr}{tl:TE}{p pos:Pos}(hg:Gl X "reversed")(hm:X.mg "reversed"=none)(hl:PE X l tl)(hs:starEach [l] X.env=[(false,eval l X.env)]:=by rfl):PI X tg (.Call (.Name "reversed" p) [l] [] pos) (ahM X.K tl):=by
 intro pins s σ H R I h
 refine wpAny_Call_Name_kw (ld_blt I hg hm Av ?_)
 refine PyProof.Rows.callWith_type1 ?_ (by rw[hs];rfl) (by rfl)
 rw[hs]
 refine Calls.spliced_cons (thn (hl pins s σ H _ I h) fun v s1⟨x,H1,I1,r1,q1⟩=>Calls.spliced_nil ?_)
 obtain⟨a,xs,rfl,hq,q⟩:=q1
 cases r1
 obtain⟨its,rv,ht,hz⟩:=I1.tuple hq
 have hlen:=rv.length
 have la:a<s1.heap.objs.size:=let⟨_,ho,_⟩:=ht;Heap.lt_size ho
 refine YC ht (by rw[List.size_toArray];lia) fun tk=>?_
 have hit:RvO (s1.heap.push {cls:=.type "reversed",data:=.fields #[`I,rawInt ((its.toArray.size:Int)-1)]}) s1.heap.objs.size a ((its.toArray.size:Int)-1):=⟨_,`i,rfl,rfl⟩
 refine zA (s:={s1 with heap:=s1.heap.push {cls:=.type "reversed",data:=.fields #[`I,rawInt ((its.toArray.size:Int)-1)]},toks:=tk}) hit ?_
 refine⟨s1.heap.objs.size,[s1.heap.objs.size],_,adf X.K a xs.length,H1,rfl,I1.kept fun b o e=>Heap.get?_push_of_some _ e,adF a _ xs.length (Nat.ne_of_lt la),?_,fun b hb=>?_,q⟩
 ·have e1:(xs.length:Int)-1-((0:Nat):Int)=(its.toArray.size:Int)-1:=by rw[List.size_toArray];lia
  show RvO _ _ _ ((xs.length:Int)-1-((0:Nat):Int))
  rw[e1]
  exact hit
 ·have e:b=s1.heap.objs.size:=by simpa using hb
  subst e
  exact I1.fpOk `K (I1.hok.fresh `K)
section
variable{prog:Program}{w:World}{A:Around}{E:`V}{s:Shared}
end
end SwR
namespace Sw
open PySem PySem.Spec PyProof.Rows L2
section
variable{prog:Program}{w:World}{A:Around}{E:`V}{s:Shared}{K:W.Frag}{x y C:Addr}{ox:Obj}{od:Option Obj}{items:Array Value}
theorem acZ{Q:`V}(kin:K.In s.heap)(J:W.InstAt s.heap x ox C od)(hm:W.mroIn K C (.type "object")=some true)(hxy:x≠y){oy:Obj}(hy:s.heap.get? y=some oy)(h:Q .notImplemented s):
  wpAny `b A (call (.builtin "object.__eq__") [.ref x,.ref y]) Q E s:=by
 refine wpAny_call (codeAny_call_builtin `C F.cmpEntry_eq ?_)
 unfold checkBuiltinCall
 rw[F.cmpKind_eq,F.cmpSplit_eq]
 dsimp only
 refine wpAny_bind ?_
 unfold isInstance
 refine wpAny_bind (J.type _ _ _ s (fun _ _ e=>e) ?_)
 refine W.looks_mroIn kin hm _ _ _ s (fun _ _ e=>e) ?_
 rw[if_neg `B]
 refine wpAny_of_eq (F.cmpArgs_eq (.ref x) (.ref y)) ?_
 unfold Builtin.«object.__eq__»
 refine wpAny_bind (wpAny_of_eq (a:=(Value.ref x,[Value.ref y])) rfl ?_)
 dsimp only
 refine wpAny_bind (wpAny_isSame_ref_other hxy J.at_ hy (by rw[J.cls];exact fun z=>nomatch z) ?_)
 rw[if_neg `B]
 exact wpAny_pure h
theorem acY{Q:`V}(kin:K.In s.heap)(J:W.InstAt s.heap x ox C od)(hm:W.mroIn K C `a=some false)(ht:s.TypeIs (.ref y) "tuple")(h:Q .notImplemented s):
  wpAny `b A (call (.builtin "tuple.__eq__") [.ref y,.ref x]) Q E s:=by
 refine wpAny_call_entry F.slot_tuple_eq ht F.entry_tuple_eq ?_ (F.args_tuple_eq_2 _ _)
 unfold Builtin.«tuple.__eq__»
 wp_delta
 refine wpAny_bind (wpAny_of_eq (a:=(Value.ref y,[Value.ref x])) rfl ?_)
 dsimp only
 refine wpAny_bind ?_
 unfold isInstance
 refine wpAny_bind (J.type _ _ _ s (fun _ _ e=>e) ?_)
 refine W.looks_mroIn kin hm _ _ _ s (fun _ _ e=>e) ?_
 rw[if_pos `B]
 exact wpAny_pure ⟨_,rfl,h⟩
theorem acM{Q:`V}(hu:A.units<cLine)(kin:K.In s.heap)(J:W.InstAt s.heap x ox C od)(he:W.findIn K (.ref C) "__eq__"=some (some (.builtin "object.__eq__")))(hm:W.mroIn K C (.type "object")=some true)
  (hmt:W.mroIn K C `a=some false)(hsub:W.subIn K `a (.ref C)=some false)(hxy:x≠y){oy:Obj}(hy:s.heap.get? y=some oy)(hc:oy.cls=`a)(h:Q (.bool false) s):
  wpAny `b A (compareOp .Eq (.ref x) (.ref y)) Q E s:=by
 have ht:s.TypeIs (.ref y) "tuple":=⟨oy,hy,hc⟩
 show wpAny _ _ (richCompare .Eq (.ref x) (.ref y)) _ _ _
 unfold richCompare
 refine wpAny_holding (wpAny_bind (wpAny_cRoomFor hu ?_))
 rw[show oneThing? CmpOp.Eq (Value.ref x) (Value.ref y)=none from rfl]
 show wpAny _ _ (typeOf (.ref x)>>=_) _ _ _
 refine wpAny_bind (J.type _ _ _ s (fun _ _ e=>e) ?_)
 refine wpAny_bind (wpAny_typeOf ht ?_)
 rw[if_pos (by rfl)]
 refine wpAny_bind (W.looks_subIn kin hsub _ _ _ s (fun _ _ e=>e) ?_)
 show wpAny _ _ (tryCompare (.ref x) (Str.ofString "__eq__") (.ref y)>>=_) _ _ _
 have aml:∀{Q':Option Value->Shared->Prop},Q' none s->wpAny `b A (tryCompare (.ref x) (Str.ofString "__eq__") (.ref y)) Q' E s:=fun{Q'}q=>by
  unfold tryCompare
  refine wpAny_bind ?_
  unfold callSpecialIfBound?
  refine wpAny_holding (wpAny_bind ?_)
  unfold bindSpecialIfBound?
  refine wpAny_bind ?_
  unfold specialOf
  refine wpAny_bind (J.type _ _ _ s (fun _ _ e=>e) ?_)
  refine W.looks_findIn kin he _ _ _ s (fun _ _ e=>e) ?_
  dsimp only
  have hb:bindSpecial (.builtin "object.__eq__") (.ref x)=pure (.builtin "object.__eq__",[.ref x]):=F.slot_object_eq.bind _
  rw[hb]
  have fin:wpAny `b A (call (.builtin "object.__eq__") ([.ref x]++[.ref y])) (fun v s1=>wpAny `b A (pure (some v)) (fun a s'=>wpAny `b A (match a with|some .notImplemented=>pure none|none=>pure none|some v=>pure (some v)) Q' E s') E s1) E s:=
   acZ kin J hm hxy hy (wpAny_pure (wpAny_pure q))
  refine wpAny_bind (wpAny_askSetting ?_)
  split
  ·exact wpAny_bind (wpAny_pure (wpAny_pure (wpAny_bind fin)))
  ·exact wpAny_tryCatch (wpAny_bind (wpAny_pure (wpAny_pure (wpAny_bind fin))))
 refine wpAny_bind (aml ?_)
 show wpAny _ _ (tryCompare (.ref y) (Str.ofString "__eq__") (.ref x)>>=_) _ _ _
 refine wpAny_bind (wpAny_tryCompare_declines ht F.slot_tuple_eq (acY kin J hmt ht ⟨rfl,?_⟩))
 refine wpAny_bind (wpAny_rule ?_)
 exact wpAny_bind (wpAny_isSame_ref_other hxy J.at_ hy (by rw[J.cls];exact fun z=>nomatch z) (wpAny_pure h))
end
end Sw
namespace SwR
open PySem PySem.Spec PyProof.Rows L2 Sw
end SwR
namespace Sw
open PySem PySem.Spec PyProof.Rows L2
structure Y9(K:W.Frag)(C:Addr):Prop where
 cl:Cls K C
 eq:W.findIn K (.ref C) "__eq__"=some (some (.builtin "object.__eq__"))
 ob:W.mroIn K C (.type "object")=some true
 tu:W.mroIn K C `a=some false
 sb:W.subIn K `a (.ref C)=some false
 ca:W.findIn K (.ref C) "__class__"=some (some (.builtin "object.__class__"))
 cn:W.specialIn K (.builtin "object.__class__") "__get__"=some (some (.builtin "getset_descriptor.__get__"))
 ct:W.takesIn K (.builtin "object.__class__")=some true
theorem Y9.ty{K:W.Frag}{C a dx:Addr}{fs:`c}{H:Hp}(r:Y9 K C)(h:H a=some (.ins C dx fs)):TyOf K H `I (.ref C):=.ins h r.cl r.ca r.cn r.ct r.ob
section
variable{X:Cx}
def ad5(K:W.Frag)(n:Nat):R2:=fun x y H Q=>(∃t u,TR K H t x/\TR K H u y/\t.deep<=n/\Q (.bl (T.beq t u)) H)\/∃a C dx fs b ys,x=`I/\H a=some (.ins C dx fs)/\Y9 K C/\y=.ref b/\H b=some (.tup ys)/\Q (.bl false) H
theorem W3{n:Nat}(hu:X.A.units+n<cLine):OpR X (compareOp .Eq) (ad5 X.K n):=by
 intro pins s σ H x y v u Q I rx ry h
 rcases h with h|⟨a,C,dx,fs,b,ys,rfl,ha,r,rfl,hb,q⟩
 ·exact B_ hu pins s σ H x y v u Q I rx ry h
 ·cases(show v=Value.ref a from rx)
  cases(show u=Value.ref b from ry)
  obtain⟨mA,O,_⟩:=ins_get I.hok ha
  obtain⟨od,J,_⟩:=O.look
  obtain⟨_,_,_,p⟩:=(show ObjOk X.prog X.w H s.heap b (.tup ys)from I.hok b _ hb)
  obtain⟨o,h1,h2,_⟩:=p
  exact acM `A I.kIn J r.eq r.ob r.tu r.sb (fun z=>by rw[z,hb]at ha;cases ha) h1 h2 ⟨.bl false,H,I,rfl,q⟩
theorem iW:CallR X (.builtin "isinstance") (fun xs H Q=>∃x D b,xs=[x,.ref D]/\((∃t,TyOf X.K H x t/\W.kitOne X.K t (.ref D)=some b)\/(∃a ys,x=`I/\SqT X.K H a ys/\W.kitOne X.K `a (.ref D)=some b))/\Q (.bl b) H):=by
 intro pins s σ H xs us Q I r h
 obtain⟨x,D,b,rfl,h,q⟩:=h
 obtain⟨u,w',rfl,r1,r2⟩:=vals2 r
 cases(show w'=Value.ref D from r2)
 rcases h with⟨t,ty,e⟩|⟨a,ys,rfl,hq,e⟩
 ·exact Uw I r1 ty e fun tk=>⟨.bl b,H,I.tok tk,rfl,q⟩
 ·cases r1
  obtain⟨its,_,⟨o,h1,h2,_⟩,_⟩:=I.tuple hq
  exact W.kia_one W.kitx_tuple I.kIn ⟨o,h1,h2⟩ e (fun z=>nomatch z) fun tk=>⟨.bl b,H,I.tok tk,rfl,q⟩
def af4:V->`E->Hp->VK->Prop:=fun x vs H Q=>∃l xs y,x=.ref l/\vs=[`H,y]/\H l=some (.lst xs)/\xs.length<sizeLine/\Q .non (upd H l (.lst (y::xs)))
theorem acs:MtM X "list.insert" af4:=by
 intro pins s σ H x vs v us Q I rx rv h
 obtain⟨l,xs,y,rfl,rfl,hH,hz,q⟩:=h
 cases rx
 obtain⟨u0,u,rfl,r0,ru⟩:=vals2 rv
 obtain⟨t,rfl⟩:=r0
 obtain⟨z,its,n,r,hl,e⟩:=I.lstM hH
 refine call_meets F.slot_list_insert ⟨_,e,rfl⟩ F.entry_list_insert (F.args_list_insert_3 _ _ _) (AutoSeq1.list_insert_list_int_val_1 l its.toArray n 0 t u `B (by rw[List.size_toArray];lia)) ⟨e,?_⟩
 refine⟨.non,_,I.RN (its':=u::its) hH e `G (.cons ru r) ?_,rfl,q⟩
 rw[List.length_cons]
 lia
theorem Nb:ahm X (rIxL X.K):=by
 intro pins s σ H x y v u Q I rx ry h
 obtain⟨p,xs,i,z,rfl,rfl,hq,he,q⟩:=h
 cases rx
 obtain⟨t,rfl⟩:=ry
 obtain⟨its,r,pl,hz⟩:=I.list hq
 obtain⟨j,h1,h2,h3,h4,h5⟩:=atI_get he
 obtain⟨w,ew,rw'⟩:=r.get h2
 have hl:=r.length
 have hn:=line63
 have fin:EP X pins σ Q w s:=⟨z,H,I,rw',q⟩
 by_cases h0:0<=i
 ·have hj:i.toNat=j:=by
   rw[seqIndex_of h0 h5]at h1
   exact Option.some.inj h1
  exact getItem_listL pl.isList h0 `A (by rw[hj];exact ew) fin
 ·have hj:(i+(its.toArray.size:Int)).toNat=j:=by
   rw[seqIndex_neg `A h4]at h1
   rw[List.size_toArray,<-hl]
   exact Option.some.inj h1
  exact wpAny_getItem_list_neg pl.isList `A (by rw[List.size_toArray]<;>lia) `A (by rw[hj];simpa using ew) fin
theorem Rg{pos:Pos}{o i e:Expr}{to ti te:TE}{KN:V->V->Hp->VK->Prop}{tip:TIp}{KJ:N_}{op:Operator}{tpos:Pos}(ho:QE X o to)(hi:QE X i ti)(hg:ahm X KN)(he:QE X e te)(hp:PIp X op tip)(hs:Y_ X KJ)
  (ha:∀ov iv new,augStore i ov iv new=(do holding [new,ov,iv] (setItem ov iv new);release [new,ov,iv] [];pure .next):=by intros;rfl):QS X (.AugAssign (.Subscript o i tpos) op e pos) (ahw to ti te KN tip KJ):=⟨aip ho.run hi.run hg he.run hp hs ha⟩
theorem Uk{o value:Expr}{f:Str}{pos tpos:Pos}{ta tv:TE}{op:Operator}{rd:V->V->Hp->VK->Prop}(ha:QE X o ta)(hv:QE X value tv)(hop:adg X op rd):QS X (.AugAssign (.Attribute o f tpos) op value pos) (aa5 X.K ta tv rd f):=⟨aee ha.run hv.run hop⟩
theorem jf{CX:CXT}{k:Nat}{f C:Addr}{fd:FuncData}{ps:List Str}{sp:Sp}{dvs:`E}{ds:`L}{E:XK}{x:Str}{p pos:Pos}{e:Expr}{es:List Expr}{t:TA}(M:Mk X.K C f)(F:FnOk X.prog X.w X.K X.mg X.base CX k f fd ps sp)(hr:Room (k+1) X.A)(hg:Gl X x)(hm:X.mg x=some (.ref C))(hb:Binds X.K fd ps ds)(hd:Vals dvs ds)(hx:Passes CX X E)
  (ha:QA X (e::es) t)(hdb:`l:=by decide)(he:starEach (e::es) X.env=(false,eval e X.env)::starEach es X.env:=by rfl)(hpl:(backTo pos (starEach es X.env)).any (·.1)=false:=by rfl):
  QE X (.Call (.Name x p) (e::es) [] pos) (tMake C sp dvs E t):=⟨aiy M F hr hg hm hb hd hx ha.run hdb he hpl⟩
theorem aii{tg l:Expr}{tl:TE}{p pos:Pos}(hg:Gl X "reversed")(hm:X.mg "reversed"=none)(hl:QE X l tl)(hs:starEach [l] X.env=[(false,eval l X.env)]:=by rfl):QI X tg (.Call (.Name "reversed" p) [l] [] pos) (SwR.ahM X.K tl):=⟨SwR.aiv hg hm hl.run hs⟩
theorem aix{a:Expr}{ta:TE}{pos:Pos}(ha:PE X a ta):PE X (.UnaryOp .Not a pos) (fun σ H Q=>ta σ H fun x H'=>∃k,Y7 X.K x H' k/\Q (.bl (!k)) H'):=by
 intro pins s σ H Q I h
 refine UnaryOp_ (thn (ha pins s σ H _ I h) fun v s1⟨x,H1,I1,r1,q1⟩=>?_)
 refine not_of (thn (adI pins s1 σ H1 x v (fun k H2=>Q (.bl (!k)) H2) I1 r1 q1) fun k s2⟨H2,I2,q2⟩=>?_)
 exact⟨.bl (!k),H2,I2,rfl,q2⟩
theorem ail{a:Expr}{ta:TE}{pos:Pos}(ha:QE X a ta):QE X (.UnaryOp .Not a pos) (fun σ H Q=>ta σ H fun x H'=>∃k,Y7 X.K x H' k/\Q (.bl (!k)) H'):=⟨aix ha.run⟩
end
structure Own(K:W.Frag)(ao aA aB aG aJ aF:Addr):Prop where
 rF:Y9 K ao
 rL:Y9 K aA
 eF:Cls K aB
 cText:Cls K aG
 Ir:Cls K aJ
 cQ:Cls K aF
 fi:NoAttr K ao "item"
 fb:NoAttr K ao "behind"
 lt:NoAttr K aA "tree"
 lp:NoAttr K aA "place"
 wk:NoAttr K aB "kind"
 wl:NoAttr K aB "load"
 wy:NoAttr K aB "yes"
 wn:NoAttr K aB "no"
 wb:NoAttr K aB "body"
 ws:NoAttr K aB "size"
 tt:NoAttr K aG "tree"
 tw:NoAttr K aG "words"
 gt:NoAttr K aJ "text"
 gp:NoAttr K aJ "place"
 kg:NoAttr K aF "goings"
 ks:NoAttr K aF "stack"
 kn:NoAttr K aF "numbers"
 kl:NoAttr K aF "left"
 iTF:W.kitOne K `a (.ref ao)=some false
 iTL:W.kitOne K `a (.ref aA)=some false
 iFF:W.kitOne K (.ref ao) (.ref ao)=some true
 iLF:W.kitOne K (.ref aA) (.ref ao)=some false
 iLL:W.kitOne K (.ref aA) (.ref aA)=some true
theorem Wz(f:Str)(v:V):putF f v []=[(f,v)]:=rfl
theorem wO(f:Str)(u v:V)(r:`c):putF f v ((f,u)::r)=(f,v)::r:=by rw[putF,if_pos rfl]
theorem bL{f g:Str}(h:¬g=f)(u v:V)(r:`c):putF f v ((g,u)::r)=(g,u)::putF f v r:=by rw[putF,if_neg h]
theorem dM(f:Str)(u:V)(r:`c):List.lookup f ((f,u)::r)=some u:=by rw[List.lookup_cons,beq_self_eq_true]
theorem cG{f g:Str}(h:(f==g)=false)(u:V)(r:`c):List.lookup f ((g,u)::r)=List.lookup f r:=by rw[List.lookup_cons,h]
def fF(y z:V):`c:=[("item",y),("behind",z)]
def fL(v:V)(p:Nat):`c:=[("tree",v),("place",.int (p:Int))]
def fT(v:V)(W:Addr):`c:=[("tree",v),("words",.ref W)]
def fG(a:Addr)(p:Nat):`c:=[("text",`I),("place",.int (p:Int))]
def fD(k:Nat)(v y n b z:V):`c:=[("kind",.int (k:Int)),("load",v),("yes",y),("no",n),("body",b),("size",z)]
def fW(G S N:Addr)(b:Nat):`c:=[("goings",.ref G),("stack",.ref S),("numbers",.ref N),("left",.int (b:Int))]
theorem Oz{f g:Str}(h:¬f=g)(u v:V):putF g v (putF f u [])=[(f,u),(g,v)]:=by rw[Wz,bL h,Wz]
inductive Role where
 |mine
 |text(t:T)(W:Addr)
 |words(t:T)
 |word(w:T)
 |row(t:T)
abbrev Mp:=Addr->Option Role
def setM(M:Mp)(p:Addr)(r:Role):Mp:=fun a=>if a=p then some r else M a
theorem dD{M:Mp}{p:Addr}{r:Role}:setM M p r p=some r:=by unfold setM;rw[if_pos rfl]
theorem fV{M:Mp}{a p:Addr}{r:Role}(h:a≠p):setM M p r a=M a:=by unfold setM;rw[if_neg h]
section
variable(K:W.Frag)(CF CL CD CT CG CW:Addr)
def RV(M:Mp)(H:Hp)(t:T)(x:V):Prop:=TR K H t x\/∃a,x=`I/\M a=some (.row t)
def vR(M:Mp)(a:Addr)(t:T):Prop:=∃W,M a=some (.text t W)
def Ok1(M:Mp)(H:Hp)(a:Addr):Role->Prop
 | .mine=>True
 | .text t W=>∃dx v,H a=some (.ins CT dx (fT v W))/\TR K H t v/\M W=some (.words t)
 | .words t=>∃xs,H a=some (.lst xs)/\xs.length<=t.kids.length/\∀(j:Nat)x,xs[j]?=some x->∃b w,x=.ref b/\t.kids[j]?=some w/\M b=some (.word w)
 | .word w=>∃dx v y n bd sz,H a=some (.ins CD dx (fD (aD w) v y n bd sz))/\TR K H (aL w) v/\(aD w=7->∃ay an,y=.ref ay/\n=.ref an/\vR M ay (ats (aL w).kids 0)/\vR M an (aL (aL w)))/\
   (aD w=8->∃ab,bd=.ref ab/\vR M ab (aL w))/\(sz=.non\/sz=.int ((aL w).parts:Nat))
 | .row t=>(∃dx y z u ts,H a=some (.ins CF dx (fF y z))/\t=.node (u::ts)/\RV K M H u y/\RV K M H (.node ts) z)\/∃dx v ts p,H a=some (.ins CL dx (fL v p))/\TR K H (.node ts) v/\p<ts.length/\ts.length<=8000000/\t=.node (ts.drop p)
structure Gh(M:Mp)(H₀ H:Hp):Prop where
 same:Same H₀ H
 new:∀a r,M a=some r->H₀ a=none
 has:∀a r,M a=some r->∃o,H a=some o
 ok:∀a r,M a=some r->Ok1 K CF CL CD CT M H a r
structure Go(X:Addr->Prop)(M M':Mp)(H₀ H H':Hp):Prop where
 ext:∀a r,M a=some r->M' a=some r
 mine:∀a,M a=some .mine->¬X a->H' a=H a
 kt:Kt H H'
 gh:Gh K CF CL CD CT M' H₀ H'
 wds:∀W t ws,M W=some (.words t)->H W=some (.lst ws)->∃ws',H' W=some (.lst ws')/\ws.length<=ws'.length
end
section
variable{K:W.Frag}{CF CL CD CT CG CW:Addr}{M M' M'':Mp}{H₀ H H' H'':Hp}{X Y:Addr->Prop}
theorem RV.mono{t:T}{x:V}(k:Kt H H')(e:∀a t,M a=some (.row t)->M' a=some (.row t))(h:RV K M H t x):RV K M' H' t x:=by
 rcases h with h|⟨a,rfl,h⟩
 ·exact .inl (h.mono k)
 ·exact .inr ⟨a,rfl,e _ _ h⟩
theorem Ok1.mono{a:Addr}{r:Role}(h:Ok1 K CF CL CD CT M H a r)(ha:H' a=H a)(k:Kt H H')(e:∀a r,r≠.mine->M a=some r->M' a=some r):Ok1 K CF CL CD CT M' H' a r:=by
 cases r with
 |mine=>trivial
 |text t W=>
  obtain⟨dx,v,h1,h2,h3⟩:=h
  exact⟨dx,v,ha.trans h1,h2.mono k,e _ _ `G h3⟩
 |words t=>
  obtain⟨xs,h1,h2,h3⟩:=h
  refine⟨xs,ha.trans h1,h2,fun j x hx=>?_⟩
  obtain⟨b,w,e1,e2,e3⟩:=h3 j x hx
  exact⟨b,w,e1,e2,e _ _ `G e3⟩
 |word w=>
  obtain⟨dx,v,y,n,bd,sz,h1,h2,h3,h4,h5⟩:=h
  refine⟨dx,v,y,n,bd,sz,ha.trans h1,h2.mono k,fun s7=>?_,fun s8=>?_,h5⟩
  ·obtain⟨ay,an,e1,e2,⟨W1,e3⟩,W2,e4⟩:=h3 s7
   exact⟨ay,an,e1,e2,⟨W1,e _ _ `G e3⟩,W2,e _ _ `G e4⟩
  ·obtain⟨ab,e1,W,e2⟩:=h4 s8
   exact⟨ab,e1,W,e _ _ `G e2⟩
 |row t=>
  have er:∀a t,M a=some (.row t)->M' a=some (.row t):=fun a t=>e a _ `G
  rcases h with⟨dx,y,z,u,ts,h1,h2,h3,h4⟩|⟨dx,v,ts,p,h1,h2,h3,h4,h5⟩
  ·exact .inl ⟨dx,y,z,u,ts,ha.trans h1,h2,h3.mono k er,h4.mono k er⟩
  ·exact .inr ⟨dx,v,ts,p,ha.trans h1,h2.mono k,h3,h4,h5⟩
theorem Gh.nil(H:Hp):Gh K CF CL CD CT (fun _=>none) H H:=⟨Same.refl _,fun _ _ z=>(by cases z),fun _ _ z=>(by cases z),fun _ _ z=>(by cases z)⟩
theorem Gh.grow(g:`h)(S:`N):Gh K CF CL CD CT M H₀ H':=
 ⟨g.same.trans S,g.new,fun a r h=>by obtain⟨o,e⟩:=g.has a r h;exact⟨o,S _ _ e⟩,fun a r h=>by
  obtain⟨o,e⟩:=g.has a r h
  exact(g.ok a r h).mono ((S _ _ e).trans e.symm) (.of S) fun _ _ _ z=>z⟩
theorem Gh.mut{p:Addr}{o:HO}(g:`h)(hp:M p=some .mine)(k:Kt H (upd H p o)):Gh K CF CL CD CT M H₀ (upd H p o):=by
 refine⟨bN g.same (g.new _ _ hp),g.new,fun a r h=>?_,fun a r h=>?_⟩
 ·by_cases z:a=p
  ·exact⟨o,by rw[z,upd_same]⟩
  ·obtain⟨u,e⟩:=g.has a r h
   exact⟨u,by rw[upd_ne z];exact e⟩
 ·by_cases z:a=p
  ·rw[z,hp]at h
   cases h
   trivial
  ·exact(g.ok a r h).mono (upd_ne z) k fun _ _ _ z=>z
theorem Gh.put{p:Addr}{o:HO}{r:Role}(g:`h)(hp:M p=some r)(k:Kt H (upd H p o))(h:Ok1 K CF CL CD CT M (upd H p o) p r):Gh K CF CL CD CT M H₀ (upd H p o):=by
 refine⟨bN g.same (g.new _ _ hp),g.new,fun a r h=>?_,fun a r' h'=>?_⟩
 ·by_cases z:a=p
  ·exact⟨o,by rw[z,upd_same]⟩
  ·obtain⟨u,e⟩:=g.has a r h
   exact⟨u,by rw[upd_ne z];exact e⟩
 ·by_cases z:a=p
  ·rw[z,hp]at h'
   cases h'
   rw[z]
   exact h
  ·exact(g.ok a r' h').mono (upd_ne z) k fun _ _ _ z=>z
theorem Gh.role{p:Addr}{r:Role}(g:`h)(hp:M p=none\/M p=some .mine)(hn:H₀ p=none)(hh:∃o,H p=some o)(h:Ok1 K CF CL CD CT (setM M p r) H p r):Gh K CF CL CD CT (setM M p r) H₀ H:=by
 refine⟨g.same,fun a r' h'=>?_,fun a r' h'=>?_,fun a r' h'=>?_⟩
 ·by_cases z:a=p
  ·rw[z];exact hn
  ·rw[fV z]at h';exact g.new a r' h'
 ·by_cases z:a=p
  ·rw[z];exact hh
  ·rw[fV z]at h';exact g.has a r' h'
 ·by_cases z:a=p
  ·rw[z,dD]at h'
   cases h'
   rw[z]
   exact h
  ·rw[fV z]at h'
   refine(g.ok a r' h').mono rfl (Kt.refl _) fun b r2 hr hb=>?_
   by_cases y:b=p
   ·rw[y]at hb
    rcases hp with hp|hp
    ·rw[hp]at hb;cases hb
    ·rw[hp]at hb;cases hb;exact absurd rfl hr
   ·rw[fV y];exact hb
theorem Go.refl(g:`h):Go K CF CL CD CT X M M H₀ H H:=⟨fun _ _ z=>z,fun _ _ _=>rfl,Kt.refl _,g,fun _ _ ws _ h=>⟨ws,h,`K⟩⟩
theorem Go.trans(a:Go K CF CL CD CT X M M' H₀ H H')(b:Go K CF CL CD CT X M' M'' H₀ H' H''):Go K CF CL CD CT X M M'' H₀ H H'':=
 ⟨fun p r h=>b.ext _ _ (a.ext _ _ h),fun p h x=>(b.mine p (a.ext _ _ h) x).trans (a.mine p h x),a.kt.trans b.kt,b.gh,fun W t ws h1 h2=>by
  obtain⟨w1,e1,l1⟩:=a.wds W t ws h1 h2
  obtain⟨w2,e2,l2⟩:=b.wds W t w1 (a.ext _ _ h1) e1
  exact⟨w2,e2,`A⟩⟩
theorem Go.weak(a:Go K CF CL CD CT X M M' H₀ H H')(h:∀p,X p->Y p):Go K CF CL CD CT Y M M' H₀ H H':=⟨a.ext,fun p m y=>a.mine p m fun z=>y (h p z),a.kt,a.gh,a.wds⟩
theorem Go.grow(g:`h)(S:`N):Go K CF CL CD CT X M M H₀ H H':=
 ⟨fun _ _ z=>z,fun a h _=>by obtain⟨o,e⟩:=g.has a _ h;exact(S _ _ e).trans e.symm,.of S,g.grow S,fun _ _ ws _ h=>⟨ws,S _ _ h,`K⟩⟩
theorem Go.rv{t:T}{x:V}(a:Go K CF CL CD CT X M M' H₀ H H')(h:RV K M H t x):RV K M' H' t x:=h.mono a.kt fun p t e=>a.ext p _ e
abbrev mkO(H:Hp)(x dx C:Addr)(fs:`c):Hp:=upd (upd H dx (.own x)) x (.ins C dx fs)
theorem jD{H:Hp}{p:Addr}{a b:HO}:upd (upd H p a) p b=upd H p b:=by
 funext q
 by_cases h:q=p
 ·rw[h,upd_same,upd_same]
 ·rw[upd_ne h,upd_ne h,upd_ne h]
theorem amh{H:Hp}{p q:Addr}{a b:HO}(h:p≠q):upd (upd H p a) q b=upd (upd H q b) p a:=by
 funext r
 by_cases h1:r=p
 ·rw[h1,upd_ne h,upd_same,upd_same]
 ·by_cases h2:r=q
  ·rw[h2,upd_same,upd_ne (Ne.symm h),upd_same]
  ·rw[upd_ne h2,upd_ne h1,upd_ne h1,upd_ne h2]
variable{x dx C p:Addr}{fs fs':`c}{o:HO}
theorem gQ:mkO H x dx C fs x=some (.ins C dx fs):=upd_same
theorem aev:upd (mkO H x dx C fs) x (.ins C dx fs')=mkO H x dx C fs':=jD
theorem iG(hx:H x=none)(hd:H dx=none)(ne:dx≠x):Same H (mkO H x dx C fs):=by
 refine(same_new hd _).trans (same_new ?_ _)
 rw[upd_ne (Ne.symm ne)]
 exact hx
theorem Go.made(g:`h)(hx:H x=none)(hd:H dx=none)(ne:dx≠x):Go K CF CL CD CT X M (setM M x .mine) H₀ H (mkO H x dx C fs):=by
 have S:=iG (C:=C) (fs:=fs) hx hd ne
 have nM:M x=none:=by
  cases h:M x with
  |none=>rfl
  |some r=>obtain⟨o,e⟩:=g.has x r h;rw[hx]at e;cases e
 have g1:=(g.grow S).role (p:=x) (r:=.mine) (.inl nM) (g.same.free hx) ⟨_,gQ⟩ trivial
 refine⟨fun a r h=>?_,fun a h _=>?_,.of S,g1,fun _ _ ws _ h=>⟨ws,S _ _ h,`K⟩⟩
 ·rw[fV (fun z=>by rw[z,nM]at h;cases h)];exact h
 ·obtain⟨o,e⟩:=g.has a _ h;exact(S _ _ e).trans e.symm
theorem Go.RJ(g:`h)(hx:H p=none):Go K CF CL CD CT X M (setM M p .mine) H₀ H (upd H p o):=by
 have S:=same_new hx o
 have nM:M p=none:=by
  cases h:M p with
  |none=>rfl
  |some r=>obtain⟨o,e⟩:=g.has p r h;rw[hx]at e;cases e
 have g1:=(g.grow S).role (p:=p) (r:=.mine) (.inl nM) (g.same.free hx) ⟨_,upd_same⟩ trivial
 refine⟨fun a r h=>?_,fun a h _=>?_,.of S,g1,fun _ _ ws _ h=>⟨ws,S _ _ h,`K⟩⟩
 ·rw[fV (fun z=>by rw[z,nM]at h;cases h)];exact h
 ·obtain⟨o,e⟩:=g.has a _ h;exact(S _ _ e).trans e.symm
theorem Go.role{r:Role}(g:`h)(S:`N)(hx:H p=none)(hh:∃o,H' p=some o)(h:Ok1 K CF CL CD CT (setM M p r) H' p r):Go K CF CL CD CT X M (setM M p r) H₀ H H':=by
 have nM:M p=none:=by
  cases h:M p with
  |none=>rfl
  |some r=>obtain⟨o,e⟩:=g.has p r h;rw[hx]at e;cases e
 have g1:=(g.grow S).role (p:=p) (r:=r) (.inl nM) (g.same.free hx) hh h
 refine⟨fun a r h=>?_,fun a h _=>?_,.of S,g1,fun _ _ ws _ h=>⟨ws,S _ _ h,`K⟩⟩
 ·rw[fV (fun z=>by rw[z,nM]at h;cases h)];exact h
 ·obtain⟨o,e⟩:=g.has a _ h;exact(S _ _ e).trans e.symm
theorem Gh.fresh(g:`h)(hx:H p=none):M p=none:=by
 cases h:M p with
 |none=>rfl
 |some r=>obtain⟨o,e⟩:=g.has p r h;rw[hx]at e;cases e
end
section
variable(K:W.Frag)(CF CL CD CT CG CW:Addr)
def UV(H:Hp)(t:T)(x:V):Prop:=TR K H t x\/∃a dx v ts p,x=`I/\H a=some (.ins CL dx (fL v p))/\TR K H (.node ts) v/\p<ts.length/\ts.length<=8000000/\t=.node (ts.drop p)
def FV(M:Mp)(H:Hp)(t:T)(x:V):Prop:=∃a dx y z u ts,x=`I/\H a=some (.ins CF dx (fF y z))/\t=.node (u::ts)/\RV K M H u y/\RV K M H (.node ts) z
def V9:Sp:=fun vs H Q _=>∃o dx y z,vs=[.ref o,y,z]/\H o=some (.ins CF dx [])/\Q .non (upd H o (.ins CF dx (fF y z)))
def V7:Sp:=fun vs H Q _=>∃(o dx:Addr)(v:V)(p:Nat),vs=[.ref o,v,.int (p:Int)]/\H o=some (.ins CL dx [])/\Q .non (upd H o (.ins CL dx (fL v p)))
def K4:Sp:=fun vs H Q _=>∃o dx a,vs=[.ref o,`I]/\H o=some (.ins CG dx [])/\Q .non (upd H o (.ins CG dx (fG a 0)))
def K3:Sp:=fun vs H Q _=>∃o dx v,vs=[.ref o,v]/\H o=some (.ins CT dx [])/\∀W,H W=none->Q .non (upd (upd H W (.lst [])) o (.ins CT dx (fT v W)))
def Ue:Sp:=fun vs H Q _=>∃x t M H₀,vs=[x]/\`h/\RV K M H t x/\t.deep<=400/\∀y H',`N->RV K M H' (ats t.kids 0) y->Q y H'
def aaY:Sp:=fun vs H Q _=>∃(x:V)(ts:`D)(p:Nat)(M:Mp)(H₀:Hp),vs=[x,.int (p:Int)]/\`h/\TR K H (.node ts) x/\ts.length<=8000000/\∀y M' H',`N->Go K CF CL CD CT (fun _=>False) M M' H₀ H H'->RV K M' H' (.node (ts.drop p)) y->Q y H'
def V1:Sp:=fun vs H Q _=>∃x t M H₀,vs=[x]/\`h/\RV K M H t x/\t.deep<=400/\t.kids.length<=8000000/\∀y M' H',`N->Go K CF CL CD CT (fun _=>False) M M' H₀ H H'->RV K M' H' (aL t) y->Q y H'
def VP:Sp:=fun vs H Q _=>∃x t,vs=[x]/\UV K CL H t x/\∀y H',`N->TR K H' t y->Q y H'
def V3:Sp:=fun vs H Q _=>∃(x:V)(t:T)(M:Mp)(H₀:Hp)(m:Nat),vs=[x,.int (m:Int)]/\`h/\RV K M H t x/\t.parts<=8000000/\∀(c:Nat)H',`N->(t.parts<=m->c=t.parts)->(m<t.parts->m<c)->Q (.int (c:Int)) H'
def Wa:Sp:=fun vs H Q _=>∃x t M H₀,vs=[x]/\`h/\RV K M H t x/\t.parts<=8000000/\∀y H',`N->TR K H' t y->Q y H'
end
section
variable{K:W.Frag}{CF CL CD CT CG CW:Addr}{M M':Mp}{H₀ H H':Hp}
theorem uJ{t:T}{x:V}(h:TR K H t x):∃b ys,x=.ref b/\SqT K H b ys/\TRs K H t.kids ys:=by
 cases t with
 |node ts=>exact cB.mp h
theorem RV.cases{t:T}{x:V}(g:`h)(h:RV K M H t x):UV K CL H t x\/FV K CF M H t x:=by
 rcases h with h|⟨a,rfl,h⟩
 ·exact .inl (.inl h)
 ·rcases g.ok a _ h with⟨dx,y,z,u,ts,h1,h2,h3,h4⟩|⟨dx,v,ts,p,h1,h2,h3,h4,h5⟩
  ·exact .inr ⟨a,dx,y,z,u,ts,rfl,h1,h2,h3,h4⟩
  ·exact .inl (.inr ⟨a,dx,v,ts,p,rfl,h1,h2,h3,h4,h5⟩)
def WPW(K:W.Frag)(M:Mp)(H:Hp)(x:V)(m n:Nat)(p:Addr):Nat->Sg->`M:=fun μ σ H'=>∃(ys:`E)(ts:`D)(c:Nat)(o:Option V),
 σ=[some x,some (.int (m:Int)),some (.ref p),some (.int (c:Int)),o]/\`N/\H' p=some (.lst ys)/\aO (RV K M H') ts.reverse ys/\c+T.aN ts=n/\μ=2*T.aN ts-ts.length
theorem fH{ts:`D}{ys:`E}(k:Kt H H')(h:aO (RV K M H) ts ys):aO (RV K M H') ts ys:=h.imp fun _ _ z=>z.mono k fun _ _ y=>y
theorem QF:∀{ts:`D}{ys:`E},TRs K H ts ys->aO (RV K M H) ts ys
 |[],_,h=>by rw[bH.mp h];exact .nil
 |t::ts,_,h=>by
  obtain⟨x,r,rfl,h1,h2⟩:=cD.mp h
  exact .cons (.inl h1) (QF h2)
theorem all_nil{α β:Type}{R:α->β->Prop}{ts:List α}(h:aO R ts.reverse []):ts=[]:=by
 have:=h.length
 rw[List.length_reverse]at this
 exact List.length_eq_zero_iff.mp (by simpa using this.symm)
theorem lQ{α β:Type}{R:α->β->Prop}{ts:List α}{ys:List β}(h:aO R ts.reverse ys)(hne:ys≠[]):∃u ts0 ys0 y,ts=u::ts0/\ys=ys0++[y]/\aO R ts0.reverse ys0/\R u y:=by
 cases ts with
 |nil=>exact absurd (by cases h;rfl) hne
 |cons u ts0=>
  rw[List.reverse_cons]at h
  obtain⟨ys0,y,rfl,h1,h2⟩:=aO.snoc h
  exact⟨u,ts0,ys0,y,rfl,rfl,h1,h2⟩
theorem lA{α:Type}(xs:List α)(y:α):(xs++[y])[(xs++[y]).length-1]?=some y:=`G
theorem lB{α:Type}(xs:List α)(y:α):(xs++[y]).dropLast=xs:=`G
theorem ae1{α β:Type}{R:α->β->Prop}{ts:List α}{ys:List β}(h:aO R ts.reverse ys)(hne:ys≠[]):∃u ts0 y,ts=u::ts0/\ys[ys.length-1]?=some y/\aO R ts0.reverse ys.dropLast/\R u y:=by
 obtain⟨u,ts0,ys0,y,rfl,rfl,h1,h2⟩:=lQ h hne
 exact⟨u,ts0,y,rfl,lA _ _,by rw[lB];exact h1,h2⟩
theorem Ds:∀ts:`D,T.aN ts.reverse=T.aN ts
 |[]=>rfl
 |t::ts=>by rw[List.reverse_cons,T.bZ,Ds ts,T.aK,T.aK,T.cg];lia
structure Ki(H H':Hp):Prop where
 kt:Kt H H'
 ins:∀a C dx fs,H a=some (.ins C dx fs)->H' a=some (.ins C dx fs)
theorem Ki.of(S:`N):Ki H H':=⟨.of S,fun a _ _ _ h=>S _ _ h⟩
theorem Ki.lst{p:Addr}{ys:`E}{o:HO}(h:H p=some (.lst ys)):Ki H (upd H p o):=⟨Kt.lst h,fun a _ _ _ e=>by rw[upd_ne (fun z=>by rw[z,h]at e;cases e)];exact e⟩
theorem UV.mono{t:T}{x:V}(k:Ki H H')(h:UV K CL H t x):UV K CL H' t x:=by
 rcases h with h|⟨a,dx,v,ts,p,h1,h2,h3,h4,h5,h6⟩
 ·exact .inl (h.mono k.kt)
 ·exact .inr ⟨a,dx,v,ts,p,h1,k.ins _ _ _ _ h2,h3.mono k.kt,h4,h5,h6⟩
theorem UV.akl{t:T}{x:V}(O:Own K CF CL CD CT CG CW)(h:UV K CL H t x):(∃ty,TyOf K H x ty/\W.kitOne K ty (.ref CF)=some false)\/(∃a ys,x=`I/\SqT K H a ys/\W.kitOne K `a (.ref CF)=some false):=by
 rcases h with h|⟨a,dx,v,ts,p,rfl,h2,_⟩
 ·obtain⟨b,ys,rfl,hb,_⟩:=uJ h
  exact .inr ⟨b,ys,rfl,hb,O.iTF⟩
 ·exact .inl ⟨_,O.rL.ty h2,O.iLF⟩
theorem dY{n:Nat}(h:n<16000000):n<sizeLine:=Nat.lt_of_lt_of_le h `B
end
def CP:List `D->`D->T
 |[l],r::_=>.node (l++r.kids)
 |l::l'::ls,r::rs=>CP ((l'++[.node (l++r.kids)])::ls) rs
 |_,_=>leaf
theorem afu(l:`D)(ls:List `D)(u:T)(ts:`D)(rs:`D):CP ([]::l::ls) (u::.node ts::rs)=CP (l::ls) (.node (u::ts)::rs):=by
 rw[CP]
 have e:T.node ([]++u.kids)=u:=by cases u;rfl
 rw[e]
 cases ls with
 |nil=>
  show T.node ((l++[u])++ts)=T.node (l++(u::ts))
  rw[List.append_assoc];rfl
 |cons l' ls=>
  rw[CP,CP]
  have:(l++[u])++(T.node ts).kids=l++(T.node (u::ts)).kids:=by
   show(l++[u])++ts=l++(u::ts)
   rw[List.append_assoc];rfl
  rw[this]
structure AsT(K:W.Frag)(H₀ H:Hp)(R P:Addr)(ys:`E)(st:List `D)(zs:`E):Prop where
 rows:qw K H₀ H R st ys
 pn:H₀ P=none
 at_:H P=some (.lst zs)
 np:(.ref P:V)∉(.ref R:V)::ys
section
variable{K:W.Frag}{H₀ H H':Hp}{R P:Addr}{ys zs zs':`E}{st:List `D}
theorem AsT.grow(h:AsT K H₀ H R P ys st zs)(S:`N):AsT K H₀ H' R P ys st zs:=⟨Uj h.rows S,h.pn,S _ _ h.at_,h.np⟩
theorem AsT.PR(h:AsT K H₀ H R P ys st zs):P≠R:=fun z=>h.np (by rw[z];exact List.mem_cons_self)
theorem AsT.place(h:AsT K H₀ H R P ys st zs):AsT K H₀ (upd H P (.lst zs')) R P ys st zs':=⟨GD h.rows (Kt.lst h.at_) h.pn h.np,h.pn,upd_same,h.np⟩
theorem AsT.enter(h:AsT K H₀ H R P ys st zs){q:Addr}(hq:H q=none):AsT K H₀ (upd (upd H q (.lst [])) R (.lst (ys++[.ref q]))) R P (ys++[.ref q]) ([]::st) zs:=by
 have nPq:P≠q:=ne_of_none h.at_ hq
 refine⟨GC h.rows hq,h.pn,?_,fun z=>?_⟩
 ·rw[upd_ne h.PR,upd_ne nPq];exact h.at_
 ·rcases List.mem_cons.mp z with z|z
  ·exact h.PR (V.ref.inj z)
  ·rcases List.mem_append.mp z with z|z
   ·exact h.np (List.mem_cons_of_mem _ z)
   ·exact nPq (V.ref.inj (List.mem_singleton.mp z))
theorem AsT.add{r:`D}{rs:List `D}{t:T}{x:V}(h:AsT K H₀ H R P ys (r::rs) zs)(ht:TR K H t x):
  ∃(ys0:`E)(a:Addr)(xs:`E),ys=ys0++[`I]/\H a=some (.lst xs)/\xs.length=r.length/\AsT K H₀ (upd H a (.lst (xs++[x]))) R P ys ((r++[t])::rs) zs:=by
 have hr:=h.rows.rows
 rw[List.reverse_cons]at hr
 obtain⟨ys0,y,rfl,h1,a,xs,rfl,ha0,ha,hta⟩:=aO.snoc hr
 have nd:=h.rows.nd
 have ndp:=(List.nodup_cons.mp nd).1
 have ndy:=(List.nodup_cons.mp nd).2
 have na:(`I:V)∉ys0:=fun z=>(List.nodup_append.mp ndy).2.2 _ z _ `G rfl
 have nRa:R≠a:=fun z=>ndp (by rw[z];simp)
 have nPa:P≠a:=fun z=>h.np (by rw[z];simp)
 have k:=Kt.lst (o:=.lst (xs++[x])) ha
 refine⟨ys0,a,xs,rfl,ha,hta.length,⟨h.rows.new,bN h.rows.same ha0,by rw[upd_ne nRa];exact h.rows.at_,?_,nd⟩,h.pn,by rw[upd_ne nPa];exact h.at_,h.np⟩
 rw[List.reverse_cons]
 exact aO.append (jN k h1 na) (aO.one ⟨a,_,rfl,ha0,upd_same,TRs.append (hta.mono k) (jE (ht.mono k))⟩)
theorem AsT.shut{r:`D}{rs:List `D}(h:AsT K H₀ H R P ys (r::rs) zs):
  ∃(ys0:`E)(a:Addr)(xs:`E),ys=ys0++[`I]/\R≠a/\H a=some (.lst xs)/\TRs K H r xs/\AsT K H₀ (upd H R (.lst ys0)) R P ys0 rs zs:=by
 have hr:=h.rows.rows
 rw[List.reverse_cons]at hr
 obtain⟨ys0,y,rfl,h1,a,xs,rfl,ha0,ha,hta⟩:=aO.snoc hr
 have nd:=h.rows.nd
 have ndp:=(List.nodup_cons.mp nd).1
 have ndy:=(List.nodup_cons.mp nd).2
 have nRa:R≠a:=fun z=>ndp (by rw[z];simp)
 have k:=Kt.lst (o:=.lst ys0) h.rows.at_
 refine⟨ys0,a,xs,rfl,nRa,ha,hta,⟨h.rows.new,bN h.rows.same h.rows.new,upd_same,jN k h1 fun z=>ndp (by simp[z]),List.nodup_cons.mpr ⟨fun z=>ndp (by simp[z]),(List.nodup_append.mp ndy).1⟩⟩,h.pn,by rw[upd_ne h.PR];exact h.at_,fun z=>h.np ?_⟩
 rcases List.mem_cons.mp z with z|z
 ·rw[z];exact List.mem_cons_self
 ·exact List.mem_cons_of_mem _ (List.mem_append_left _ z)
theorem aiZ{α:Type}(xs:List α)(y:α):ixN (xs++[y]).length (-1)=some xs.length:=by
 unfold ixN
 have hl:(xs++[y]).length=xs.length+1:=`G
 rw[if_neg `B,if_pos (by rw[hl];lia),hl,show((-1:Int)+((xs.length+1:Nat):Int)).toNat=xs.length by lia]
theorem afM{α:Type}(xs:List α)(y z:α):(xs++[y]).set xs.length z=xs++[z]:=`G
end
def rT(k:Nat)(t:T):Nat:=if k=7 then(if t.kids=[]then 8 else 7)else if k=8 then(if t.kids=[]then 10 else 9)else if k=9 then 11 else k
section
variable(K:W.Frag)(CF CL CD CT CG CW:Addr)
def aaW:Sp:=fun vs H Q _=>∃(k:Nat)(x:V)(t:T)(M:Mp)(H₀:Hp),vs=[.int (k:Int),x]/\`h/\RV K M H t x/\t.deep<=400/\∀H',`N->Q (.int (rT k t:Nat)) H'
def W7(M:Mp)(w:T)(y n:V):Prop:=aD w=7->∃ay an,y=.ref ay/\n=.ref an/\vR M ay (ats (aL w).kids 0)/\vR M an (aL (aL w))
def W8(M:Mp)(w:T)(b:V):Prop:=aD w=8->∃ab,b=.ref ab/\vR M ab (aL w)
def VN:Sp:=fun vs H Q _=>∃(o dx:Addr)(x:V)(w:T)(M:Mp)(H₀:Hp),vs=[.ref o,x]/\`h/\M o=some .mine/\H o=some (.ins CD dx [])/\TR K H w x/\w.deep<=400/\
 ∀M' H' v y n b,Go K CF CL CD CT (fun a=>a=o) M M' H₀ H H'->(∀c u,H c=some u->c≠o->H' c=some u)->H' o=some (.ins CD dx (fD (aD w) v y n b .non))->TR K H' (aL w) v->W7 M' w y n->W8 M' w b->Q .non H'
def aa1:Sp:=fun vs H Q _=>∃(b:Addr)(w:T)(M:Mp)(H₀:Hp),vs=[.ref b]/\`h/\M b=some (.word w)/\(aL w).parts<=8000000/\∀H',Go K CF CL CD CT (fun _=>False) M M H₀ H H'->Q (.int ((aL w).parts:Nat)) H'
def VJ:Sp:=fun vs H Q _=>∃(a:Addr)(t:T)(W:Addr)(p:Nat)(M:Mp)(H₀:Hp)(ws:`E),vs=[`I,.int (p:Int)]/\`h/\M a=some (.text t W)/\H W=some (.lst ws)/\p<=ws.length/\p<=t.kids.length/\t.deep<=400/\t.kids.length<=8000000/\
 (p=t.kids.length->Q .non H)/\∀w,t.kids[p]?=some w->∀b M' H',Go K CF CL CD CT (fun _=>False) M M' H₀ H H'->M' b=some (.word w)->(∀ws',H' W=some (.lst ws')->p+1<=ws'.length)->Q (.ref b) H'
end
section
variable{K:W.Frag}{CF CL CD CT CG CW:Addr}{M M' M'':Mp}{H₀ H H' H1:Hp}{X:Addr->Prop}
theorem Go.n8{p:Addr}{u:HO}(a:Go K CF CL CD CT X M M' H₀ H H1)(hm:M' p=some .mine)(hX:X p)(k:Kt H1 (upd H1 p u)):Go K CF CL CD CT X M M' H₀ H (upd H1 p u):=
 ⟨a.ext,fun q h x=>by rw[upd_ne (fun z:q=p=>x (by rw[z];exact hX))];exact a.mine q h x,a.kt.trans k,a.gh.mut hm k,fun W t ws h1 h2=>by
  obtain⟨ws',e,l⟩:=a.wds W t ws h1 h2
  have nW:W≠p:=fun z=>by have:=a.ext _ _ h1;rw[z,hm]at this;cases this
  exact⟨ws',by rw[upd_ne nW];exact e,l⟩⟩
theorem Go.newText{a da W:Addr}{t:T}{v:V}(g:`h)(tv:TR K H t v)(ha:H a=none)(hd:H da=none)(ne:da≠a)(hW:mkO H a da CT [] W=none):
  Go K CF CL CD CT X M (setM (setM M W (.words t)) a (.text t W)) H₀ H (upd (upd (mkO H a da CT []) W (.lst [])) a (.ins CT da (fT v W)))/\Same H (upd (upd (mkO H a da CT []) W (.lst [])) a (.ins CT da (fT v W)))/\vR (setM (setM M W (.words t)) a (.text t W)) a t:=by
 have S1:=iG (C:=CT) (fs:=[]) ha hd ne
 have hW0:H W=none:=S1.free hW
 have naW:a≠W:=fun z=>by rw[<-z,gQ]at hW;cases hW
 have S2:=S1.trans (same_new hW (.lst []))
 have S3:Same H (upd (upd (mkO H a da CT []) W (.lst [])) a (.ins CT da (fT v W))):=bN S2 ha
 have hWl:upd (upd (mkO H a da CT []) W (.lst [])) a (.ins CT da (fT v W)) W=some (.lst []):=by rw[upd_ne (Ne.symm naW),upd_same]
 have nMa:=g.fresh ha
 have nMW:=g.fresh hW0
 have g1:Gh K CF CL CD CT (setM M W (.words t)) H₀ (upd (upd (mkO H a da CT []) W (.lst [])) a (.ins CT da (fT v W))):=
  (g.grow S3).role (p:=W) (.inl nMW) (g.same.free hW0) ⟨_,hWl⟩ ⟨[],hWl,`W,fun j x h=>by simp at h⟩
 have g2:Gh K CF CL CD CT (setM (setM M W (.words t)) a (.text t W)) H₀ (upd (upd (mkO H a da CT []) W (.lst [])) a (.ins CT da (fT v W))):=
  g1.role (p:=a) (.inl (by rw[fV naW];exact nMa)) (g.same.free ha) ⟨_,upd_same⟩ ⟨da,v,upd_same,tv.mono (.of S3),by rw[fV (Ne.symm naW),dD]⟩
 refine⟨⟨fun p r h=>?_,fun p h _=>?_,.of S3,g2,fun _ _ ws _ h=>⟨ws,S3 _ _ h,`K⟩⟩,S3,W,dD⟩
 ·rw[fV (fun z=>by rw[z,nMa]at h;cases h),fV (fun z=>by rw[z,nMW]at h;cases h)];exact h
 ·obtain⟨o,e⟩:=g.has p _ h;exact(S3 _ _ e).trans e.symm
theorem vR.ext{a:Addr}{t:T}(h:vR M a t)(G:Go K CF CL CD CT X M M' H₀ H H'):vR M' a t:=by obtain⟨W,e⟩:=h;exact⟨W,G.ext _ _ e⟩
def d1(k:V):`c:=[("kind",k)]
def d2(k v:V):`c:=[("kind",k),("load",v)]
def d3(k v y:V):`c:=[("kind",k),("load",v),("yes",y)]
def d4(k v y n:V):`c:=[("kind",k),("load",v),("yes",y),("no",n)]
def d5(k v y n b:V):`c:=[("kind",k),("load",v),("yes",y),("no",n),("body",b)]
theorem pd1(k:V):putF "kind" k []=d1 k:=rfl
theorem pd2(k v:V):putF "load" v (d1 k)=d2 k v:=by unfold d1 d2;rw[bL `C];rfl
theorem pd3(k v y:V):putF "yes" y (d2 k v)=d3 k v y:=by unfold d2 d3;rw[bL `C,bL `C];rfl
theorem pd4(k v y n:V):putF "no" n (d3 k v y)=d4 k v y n:=by unfold d3 d4;rw[bL `C,bL `C,bL `C];rfl
theorem pd5(k v y n b:V):putF "body" b (d4 k v y n)=d5 k v y n b:=by unfold d4 d5;rw[bL `C,bL `C,bL `C,bL `C];rfl
theorem pd6(k:Nat)(v y n b z:V):putF "size" z (d5 (.int (k:Int)) v y n b)=fD k v y n b z:=by unfold d5 fD;rw[bL `C,bL `C,bL `C,bL `C,bL `C];rfl
variable{k:Nat}{v y n b z u:V}
theorem pdY:putF "yes" u (fD k v y n b z)=fD k v u n b z:=by unfold fD;rw[bL `C,bL `C,wO]
theorem pdN:putF "no" u (fD k v y n b z)=fD k v y u b z:=by unfold fD;rw[bL `C,bL `C,bL `C,wO]
theorem pdB:putF "body" u (fD k v y n b z)=fD k v y n u z:=by unfold fD;rw[bL `C,bL `C,bL `C,bL `C,wO]
theorem pdS:putF "size" u (fD k v y n b z)=fD k v y n b u:=by unfold fD;rw[bL `C,bL `C,bL `C,bL `C,bL `C,wO]
theorem ldK:(fD k v y n b z).lookup ("kind":Str)=some (.int (k:Int)):=dM _ _ _
theorem ldL:(fD k v y n b z).lookup ("load":Str)=some v:=(cG `C _ _).trans (dM _ _ _)
theorem ldY:(fD k v y n b z).lookup ("yes":Str)=some y:=(cG `C _ _).trans ((cG `C _ _).trans (dM _ _ _))
theorem ldN:(fD k v y n b z).lookup ("no":Str)=some n:=(cG `C _ _).trans ((cG `C _ _).trans ((cG `C _ _).trans (dM _ _ _)))
theorem ldB:(fD k v y n b z).lookup ("body":Str)=some b:=(cG `C _ _).trans ((cG `C _ _).trans ((cG `C _ _).trans ((cG `C _ _).trans (dM _ _ _))))
theorem ldS:(fD k v y n b z).lookup ("size":Str)=some z:=(cG `C _ _).trans ((cG `C _ _).trans ((cG `C _ _).trans ((cG `C _ _).trans ((cG `C _ _).trans (dM _ _ _)))))
theorem apC{m:Str}(h1:(m=="kind")=false)(h2:(m=="load")=false)(h3:(m=="yes")=false)(h4:(m=="no")=false)(h5:(m=="body")=false)(h6:(m=="size")=false):(fD k v y n b z).lookup m=none:=
 (cG h1 _ _).trans ((cG h2 _ _).trans ((cG h3 _ _).trans ((cG h4 _ _).trans ((cG h5 _ _).trans ((cG h6 _ _).trans rfl)))))
theorem abl{CG CW:Addr}{m:Nat}(O:Own K CF CL CD CT CG CW)(g:`h){t:T}{x:V}{p:Addr}(hx:RV K M H t x)(hd:t.deep<=m)(hp:H p=none){Q:VK}(q:Q (.bl (decide (t.kids=[]))) (upd H p (.tup []))):ad5 K m x (.ref p) (upd H p (.tup [])) Q:=by
 have S:=same_new hp (.tup [])
 rcases hx.cases g with h|⟨a,dx,y,z,u,ts,rfl,ha,rfl,_,_⟩
 ·rcases h with h|⟨a,dx,v,ts,j,rfl,ha,_,hj,_,rfl⟩
  ·refine .inl ⟨t,.node [],h.mono (.of S),(dJ (K:=K) (ts:=[]) hp (bH.mpr rfl)).2,hd,?_⟩
   have e:T.beq t (.node [])=decide (t.kids=[]):=by
    by_cases z:t.kids=[]
    ·rw[decide_eq_true z]
     exact(T.beq_iff _ _).mpr (by cases t;exact congrArg T.node z)
    ·rw[decide_eq_false z]
     exact Bool.eq_false_iff.mpr fun y=>z (by rw[(T.beq_iff _ _).mp y];rfl)
   rw[e]
   exact q
  ·refine .inr ⟨a,CL,dx,_,p,[],rfl,S _ _ ha,O.rL,rfl,upd_same,?_⟩
   have z:¬(T.node (ts.drop j)).kids=[]:=fun z=>by
    have:(ts.drop j).length=0:=by rw[show ts.drop j=[]from z];rfl
    rw[List.length_drop]at this
    lia
   rw[<-decide_eq_false z]
   exact q
 ·refine .inr ⟨a,CF,dx,_,p,[],rfl,S _ _ ha,O.rF,rfl,upd_same,?_⟩
  have z:¬(T.node (u::ts)).kids=[]:=fun z=>by cases z
  rw[<-decide_eq_false z]
  exact q
theorem acH{tc:TT}{tb u:TS}{D:Ends}{σ:L2.St}{H:Hp}(P:L2.St->`M)(k:∀σ' H',P σ' H'->u D σ' H')
  (h:∀A B:`M,(∀H1,(∀N:L2.St->`M,(∀σ' H',P σ' H'->N σ' H')->tb {D with nx:=N} σ H1)->A H1)->(∀H1,P σ H1->B H1)->tc σ H (fun b H1=>if b=true then A H1 else B H1)):
  tSeq (tIfS tc tb tNext) u D σ H:=
 h (fun H1=>tb {D with nx:=u D} σ H1) (fun H1=>tNext {D with nx:=u D} σ H1) (fun H1 r=>r _ k) (fun H1 p=>k _ _ p)
theorem Uz{t:T}:∀{ts:`D},t∈ts->t.deep+1<=T.bF ts
 |u::us,h=>by
  rw[T.bf]
  rcases List.mem_cons.mp h with rfl|h
  ·lia
  ·have:=Uz h;lia
theorem ag0{t w:T}{p:Nat}(h:t.kids[p]?=some w):w.deep+1<=t.deep:=by
 cases t with
 |node ts=>
  rw[T.bC]
  exact Uz (List.mem_of_getElem? h)
theorem acQ(ts:`D)(k:Nat):T.bF (ts.drop k)<=T.bF ts:=by
 have:T.bF ts=max (T.bF (ts.take k)) (T.bF (ts.drop k)):=by rw[<-T.oE,List.take_append_drop]
 lia
theorem aeI(w:T):(aL w).deep<=w.deep:=by
 cases w with
 |node ts=>
  show(T.node (ts.drop 1)).deep<=_
  rw[T.bC,T.bC]
  exact acQ ts 1
end
section
variable(K:W.Frag)(CF CL CD CT CG CW:Addr)
def adQ:Sp:=fun vs H Q _=>∃(k:Nat)(y:V)(S:Addr)(l:T)(s:`D)(rows:`E)(M:Mp)(H₀:Hp),vs=[.int (k:Int),y,.ref S]/\`h/\M S=some .mine/\H S=some (.lst rows)/\aO (RV K M H) s.reverse rows/\TR K H l y/\looks k<=s.length/\B 395 8000010 (.node s)/\(∀t∈s,t.kids.length<=8000000)/\
 ∀M' H' rows',Go K CF CL CD CT (fun a=>a=S) M M' H₀ H H'->H' S=some (.lst rows')->aO (RV K M' H') (rJ k l s).reverse rows'->Q .non H'
def oU(M:Mp)(H:Hp)(t:T)(x:V):Prop:=∃g dx a W p tt,x=.ref g/\M g=some .mine/\H g=some (.ins CG dx (fG a p))/\M a=some (.text tt W)/\p<=tt.kids.length/\(∃ws,H W=some (.lst ws)/\p<=ws.length)/\t=.node (tt.kids.drop p)/\B 389 8000000 tt
structure WkX(M:Mp)(H₀ H:Hp)(o dx G S N:Addr)(gs rows:`E)(tx s:`D)(num:`F)(b:Nat):Prop where
 gh:`h
 ob:H o=some (.ins CW dx (fW G S N b))
 mo:M o=some .mine
 mG:M G=some .mine
 mS:M S=some .mine
 mN:M N=some .mine
 hG:H G=some (.lst gs)
 hS:H S=some (.lst rows)
 hN:H N=some (.lst (num.map nv))
 gos:aO (oU CG M H) tx.reverse gs
 sts:aO (RV K M H) s.reverse rows
 n15:num.length=15
 dGS:G≠S
 dGN:G≠N
 dSN:S≠N
 nd:gs.Nodup
def Wk(M:Mp)(H₀ H:Hp)(o:Addr)(tx s:`D)(num:`F)(b:Nat):Prop:=∃dx G S N gs rows,WkX K CF CL CD CT CG CW M H₀ H o dx G S N gs rows tx s num b
def QX:Sp:=fun vs H Q _=>∃o M H₀ tx s num b,vs=[.ref o]/\Wk K CF CL CD CT CG CW M H₀ H o tx s num b/\Q (.bl (decide (tx=[]))) H
def abU:Sp:=fun vs H Q _=>∃o M H₀ tx s num b,vs=[.ref o]/\Wk K CF CL CD CT CG CW M H₀ H o tx s num b/\∀x H',`N->RV K M H' (ats s 0) x->Q x H'
def QM:Sp:=fun vs H Q _=>∃o M H₀ tx s num b,vs=[.ref o]/\Wk K CF CL CD CT CG CW M H₀ H o tx s num b/\∀c H',`N->SqT K H' c (num.map nv)->Q (.ref c) H'
def VL:Sp:=fun vs H Q _=>∃(o dx:Addr)(x:V)(tx s:`D)(b:Nat)(M:Mp)(H₀:Hp),vs=[.ref o,x,.int (b:Int)]/\`h/\M o=some .mine/\H o=some (.ins CW dx [])/\TR K H (ab5 tx s) x/\BX tx/\B 390 8000000 (.node s)/\∀M' H',Wk K CF CL CD CT CG CW M' H₀ H' o tx s fQ b->Q .non H'
def MvT(k:Nat)(w:T)(ws:`D)(rest sp:`D)(num:`F)(tx' s':`D)(kh:`F):Prop:=
 (k=9/\aD w=8/\tx'=aL w::.node (w::ws)::rest/\s'=sp/\kh=num.set 14 (num.getD 14 0+(aL w).parts))\/
 (k=7/\aD w=7/\tx'=ats (aL w).kids 0::.node ws::rest/\s'=sp/\kh=num)\/
 (k=8/\aD w=7/\tx'=aL (aL w)::.node ws::rest/\s'=sp/\kh=num)\/
 ((k<=6\/k=10\/k=11)/\tx'=.node ws::rest/\s'=rJ k (aL w) sp/\kh=num)
def Rdy(M:Mp)(H:Hp)(g:Addr)(w:T)(ws:`D):Prop:=∃dg a W j tt wl,M g=some .mine/\H g=some (.ins CG dg (fG a j))/\M a=some (.text tt W)/\H W=some (.lst wl)/\j+1<=wl.length/\tt.kids.drop j=w::ws/\B 389 8000000 tt
def adT:Sp:=fun vs H Q _=>∃(o dx G S N:Addr)(gs0:`E)(g:Addr)(rows:`E)(p:T)(rest sp:`D)(num:`F)(b k:Nat)(wv:V)(M:Mp)(H₀:Hp),vs=[.ref o,.int (k:Int),.ref g,wv]/\WkX K CF CL CD CT CG CW M H₀ H o dx G S N (gs0++[.ref g]) rows (p::rest) sp num b/\looks k<=sp.length/\B 395 8000010 (.node sp)/\(∀t∈sp,t.kids.length<=8000000)/\rest.length<=8000000/\
 ((k=12/\∀M' H',Wk K CF CL CD CT CG CW M' H₀ H' o rest sp num b->Q .non H')\/∃w ws bw tx' s' kh,p=.node (w::ws)/\wv=.ref bw/\M bw=some (.word w)/\Rdy CG M H g w ws/\MvT k w ws rest sp num tx' s' kh/\BX tx'/\(aL w).parts<=8000000/\∀M' H',Wk K CF CL CD CT CG CW M' H₀ H' o tx' s' kh b->Q .non H')
def aaR:Sp:=fun vs H Q _=>∃o M H₀ tx s num b,vs=[.ref o]/\Wk K CF CL CD CT CG CW M H₀ H o tx s num b/\tx≠[]/\BX tx/\B 390 8000000 (.node s)/\(bD tx s<=b->BX (onward tx s).1/\B 390 8000000 (.node (onward tx s).2.1))/\
 (b<bD tx s->∀M' H',Wk K CF CL CD CT CG CW M' H₀ H' o tx s num b->Q (.bl false) H')/\
 (bD tx s<=b->∀M' H',Wk K CF CL CD CT CG CW M' H₀ H' o (onward tx s).1 (onward tx s).2.1 (eG num (lW tx s)) (b-bD tx s)->Q (.bl true) H')
end
section
variable{K:W.Frag}{CF CL CD CT CG CW:Addr}{M M':Mp}{H₀ H H':Hp}{X:Addr->Prop}
theorem oU.go{t:T}{x:V}(G:Go K CF CL CD CT X M M' H₀ H H')(hX:∀g,x=.ref g->¬X g)(g0:`h)(h:oU CG M H t x):oU CG M' H' t x:=by
 obtain⟨g,dx,a,W,p,tt,rfl,h1,h2,h3,h4,⟨ws,h5,h6⟩,h7,h8⟩:=h
 obtain⟨_,_,_,_,h9⟩:=g0.ok a _ h3
 obtain⟨ws',e1,e2⟩:=G.wds W _ ws h9 h5
 exact⟨g,dx,a,W,p,tt,rfl,G.ext _ _ h1,(G.mine g h1 (hX g rfl)).trans h2,G.ext _ _ h3,h4,⟨ws',e1,`A⟩,h7,h8⟩
variable{o dx G S N:Addr}{gs rows:`E}{tx s:`D}{num:`F}{b:Nat}
theorem WkX.go(w:WkX K CF CL CD CT CG CW M H₀ H o dx G S N gs rows tx s num b)(g:Go K CF CL CD CT (fun _=>False) M M' H₀ H H'):WkX K CF CL CD CT CG CW M' H₀ H' o dx G S N gs rows tx s num b:=
 ⟨g.gh,(g.mine o w.mo id).trans w.ob,g.ext _ _ w.mo,g.ext _ _ w.mG,g.ext _ _ w.mS,g.ext _ _ w.mN,(g.mine G w.mG id).trans w.hG,(g.mine S w.mS id).trans w.hS,(g.mine N w.mN id).trans w.hN,w.gos.imp fun _ _ h=>h.go g (fun _ _=>id) w.gh,w.sts.imp fun _ _ h=>g.rv h,w.n15,w.dGS,w.dGN,w.dSN,w.nd⟩
theorem WkX.grow(w:WkX K CF CL CD CT CG CW M H₀ H o dx G S N gs rows tx s num b)(S1:`N):WkX K CF CL CD CT CG CW M H₀ H' o dx G S N gs rows tx s num b:=w.go (.grow w.gh S1)
variable{A B C:Addr}{c:Nat}
theorem lwG:(fW A B C c).lookup ("goings":Str)=some (.ref A):=dM _ _ _
theorem lwS:(fW A B C c).lookup ("stack":Str)=some (.ref B):=(cG `C _ _).trans (dM _ _ _)
theorem lwN:(fW A B C c).lookup ("numbers":Str)=some (.ref C):=(cG `C _ _).trans ((cG `C _ _).trans (dM _ _ _))
theorem lwL:(fW A B C c).lookup ("left":Str)=some (.int (c:Int)):=(cG `C _ _).trans ((cG `C _ _).trans ((cG `C _ _).trans (dM _ _ _)))
theorem DP{m:Str}(h1:(m=="goings")=false)(h2:(m=="stack")=false)(h3:(m=="numbers")=false)(h4:(m=="left")=false):(fW A B C c).lookup m=none:=(cG h1 _ _).trans ((cG h2 _ _).trans ((cG h3 _ _).trans ((cG h4 _ _).trans rfl)))
theorem pwL(d:Nat):putF "left" (.int (d:Int)) (fW A B C c)=fW A B C d:=by unfold fW;rw[bL `C,bL `C,bL `C,wO]
theorem lgT{a:Addr}{p:Nat}:(fG a p).lookup ("text":Str)=some `I:=dM _ _ _
theorem lgP{a:Addr}{p:Nat}:(fG a p).lookup ("place":Str)=some (.int (p:Int)):=(cG `C _ _).trans (dM _ _ _)
theorem pgP{a:Addr}{p q:Nat}:putF "place" (.int (q:Int)) (fG a p)=fG a q:=by unfold fG;rw[bL `C,wO]
theorem apB{v:V}{W:Addr}{m:Str}(h1:(m=="tree")=false)(h2:(m=="words")=false):(fT v W).lookup m=none:=(cG h1 _ _).trans ((cG h2 _ _).trans rfl)
theorem Iz{α β:Type}{R:α->β->Prop}{ts:List α}{ys:List β}(h:aO R ts.reverse ys)(hl:2<=ts.length):∃a b ts0 ys0 y z,ts=a::b::ts0/\ys=ys0++[z]++[y]/\aO R ts0.reverse ys0/\R a y/\R b z:=by
 have hyl:=h.length
 rw[List.length_reverse]at hyl
 obtain⟨a,ts1,ys1,y,rfl,rfl,h1,h2⟩:=lQ h (by rintro rfl;simp at hyl;lia)
 have X5:=h1.length
 rw[List.length_reverse]at X5
 simp only[List.length_cons]at hl
 obtain⟨b,ts0,ys0,z,rfl,rfl,h3,h4⟩:=lQ h1 (by rintro rfl;simp at X5;lia)
 exact⟨a,b,ts0,ys0,y,z,rfl,rfl,h3,h2,h4⟩
theorem ae2{α β:Type}{R:α->β->Prop}{ts:List α}{ys:List β}(h:aO R ts.reverse ys)(hl:3<=ts.length):∃a b c ts0 ys0 y z w,ts=a::b::c::ts0/\ys=ys0++[w]++[z]++[y]/\aO R ts0.reverse ys0/\R a y/\R b z/\R c w:=by
 obtain⟨a,b,ts1,ys1,y,z,rfl,rfl,h1,h2,h3⟩:=Iz h `A
 have X5:=h1.length
 rw[List.length_reverse]at X5
 simp only[List.length_cons]at hl
 obtain⟨c,ts0,ys0,w,rfl,rfl,h4,h5⟩:=lQ h1 (by rintro rfl;simp at X5;lia)
 exact⟨a,b,c,ts0,ys0,y,z,w,rfl,rfl,h4,h2,h3,h5⟩
theorem si2{α:Type}(xs:List α)(z y:α):seqIndex? (-2) (xs++[z]++[y]).length=some xs.length:=by
 have hl:(xs++[z]++[y]).length=xs.length+2:=`G
 rw[hl]
 have:=(ixN_seq (n:=xs.length+2) (i:=-2) (j:=xs.length) (by unfold ixN;rw[if_neg `B,if_pos `A];congr 1;lia)).1
 exact this
theorem si3{α:Type}(xs:List α)(w z y:α):seqIndex? (-3) (xs++[w]++[z]++[y]).length=some xs.length:=by
 have hl:(xs++[w]++[z]++[y]).length=xs.length+3:=`G
 rw[hl]
 have:=(ixN_seq (n:=xs.length+3) (i:=-3) (j:=xs.length) (by unfold ixN;rw[if_neg `B,if_pos `A];congr 1;lia)).1
 exact this
theorem er2{α:Type}(xs:List α)(z y:α):(xs++[z]++[y]).eraseIdx xs.length=xs++[y]:=by
 rw[List.append_assoc,List.eraseIdx_append_of_length_le `K,Nat.sub_self]
 rfl
theorem er3{α:Type}(xs:List α)(w z y:α):(xs++[w]++[z]++[y]).eraseIdx xs.length=xs++[z]++[y]:=by
 rw[List.append_assoc,List.append_assoc,List.eraseIdx_append_of_length_le `K,Nat.sub_self]
 simp
theorem gt2{α:Type}(xs:List α)(z y:α):(xs++[z]++[y])[xs.length]?=some z:=`G
theorem gt3{α:Type}(xs:List α)(w z y:α):(xs++[w]++[z]++[y])[xs.length]?=some w:=`G
theorem Go.list{p:Addr}{xs ys:`E}(g:`h)(hm:M p=some .mine)(h:H p=some (.lst xs)):Go K CF CL CD CT (fun a=>a=p) M M H₀ H (upd H p (.lst ys)):=Go.n8 (.refl g) hm rfl (Kt.lst h)
end
section
variable{K:W.Frag}{H:Hp}{a:Addr}{xs:`E}{σ:Sg}{js:`F}{te:TE}{Q:VK}
theorem aiU(J:Addr->Nat->`E->`M)(hz:xs.length<=sizeLine)(h0:∀D,H D=none->J D 0 [] (upd H D (.lst [])))
  (hD:∀D i ys H',J D i ys H'->H' D=some (.lst ys)/\ys.length=i/\SqT K H' a xs)
  (hte:∀D i x ys H'(R:VK),xs.reverse[i]?=some x->J D i ys H'->(∀y H3,H3 D=some (.lst ys)->J D (i+1) (ys++[y]) (upd H3 D (.lst (ys++[y])))->R y H3)->te (some x::frv σ js) H' R)
  (q:∀D ys H',J D xs.length ys H'->Q (.ref D) H'):Fl (SwR.adf K a xs.length) js te σ Q H:=by
 intro D hDn
 refine⟨fun i m ys H'=>m=xs.length-i/\i<=xs.length/\J D i ys H',⟨xs.length,`A,`W,h0 D hDn⟩,?_⟩
 rintro i m ys H'⟨rfl,hi,hj⟩
 obtain⟨h1,h2,h3⟩:=hD D i ys H' hj
 refine⟨h1,?_⟩
 by_cases hlt:i<xs.length
 ·refine .inr ⟨⟨xs,xs.reverse[i]'(by simpa using hlt),h3,rfl,List.getElem?_eq_getElem (by simpa using hlt)⟩,fun x H2 y=>?_⟩
  obtain⟨e,y⟩:=y
  subst e
  exact hte D i x ys _ _ (y xs h3) hj fun y H3 g1 g2=>⟨g1,`A,xs.length-(i+1),`A,rfl,hlt,g2⟩
 ·have e:i=xs.length:=`A
  subst e
  exact .inl ⟨⟨xs,h3,rfl,rfl⟩,q D ys H' hj⟩
theorem afz{α:Type}{xs:List α}{i:Nat}{x:α}(h:xs[i]?=some x):xs.take (i+1)=xs.take i++[x]:=by
 rw[List.take_add_one,h]
 rfl
end
section
variable{K:W.Frag}{CF CL CD CT CG CW:Addr}{M M':Mp}{H₀ H H':Hp}{X:Addr->Prop}{o dx G S N g:Addr}{gs rows gs' rows':`E}{tx s tx' s':`D}{num kh:`F}{b:Nat}{w:T}{ws:`D}
theorem Rdy.go(G:Go K CF CL CD CT X M M' H₀ H H')(hX:¬X g)(g0:`h)(h:Rdy CG M H g w ws):Rdy CG M' H' g w ws:=by
 obtain⟨dg,a,W,j,tt,wl,h1,h2,h3,h4,h5,h6,h7⟩:=h
 obtain⟨_,_,_,_,h9⟩:=g0.ok a _ h3
 obtain⟨ws',e1,e2⟩:=G.wds W _ wl h9 h4
 exact⟨dg,a,W,j,tt,ws',G.ext _ _ h1,(G.mine g h1 hX).trans h2,G.ext _ _ h3,e1,`A,h6,h7⟩
theorem Go.apA{p:Addr}{u:HO}{H1:Hp}(a:Go K CF CL CD CT X M M' H₀ H H1)(hm:M' p=some .mine)(hn:M p≠some .mine)(k:Kt H1 (upd H1 p u)):Go K CF CL CD CT X M M' H₀ H (upd H1 p u):=
 ⟨a.ext,fun q h x=>by rw[upd_ne (fun z:q=p=>hn (by rw[<-z];exact h))];exact a.mine q h x,a.kt.trans k,a.gh.mut hm k,fun W t ws h1 h2=>by
  obtain⟨ws',e,l⟩:=a.wds W t ws h1 h2
  have nW:W≠p:=fun z=>by have:=a.ext _ _ h1;rw[z,hm]at this;cases this
  exact⟨ws',by rw[upd_ne nW];exact e,l⟩⟩
theorem oU.nl{t:T}{x:V}{p:Addr}{l:`E}(h:oU CG M H t x)(hp:H p=some (.lst l)):∀g,x=.ref g->¬g=p:=by
 obtain⟨g,dx,a,W,j,tt,rfl,_,h2,_⟩:=h
 rintro g' e rfl
 cases e
 rw[hp]at h2
 cases h2
theorem WkX.setG(w:WkX K CF CL CD CT CG CW M H₀ H o dx G S N gs rows tx s num b)(h:aO (oU CG M H) tx'.reverse gs')(nd:gs'.Nodup):WkX K CF CL CD CT CG CW M H₀ (upd H G (.lst gs')) o dx G S N gs' rows tx' s num b:=by
 have g1:Go K CF CL CD CT (fun a=>a=G) M M H₀ H (upd H G (.lst gs')):=.list w.gh w.mG w.hG
 have no:o≠G:=fun z=>by have:=w.ob;rw[z,w.hG]at this;cases this
 exact⟨g1.gh,by rw[upd_ne no];exact w.ob,w.mo,w.mG,w.mS,w.mN,upd_same,by rw[upd_ne (Ne.symm w.dGS)];exact w.hS,by rw[upd_ne (Ne.symm w.dGN)];exact w.hN,h.imp fun _ _ z=>z.go g1 (z.nl w.hG) w.gh,w.sts.imp fun _ _ z=>g1.rv z,w.n15,w.dGS,w.dGN,w.dSN,nd⟩
theorem WkX.afN(w:WkX K CF CL CD CT CG CW M H₀ H o dx G S N gs rows tx s num b)(hl:kh.length=15):WkX K CF CL CD CT CG CW M H₀ (upd H N (.lst (kh.map nv))) o dx G S N gs rows tx s kh b:=by
 have g1:Go K CF CL CD CT (fun a=>a=N) M M H₀ H (upd H N (.lst (kh.map nv))):=.list w.gh w.mN w.hN
 have no:o≠N:=fun z=>by have:=w.ob;rw[z,w.hN]at this;cases this
 exact⟨g1.gh,by rw[upd_ne no];exact w.ob,w.mo,w.mG,w.mS,w.mN,by rw[upd_ne w.dGN];exact w.hG,by rw[upd_ne w.dSN];exact w.hS,upd_same,w.gos.imp fun _ _ z=>z.go g1 (z.nl w.hN) w.gh,w.sts.imp fun _ _ z=>g1.rv z,hl,w.dGS,w.dGN,w.dSN,w.nd⟩
theorem oU.nw{t:T}{x:V}{A B C:Addr}{c:Nat}{D e:Addr}(h:oU CG M H t x)(hp:H e=some (.ins D dx (fW A B C c))):∀g,x=.ref g->¬g=e:=by
 obtain⟨g,dg,a,W,j,tt,rfl,_,h2,_⟩:=h
 rintro g' e rfl
 cases e
 rw[hp]at h2
 have h3:=HO.ins.inj (Option.some.inj h2)
 have h4:fW A B C c=fG a j:=h3.2.2
 unfold fW fG at h4
 have:=congrArg List.length h4
 simp at this
theorem WkX.am7(w:WkX K CF CL CD CT CG CW M H₀ H o dx G S N gs rows tx s num b)(c:Nat):WkX K CF CL CD CT CG CW M H₀ (upd H o (.ins CW dx (fW G S N c))) o dx G S N gs rows tx s num c:=by
 have k:Kt H (upd H o (.ins CW dx (fW G S N c))):=Kt.ins w.ob
 have g1:Go K CF CL CD CT (fun a=>a=o) M M H₀ H (upd H o (.ins CW dx (fW G S N c))):=Go.n8 (.refl w.gh) w.mo rfl k
 have nG:G≠o:=fun z=>by have:=w.ob;rw[<-z,w.hG]at this;cases this
 have nS:S≠o:=fun z=>by have:=w.ob;rw[<-z,w.hS]at this;cases this
 have nN:N≠o:=fun z=>by have:=w.ob;rw[<-z,w.hN]at this;cases this
 exact⟨g1.gh,upd_same,w.mo,w.mG,w.mS,w.mN,by rw[upd_ne nG];exact w.hG,by rw[upd_ne nS];exact w.hS,by rw[upd_ne nN];exact w.hN,w.gos.imp fun _ _ z=>z.go g1 (z.nw w.ob) w.gh,w.sts.imp fun _ _ z=>g1.rv z,w.n15,w.dGS,w.dGN,w.dSN,w.nd⟩
theorem WkX.ajI(w:WkX K CF CL CD CT CG CW M H₀ H o dx G S N gs rows tx s num b)(g1:Go K CF CL CD CT (fun a=>a=S) M M' H₀ H H')(h:H' S=some (.lst rows'))(hr:aO (RV K M' H') s'.reverse rows'):WkX K CF CL CD CT CG CW M' H₀ H' o dx G S N gs rows' tx s' num b:=by
 have no:¬o=S:=fun z=>by have:=w.ob;rw[z,w.hS]at this;cases this
 exact⟨g1.gh,(g1.mine o w.mo no).trans w.ob,g1.ext _ _ w.mo,g1.ext _ _ w.mG,g1.ext _ _ w.mS,g1.ext _ _ w.mN,(g1.mine G w.mG w.dGS).trans w.hG,h,(g1.mine N w.mN (Ne.symm w.dSN)).trans w.hN,w.gos.imp fun _ _ z=>z.go g1 (z.nl w.hS) w.gh,hr,w.n15,w.dGS,w.dGN,w.dSN,w.nd⟩
theorem WkX.onto {gs0:`E}{p:T}{rest:`D} (k:WkX K CF CL CD CT CG CW M H₀ H o dx G S N (gs0++[.ref g]) rows (p::rest) s num b) {dg a W:Addr}{j:Nat}{tt:T}{wl:`E} (h1:M g=some .mine) (h2:H g=some (.ins CG dg (fG a j))) (h3:M a=some (.text tt W)) (h4:H W=some (.lst wl)) (h5:j+1<=wl.length) (h6:tt.kids.drop j=w::ws) (h7:B 389 8000000 tt) :
  WkX K CF CL CD CT CG CW M H₀ (upd H g (.ins CG dg (fG a (j+1)))) o dx G S N (gs0++[.ref g]) rows (.node ws::rest) s num b:=by
 have kt:Kt H (upd H g (.ins CG dg (fG a (j+1)))):=Kt.ins h2
 have g1:Go K CF CL CD CT (fun a=>a=g) M M H₀ H (upd H g (.ins CG dg (fG a (j+1)))):=Go.n8 (.refl k.gh) h1 rfl kt
 have nl:∀ {q:Addr}{l:`E},H q=some (.lst l)->q≠g:=fun e z=>by rw [z,h2] at e; cases e
 have no:o≠g:=fun z=>by
  have:=k.ob
  rw [z,h2] at this
  have h3:=HO.ins.inj (Option.some.inj this)
  have h4:fG a j=fW G S N b:=h3.2.2
  unfold fW fG at h4
  have:=congrArg List.length h4
  simp at this
 have hgo:=k.gos
 rw [List.reverse_cons] at hgo
 obtain⟨gs1,y,e1,hg0,_⟩:=aO.snoc hgo
 obtain⟨rfl,rfl⟩:=List.append_inj' e1 rfl |>.imp id (fun z=>(List.cons.inj z).1)
 have nd:=k.nd
 have ng:(.ref g:V) ∉ gs0:=fun z=>(List.nodup_append.mp nd).2.2 _ z _ `G rfl
 have hjk:j+1<=tt.kids.length:=by
  have:=congrArg List.length h6
  rw [List.length_drop,List.length_cons] at this
  lia
 refine⟨g1.gh,by rw [upd_ne no]; exact k.ob,k.mo,k.mG,k.mS,k.mN,by rw [upd_ne (nl k.hG)]; exact k.hG,by rw [upd_ne (nl k.hS)]; exact k.hS,by rw [upd_ne (nl k.hN)]; exact k.hN,?_,k.sts.imp fun _ _ z=>g1.rv z,k.n15,k.dGS,k.dGN,k.dSN,nd⟩
 rw [List.reverse_cons]
 refine aO.append ?_ (aO.one ⟨g,dg,a,W,j+1,tt,rfl,h1,upd_same,h3,hjk,⟨wl,by rw [upd_ne (nl h4)]; exact h4,h5⟩,?_,h7⟩)
 ·refine aO.of_get (hg0.length.symm ▸ rfl) fun i y hy=>?_
  obtain⟨t,et,hgt⟩:=hg0.get hy
  refine⟨t,et,hgt.go g1 (fun g' e z=>?_) k.gh⟩
  subst z
  exact ng (by rw [<- e]; exact List.mem_of_getElem? hy)
 ·have:tt.kids.drop (j+1)=ws:=by rw [<- List.drop_drop,h6]; rfl
  rw [this]
theorem WkX.newG(k:WkX K CF CL CD CT CG CW M H₀ H o dx G S N gs rows tx s num b){a g dg:Addr}{t:T}(ht:vR M a t)(hb:B 389 8000000 t)(hg:H g=none)(hd:H dg=none)(ne:dg≠g):
  WkX K CF CL CD CT CG CW (setM M g .mine) H₀ (mkO H g dg CG (fG a 0)) o dx G S N gs rows tx s num b/\oU CG (setM M g .mine) (mkO H g dg CG (fG a 0)) t (.ref g)/\(.ref g:V)∉gs:=by
 have g1:Go K CF CL CD CT (fun _=>False) M (setM M g .mine) H₀ H (mkO H g dg CG (fG a 0)):=.made k.gh hg hd ne
 obtain⟨W,hW⟩:=ht
 obtain⟨_,_,_,_,h9⟩:=k.gh.ok a _ hW
 obtain⟨xs,h10,_,_⟩:=k.gh.ok W _ h9
 refine⟨k.go g1,⟨g,dg,a,W,0,t,rfl,dD,gQ,g1.ext _ _ hW,`W,⟨xs,iG (C:=CG) (fs:=fG a 0) hg hd ne _ _ h10,`W⟩,by cases t;rfl,hb⟩,fun z=>?_⟩
 obtain⟨i,hi⟩:=List.mem_iff_getElem?.mp z
 obtain⟨t',_,g',_,_,_,_,_,e,_,h2,_⟩:=k.gos.get hi
 cases e
 rw[hg]at h2
 cases h2
theorem WkX.push(k:WkX K CF CL CD CT CG CW M H₀ H o dx G S N gs rows tx s num b){t:T}{x:V}(h:oU CG M H t x)(hn:x∉gs):WkX K CF CL CD CT CG CW M H₀ (upd H G (.lst (gs++[x]))) o dx G S N (gs++[x]) rows (t::tx) s num b:=by
 refine k.setG ?_ ?_
 ·rw[List.reverse_cons]
  exact aO.append k.gos (aO.one h)
 ·refine List.nodup_append.mpr ⟨k.nd,`G,fun a ha c hc=>?_⟩
  rw[List.mem_singleton.mp hc]
  exact fun z=>hn (z▸ha)
theorem oU.new{a g dg:Addr}{t:T}(g0:`h)(ht:vR M a t)(hb:B 389 8000000 t)(hg:H g=none)(hd:H dg=none)(ne:dg≠g):oU CG (setM M g .mine) (mkO H g dg CG (fG a 0)) t (.ref g):=by
 have g1:Go K CF CL CD CT (fun _=>False) M (setM M g .mine) H₀ H (mkO H g dg CG (fG a 0)):=.made g0 hg hd ne
 obtain⟨W,hW⟩:=ht
 obtain⟨_,_,_,_,h9⟩:=g0.ok a _ hW
 obtain⟨xs,h10,_,_⟩:=g0.ok W _ h9
 exact⟨g,dg,a,W,0,t,rfl,dD,gQ,g1.ext _ _ hW,`W,⟨xs,iG (C:=CG) (fs:=fG a 0) hg hd ne _ _ h10,`W⟩,by cases t;rfl,hb⟩
def w1(G:Addr):`c:=[("goings",.ref G)]
def w2(G S:Addr):`c:=[("goings",.ref G),("stack",.ref S)]
def w3(G S N:Addr):`c:=[("goings",.ref G),("stack",.ref S),("numbers",.ref N)]
theorem pw1(G:Addr):putF "goings" (.ref G) []=w1 G:=rfl
theorem pw2(G S:Addr):putF "stack" (.ref S) (w1 G)=w2 G S:=by unfold w1 w2;rw[bL `C];rfl
theorem pw3(G S N:Addr):putF "numbers" (.ref N) (w2 G S)=w3 G S N:=by unfold w2 w3;rw[bL `C,bL `C];rfl
theorem pw4(G S N:Addr)(b:Nat):putF "left" (.int (b:Int)) (w3 G S N)=fW G S N b:=by unfold w3 fW;rw[bL `C,bL `C,bL `C];rfl
theorem ah9{ts:`D}{ys:`E}{i:Nat}{x:V}(h:TRs K H ts ys)(hx:ys.reverse[i]?=some x):∃t,ts.reverse[i]?=some t/\TR K H t x:=by
 obtain⟨hi,hx'⟩:=SwR.ad2 hx
 obtain⟨t,et,ht⟩:=h.get hx'
 have hl:=h.length
 refine⟨t,?_,ht⟩
 rw[List.getElem?_reverse `A,<-hl]
 exact et
end
theorem bump{num:`F}{k:Nat}(h:num.length=15)(hk:k<15):eG num (ev0 k)=num.set k (num.getD k 0+1):=by
 unfold eG ev0
 refine List.ext_getElem? fun i=>?_
 rw[List.getElem?_zipWith,List.getElem?_set,List.getElem?_set,List.getElem?_replicate,List.length_replicate]
 by_cases e:k=i
 ·subst e
  rw[if_pos rfl,if_pos hk,if_pos rfl,if_pos `A,List.getElem?_eq_getElem `A,List.getD_eq_getElem?_getD,List.getElem?_eq_getElem `A]
  rfl
 ·rw[if_neg e,if_neg e]
  by_cases hi:i<15
  ·rw[if_pos hi,List.getElem?_eq_getElem `A]
   rfl
  ·rw[if_neg hi,List.getElem?_eq_none `A]
theorem ahP{num:`F}{k j c:Nat}(h:num.length=15)(hk:k<15)(hj:j<15)(hkj:k≠j):eG num ((ev0 k).set j c)=(num.set k (num.getD k 0+1)).set j ((num.set k (num.getD k 0+1)).getD j 0+c):=by
 unfold eG ev0
 refine List.ext_getElem? fun i=>?_
 have hg:(num.set k (num.getD k 0+1)).getD j 0=num.getD j 0:=by
  rw[List.getD_eq_getElem?_getD,List.getElem?_set,if_neg hkj,<-List.getD_eq_getElem?_getD]
 rw[hg,List.getElem?_zipWith,List.getElem?_set,List.getElem?_set,List.getElem?_set,List.getElem?_set,List.getElem?_replicate,List.length_set,List.length_set,List.length_replicate]
 by_cases e:j=i
 ·subst e
  rw[if_pos rfl,if_pos hj,if_pos rfl,if_pos `A,List.getElem?_eq_getElem `A,List.getD_eq_getElem?_getD,List.getElem?_eq_getElem `A]
  rfl
 ·rw[if_neg e,if_neg e]
  by_cases e2:k=i
  ·subst e2
   rw[if_pos rfl,if_pos hk,if_pos rfl,if_pos `A,List.getElem?_eq_getElem `A,List.getD_eq_getElem?_getD,List.getElem?_eq_getElem `A]
   rfl
  ·rw[if_neg e2,if_neg e2]
   by_cases hi:i<15
   ·rw[if_pos hi,List.getElem?_eq_getElem `A]
    rfl
   ·rw[if_neg hi,List.getElem?_eq_none `A]
theorem ac6{num:`F}{k:Nat}(h:num.length=15)(hk:k<15):atI (num.map nv) (k:Int)=some (nv (num.getD k 0)):=by
 refine atI_nat ?_
 rw[List.getElem?_map,List.getElem?_eq_getElem `A,List.getD_eq_getElem?_getD,List.getElem?_eq_getElem `A]
 rfl
theorem abS{p:T}{rest s:`D}{w:T}{ws:`D}(h:p.kids=w::ws):stepT (p::rest) s=rT (aD w) (ats s 0):=by
 have hk:(ats (p::rest) 0).kids=w::ws:=h
 unfold stepT rT
 have h9:=QZ w
 by_cases e7:aD w=7
 ·rw[if_pos e7]
  by_cases d:(ats s 0).kids=[]
  ·rw[if_pos d,ab7 hk e7 d]
  ·rw[if_neg d,W5 hk e7 d]
 rw[if_neg e7]
 by_cases e8:aD w=8
 ·rw[if_pos e8]
  by_cases d:(ats s 0).kids=[]
  ·rw[if_pos d,Ru hk e8 d]
  ·rw[if_neg d,Rw hk e8 d]
 rw[if_neg e8]
 by_cases e9:aD w=9
 ·rw[if_pos e9,Rv hk e9]
 ·rw[if_neg e9,Rt hk `A]
def Dy(k c:Nat)(num:`F):`F:=if k=2 then(num.set 2 (num.getD 2 0+1)).set 13 ((num.set 2 (num.getD 2 0+1)).getD 13 0+c)else num.set k (num.getD k 0+1)
theorem wY{tx s:`D}{num:`F}(h:num.length=15)(h9:stepT tx s≠9):eG num (lW tx s)=Dy (stepT tx s) (bD tx s) num:=by
 have h12:=QL (tx:=tx) (s:=s)
 unfold lW Dy bD
 by_cases h2:stepT tx s=2
 ·rw[if_pos h2,if_pos h2,if_pos h2,ahP h `A `A `A]
 ·rw[if_neg h2,if_neg h9,if_neg h2,bump h `A]
theorem al7{p:T}{rest s:`D}{w:T}{ws:`D}{num:`F}(h:p=.node (w::ws))(hn:num.length=15):
  MvT (stepT (p::rest) s) w ws rest (pad s (looks (stepT (p::rest) s))) (Dy (stepT (p::rest) s) (bD (p::rest) s) num) (onward (p::rest) s).1 (onward (p::rest) s).2.1 (eG num (lW (p::rest) s)):=by
 subst h
 have hk:(ats (T.node (w::ws)::rest) 0).kids=w::ws:=rfl
 have h9:=QZ w
 by_cases e7:aD w=7
 ·by_cases d:(ats s 0).kids=[]
  ·have o:=ab7 hk e7 d
   have hs:stepT (T.node (w::ws)::rest) s=8:=by unfold stepT;rw[o]
   refine .inr (.inr (.inl ⟨hs,e7,?_,?_,?_⟩))
   ·rw[o]
    show T.node (w.kids.drop 2)::_=T.node ((w.kids.drop 1).drop 1)::_
    rw[List.drop_drop]
    rfl
   ·rw[o,hs];rfl
   ·exact wY hn `A
  ·have o:=W5 hk e7 d
   have hs:stepT (T.node (w::ws)::rest) s=7:=by unfold stepT;rw[o]
   refine .inr (.inl ⟨hs,e7,?_,?_,?_⟩)
   ·rw[o];rfl
   ·rw[o,hs];rfl
   ·exact wY hn `A
 by_cases e8:aD w=8
 ·by_cases d:(ats s 0).kids=[]
  ·have o:=Ru hk e8 d
   have hs:stepT (T.node (w::ws)::rest) s=10:=by unfold stepT;rw[o]
   refine .inr (.inr (.inr ⟨.inr (.inl hs),?_,?_,?_⟩))
   ·rw[o];rfl
   ·rw[hs,Bu `A,o];rfl
   ·exact wY hn `A
  ·have o:=Rw hk e8 d
   have hs:stepT (T.node (w::ws)::rest) s=9:=by unfold stepT;rw[o]
   refine .inl ⟨hs,e8,?_,?_,?_⟩
   ·rw[o]
   ·rw[o,hs];rfl
   ·unfold lW
    rw[hs,if_neg `B,if_pos rfl,ahP hn `A `A `A]
    rfl
 by_cases e9:aD w=9
 ·have o:=Rv (s:=s) hk e9
  have hs:stepT (T.node (w::ws)::rest) s=11:=by unfold stepT;rw[o]
  refine .inr (.inr (.inr ⟨.inr (.inr hs),?_,?_,?_⟩))
  ·rw[o];rfl
  ·rw[hs,Bu `A,o];rfl
  ·exact wY hn `A
 ·have o:=Rt (s:=s) hk (show aD w<=6 by lia)
  have hs:stepT (T.node (w::ws)::rest) s=aD w:=by unfold stepT;rw[o]
  refine .inr (.inr (.inr ⟨.inl `A,?_,?_,?_⟩))
  ·rw[o];rfl
  ·rw[hs,o]
  ·exact wY hn `A
theorem aiB{s:`D}{n m:Nat}(h:∀t∈s,t.kids.length<=m):∀t∈pad s n,t.kids.length<=m:=fun t ht=>by
 rcases List.mem_append.mp ht with z|z
 ·exact h t z
 ·rw[List.eq_of_mem_replicate z]
  exact`W
theorem aiW{s:`D}{m:Nat}(h:T.aN s<=m):∀t∈s,t.kids.length<=m:=fun t ht=>by
 have h1:=T.Hl ht
 have h2:=T.eY t
 have h3:=T.cM t.kids
 lia
theorem agF{k:Nat}(h:k<=12):atI ([`H,.int 1,.int 1,.int 2,.int 2,.int 1,.int 3,.int 1,.int 1,.int 1,.int 1,`H,`H]:`E) (k:Int)=some (.int (looks k:Nat)):=by
 have:∀k,k<=12->([V.int 0,.int 1,.int 1,.int 2,.int 2,.int 1,.int 3,.int 1,.int 1,.int 1,.int 1,`H,`H]:`E)[k]?=some (.int (looks k:Nat)):=`B
 exact atI_nat (this k h)
theorem aj7{s:`D}{i n:Nat}(h1:s.length+i<=max n s.length)(h2:n<=s.length+i):s++List.replicate i leaf=pad s n:=by
 unfold pad
 have:i=n-s.length:=`A
 rw[this]
theorem Q6(num:`F)(k c:Nat):(num.map nv).set k (.int ((num.getD k 0:Int)+(c:Int)))=(num.set k (num.getD k 0+c)).map nv:=by
 rw[<-akk]
 congr 1
theorem drop_cons{α:Type}{xs:List α}{j:Nat}{x:α}(h:xs[j]?=some x):xs.drop j=x::xs.drop (j+1):=by
 have hj:=(List.getElem?_eq_some_iff.mp h).1
 rw[List.drop_eq_getElem_cons hj]
 rw[List.getElem?_eq_getElem hj]at h
 rw[Option.some.inj h]
def K1(K:W.Frag)(CF CL CD CT CG CW:Addr):Sp:=fun vs H Q _=>∃(x:V)(tx s:`D)(b:Nat),vs=[x,.int (b:Int)]/\TR K H (ab5 tx s) x/\Sane b tx s/\
 ∀o M' H' b',Wk K CF CL CD CT CG CW M' H H' o (goT b tx s).1 (goT b tx s).2.1 (goT b tx s).2.2 b'->Q (.ref o) H'
def Jq:`F:=[116,101,120,116]
def lC:`F:=[121,101,115]
def noC:`F:=[110,111]
def tH:`F:=[98,111,100,121]
theorem ahU:Str.ofString "text"=tx Jq:=`C
theorem adD:Str.ofString "yes"=tx lC:=`C
theorem ahq:Str.ofString "no"=tx noC:=`C
theorem QC:Str.ofString "body"=tx tH:=`C
def acJ(y n:`D):T:=.node (rm 7::.node y::n)
def acF(r:`D):T:=.node (rm 8::r)
inductive One:T->`F->Prop
 |odd{w:T}(h:gb w=true):One w (33::w.wr)
 |lay{w:T}(h:gb w=false)(hs:aD w=0):One w (39::(aL w).wr)
 |plain{w:T}(h:gb w=false)(h1:1<=aD w)(h6:aD w<=6):One w (nmC (aD w))
structure Rst where
 st:List `D
 pl:`R
 nm:`F
inductive Stp:Rst->`F->Rst->Prop
 |ahH{st:List `D}{pl:`R}:Stp ⟨st,pl,nmC 7⟩ [91] ⟨[]::st,lC::pl,[]⟩
 |ahG{st:List `D}{pl:`R}:Stp ⟨st,pl,nmC 8⟩ [91] ⟨[]::st,tH::pl,[]⟩
 |name{st:List `D}{pl:`R}{k:Nat}(h:k=7\/k=8):Stp ⟨st,pl,[]⟩ (nmC k) ⟨st,pl,nmC k⟩
 |bar{st:List `D}{pl:`R}:Stp ⟨st,lC::pl,[]⟩ [124] ⟨[]::st,noC::lC::pl,[]⟩
 |ahA{r s:`D}{st:List `D}{pl:`R}:Stp ⟨r::s::st,tH::pl,[]⟩ [93] ⟨(s++[acF r])::st,pl,[]⟩
 |ahB{n y s:`D}{st:List `D}{pl:`R}:Stp ⟨n::y::s::st,noC::lC::pl,[]⟩ [93] ⟨(s++[acJ y n])::st,pl,[]⟩
 |word{w:T}{p:`F}{s:`D}{st:List `D}{pl:`R}(h:One w p):Stp ⟨s::st,pl,[]⟩ p ⟨(s++[w])::st,pl,[]⟩
theorem Ut:∀{ts:`D},(ts.any fun t=>!T.beq t leaf)=false->ts=List.replicate ts.length (.node [])
 |[],_=>rfl
 |t::ts,h=>by
  rw[List.any_cons,Bool.or_eq_false_iff]at h
  have e:t=leaf:=(T.beq_iff _ _).mp (by have:=h.1;revert this;cases T.beq t leaf<;>simp)
  rw[List.length_cons,List.replicate_succ,e]
  exact congrArg (leaf::·) (Ut h.2)
theorem Dv{w:T}(h:gb w=false):∃r,w=.node (rm (aD w)::r):=by
 have h8:=Xj h
 have hh:wV w=false:=by
  unfold gb at h
  split at h
  ·cases h
  ·rename_i z;exact Bool.eq_false_iff.mpr z
 unfold wV at hh
 rw[Bool.or_eq_false_iff]at hh
 cases w with
 |node ts=>
  cases ts with
  |nil=>exact absurd (show T.beq (.node []) leaf=true from T.oJ _) (by rw[hh.1];decide)
  |cons f r=>
   cases f with
   |node us=>
    have e:=Ut (ts:=us) hh.2
    have es:aD (.node (.node us::r))=min 9 us.length:=rfl
    rw[es]at h8
    refine⟨r,?_⟩
    rw[es,show min 9 us.length=us.length by lia]
    show T.node (.node us::r)=T.node (.node (List.replicate us.length (.node []))::r)
    rw[<-e]
theorem aiT{w:T}(h:gb w=false)(hs:aD w=8):w=acF (aL w).kids:=by
 obtain⟨r,e⟩:=Dv h
 rw[hs]at e
 rw[e]
 rfl
theorem ai1{w:T}(h:gb w=false)(hs:aD w=7):w=acJ (ats (aL w).kids 0).kids (aL (aL w)).kids:=by
 obtain⟨r,e⟩:=Dv h
 rw[hs]at e
 cases r with
 |nil=>
  have hl:aL w=leaf:=by rw[e];rfl
  unfold gb at h
  rw[hs,hl]at h
  split at h
  ·cases h
  ·rw[if_neg `A,if_pos rfl]at h
   exact absurd (show T.beq leaf leaf=true from T.oJ _) (by rw[h];decide)
 |cons y n=>
  rw[e]
  cases y
  rfl
theorem Ug{α:Type}(xs:List α)(x:α):(xs++[x])[(xs++[x]).length-1]?=some x:=`G
theorem Uh{α:Type}(xs:List α)(x:α):(xs++[x]).dropLast=xs:=`G
theorem qx(c:`F)(pl:`R):plV (c::pl)=plV pl++[.str (tx c)]:=by unfold plV;rw[List.reverse_cons,List.map_append];rfl
theorem ait(pl:`R):(plV pl).length=pl.length:=by unfold plV;rw[List.length_map,List.length_reverse]
def spInit(K:W.Frag)(C:Addr):Sp:=fun vs H Q _=>∃(o dx:Addr)(H₀:Hp),vs=[.ref o]/\Same H₀ H/\H₀ o=none/\H o=some (.ins C dx [])/\∀H',Kt H H'->mK K C H₀ H' o [[]] [Jq] []->Q .non H'
def aaZ(K:W.Frag)(C:Addr):Sp:=fun vs H Q _=>∃(o:Addr)(c:`F)(H₀:Hp)(st:List `D)(pl:`R)(nm:`F),vs=[.ref o,.str (tx c)]/\mK K C H₀ H o st pl nm/\st.length<=100000/\pl.length<=100000/\
 ∀H',Kt H H'->mK K C H₀ H' o ([]::st) (c::pl) nm->Q .non H'
def aaX(K:W.Frag)(C:Addr):Sp:=fun vs H Q _=>∃(o:Addr)(c:`F)(H₀:Hp)(r:`D)(st:List `D)(pl:`R)(nm:`F),vs=[.ref o]/\mK K C H₀ H o (r::st) (c::pl) nm/\
 ∀y H',Kt H H'->mK K C H₀ H' o st pl nm->TR K H' (.node r) y->Q y H'
def adV(K:W.Frag)(C:Addr):Sp:=fun vs H Q _=>∃(o:Addr)(x:V)(t:T)(H₀:Hp)(r:`D)(st:List `D)(pl:`R)(nm:`F),vs=[.ref o,x]/\TR K H t x/\mK K C H₀ H o (r::st) pl nm/\r.length<=100000/\
 ∀H',Kt H H'->mK K C H₀ H' o ((r++[t])::st) pl nm->Q .non H'
def aa0(K:W.Frag)(C:Addr):Sp:=fun vs H Q _=>∃(o:Addr)(H₀:Hp)(st st':List `D)(pl pl':`R)(nm:`F)(t:T),vs=[.ref o]/\mK K C H₀ H o st pl nm/\
 ((∃r,st=r::st'/\pl=tH::pl'/\t=acF r/\B 400 1000000 (.node r))\/(∃n y,st=n::y::st'/\pl=noC::lC::pl'/\t=acJ y n/\B 400 1000000 (.node n)/\B 400 1000000 (.node y)))/\
 ∀x H',Kt H H'->mK K C H₀ H' o st' pl' nm->TR K H' t x->Q x H'
def aaQ(K:W.Frag)(C:Addr):Sp:=fun vs H Q _=>∃(o:Addr)(H₀:Hp)(r:`D)(pl:`R),vs=[.ref o]/\mK K C H₀ H o [r] pl []/\∀y H',Same H₀ H'->TR K H' (.node r) y->Q y H'
theorem UG(xs ys:`D):T.bF (xs++ys)=max (T.bF xs) (T.bF ys):=by
 induction xs with
 |nil=>rw[List.nil_append,T.iC];lia
 |cons x xs ih=>rw[List.cons_append,T.bf,T.bf,ih];lia
theorem Qs{a b:Nat}{xs ys:`D}(h:B a b (.node (xs++ys))):B a b (.node xs):=by
 obtain⟨h1,h2⟩:=h
 rw[T.bC,UG]at h1
 rw[T.aR,T.bZ]at h2
 exact⟨by rw[T.bC];lia,by rw[T.aR];lia⟩
theorem abD{a b:Nat}{xs ys:`D}(h:B a b (.node (xs++ys))):B a b (.node ys):=by
 obtain⟨h1,h2⟩:=h
 rw[T.bC,UG]at h1
 rw[T.aR,T.bZ]at h2
 exact⟨by rw[T.bC];lia,by rw[T.aR];lia⟩
structure Sz(a:Rst):Prop where
 st:a.st.length<=100000
 pl:a.pl.length<=100000
 each:∀r∈a.st,B 400 100000 (.node r)
inductive SB:Rst->`R->Rst->Prop
 |nil{a:Rst}:SB a [] a
 |cons{a b c:Rst}{p:`F}{ps:`R}(z:Sz a)(z':Sz b)(h:Stp a p b)(g:SB b ps c):SB a (p::ps) c
theorem SB.append{a b c:Rst}{ps qs:`R}(h:SB a ps b)(g:SB b qs c):SB a (ps++qs) c:=by
 induction h with
 |nil=>exact g
 |cons z z' h _ ih=>exact .cons z z' h (ih g)
theorem SB.one{a b:Rst}{p:`F}(z:Sz a)(z':Sz b)(h:Stp a p b):SB a [p] b:=.cons z z' h .nil
def AllB(st:List `D):Prop:=∀r∈st,B 400 100000 (.node r)
theorem AllB.cons{r:`D}{st:List `D}(h:B 400 100000 (.node r))(g:AllB st):AllB (r::st):=fun x hx=>by
 rcases List.mem_cons.mp hx with rfl|hx
 ·exact h
 ·exact g x hx
theorem ahb:B 400 100000 (.node []):=JM.le `A `A
theorem W4{w:T}{p:`F}(h:One w p)(s:`D)(st:List `D)(pl:`R)(hb:B 400 100000 (.node (s++[w])))(ha:AllB st)(h1:st.length<=50000)(h2:pl.length<=50000):SB ⟨s::st,pl,[]⟩ [p] ⟨(s++[w])::st,pl,[]⟩:=
 .one ⟨by show st.length+1<=_;lia,by show pl.length<=_;lia,AllB.cons (Qs hb) ha⟩ ⟨by show st.length+1<=_;lia,by show pl.length<=_;lia,AllB.cons hb ha⟩ (.word h)
mutual
theorem alM:∀{w:T}{ps:`R},Wr w ps->∀(s:`D)(st:List `D)(pl:`R),B 400 100000 (.node (s++[w]))->AllB st->st.length+3*w.deep<=50000->pl.length+3*w.deep<=50000->SB ⟨s::st,pl,[]⟩ ps ⟨(s++[w])::st,pl,[]⟩
 |w,_,.odd h=>fun s st pl hb ha h1 h2=>W4 (.odd h) s st pl hb ha `A `A
 |w,_,.lay h hs=>fun s st pl hb ha h1 h2=>W4 (.lay h hs) s st pl hb ha `A `A
 |w,_,.plain h g1 g6=>fun s st pl hb ha h1 h2=>W4 (.plain h g1 g6) s st pl hb ha `A `A
 |w,_,.fork (ps:=ps) (qs:=qs) h hs hy hn=>fun s st pl hb ha h1 h2=>by
  have e:=ai1 h hs
  have hw:B 400 100000 w:=wH (abD hb) (List.mem_singleton.mpr rfl)
  have hl:=gM (pG hw)
  have hbn:=gM (pG (pG hw))
  have hd:w.deep=T.bF w.kids:=wZ w
  generalize hyy:(ats (aL w).kids 0).kids=y at e hy
  generalize hnn:(aL (aL w)).kids=n at e hn hbn
  have hk:w.kids=rm 7::.node y::n:=by rw[e];rfl
  have dy:T.bF y+1<=w.deep:=by
   rw[hd,hk,T.bf,T.bf,T.bC y]
   lia
  have dn:T.bF n<=w.deep:=by
   rw[hd,hk,T.bf,T.bf]
   lia
  have hby:B 400 100000 (.node y):=by
   have:=gM hw
   rw[hk]at this
   exact wH this (List.mem_cons_of_mem _ List.mem_cons_self)
  have hbs:=Qs hb
  have a1:=Oh hy [] (s::st) (lC::pl) hby (ha.cons hbs) (by show st.length+1+_<=_;lia) (by show pl.length+1+_<=_;lia)
  have a2:=Oh hn [] (y::s::st) (noC::lC::pl) hbn ((ha.cons hbs).cons hby) (by show st.length+1+1+_<=_;lia) (by show pl.length+1+1+_<=_;lia)
  rw[List.nil_append]at a1 a2
  have z0:Sz ⟨s::st,pl,[]⟩:=⟨by show st.length+1<=_;lia,by show pl.length<=_;lia,ha.cons hbs⟩
  have z1:Sz ⟨s::st,pl,nmC 7⟩:=⟨z0.st,z0.pl,z0.each⟩
  have z2:Sz ⟨[]::s::st,lC::pl,[]⟩:=⟨by show st.length+1+1<=_;lia,by show pl.length+1<=_;lia,(ha.cons hbs).cons ahb⟩
  have z3:Sz ⟨y::s::st,lC::pl,[]⟩:=⟨by show st.length+1+1<=_;lia,by show pl.length+1<=_;lia,(ha.cons hbs).cons hby⟩
  have z4:Sz ⟨[]::y::s::st,noC::lC::pl,[]⟩:=⟨by show st.length+1+1+1<=_;lia,by show pl.length+1+1<=_;lia,((ha.cons hbs).cons hby).cons ahb⟩
  have z5:Sz ⟨n::y::s::st,noC::lC::pl,[]⟩:=⟨by show st.length+1+1+1<=_;lia,by show pl.length+1+1<=_;lia,((ha.cons hbs).cons hby).cons hbn⟩
  have z6:Sz ⟨(s++[w])::st,pl,[]⟩:=⟨by show st.length+1<=_;lia,by show pl.length<=_;lia,ha.cons hb⟩
  have a0:SB ⟨s::st,pl,[]⟩ [nmC 7,[91]] ⟨[]::s::st,lC::pl,[]⟩:=.cons z0 z1 (.name (.inl rfl)) (.one z1 z2 .ahH)
  have hsF:Stp ⟨n::y::s::st,noC::lC::pl,[]⟩ [93] ⟨(s++[w])::st,pl,[]⟩:=by rw[e];exact .ahB
  exact(((a0.append a1).append (.one z3 z4 .bar)).append a2).append (.one z5 z6 hsF)
 |w,_,.loop (ps:=ps) h hs hbd=>fun s st pl hb ha h1 h2=>by
  have e:=aiT h hs
  have hw:B 400 100000 w:=wH (abD hb) (List.mem_singleton.mpr rfl)
  have hl:=gM (pG hw)
  have hd:w.deep=T.bF w.kids:=wZ w
  generalize hnn:(aL w).kids=n at e hbd hl
  have hk:w.kids=rm 8::n:=by rw[e];rfl
  have dn:T.bF n<=w.deep:=by
   rw[hd,hk,T.bf]
   lia
  have hbs:=Qs hb
  have a1:=Oh hbd [] (s::st) (tH::pl) hl (ha.cons hbs) (by show st.length+1+_<=_;lia) (by show pl.length+1+_<=_;lia)
  rw[List.nil_append]at a1
  have z0:Sz ⟨s::st,pl,[]⟩:=⟨by show st.length+1<=_;lia,by show pl.length<=_;lia,ha.cons hbs⟩
  have z1:Sz ⟨s::st,pl,nmC 8⟩:=⟨z0.st,z0.pl,z0.each⟩
  have z2:Sz ⟨[]::s::st,tH::pl,[]⟩:=⟨by show st.length+1+1<=_;lia,by show pl.length+1<=_;lia,(ha.cons hbs).cons ahb⟩
  have z3:Sz ⟨n::s::st,tH::pl,[]⟩:=⟨by show st.length+1+1<=_;lia,by show pl.length+1<=_;lia,(ha.cons hbs).cons hl⟩
  have z6:Sz ⟨(s++[w])::st,pl,[]⟩:=⟨by show st.length+1<=_;lia,by show pl.length<=_;lia,ha.cons hb⟩
  have a0:SB ⟨s::st,pl,[]⟩ [nmC 8,[91]] ⟨[]::s::st,tH::pl,[]⟩:=.cons z0 z1 (.name (.inr rfl)) (.one z1 z2 .ahG)
  have hsF:Stp ⟨n::s::st,tH::pl,[]⟩ [93] ⟨(s++[w])::st,pl,[]⟩:=by rw[e];exact .ahA
  exact(a0.append a1).append (.one z3 z6 hsF)
theorem Oh:∀{ws:`D}{ps:`R},Ts ws ps->∀(s:`D)(st:List `D)(pl:`R),B 400 100000 (.node (s++ws))->AllB st->st.length+3*T.bF ws<=50003->pl.length+3*T.bF ws<=50003->SB ⟨s::st,pl,[]⟩ ps ⟨(s++ws)::st,pl,[]⟩
 |_,_,.nil=>fun s st pl _ _ _ _=>by rw[List.append_nil];exact .nil
 |_,_,.cons (w:=w) (ws:=ws) h g=>fun s st pl hb ha h1 h2=>by
  rw[T.bf]at h1 h2
  have hb':B 400 100000 (.node ((s++[w])++ws)):=by rw[List.append_assoc];exact hb
  have a1:=alM h s st pl (Qs hb') ha `A `A
  have a2:=Oh g (s++[w]) st pl hb' ha `A `A
  rw[List.append_assoc]at a2
  exact a1.append a2
end
def adS(K:W.Frag)(C:Addr):Sp:=fun vs H Q _=>∃(o:Addr)(p:`F)(H₀:Hp)(a b:Rst),vs=[.ref o,.str (tx p)]/\mK K C H₀ H o a.st a.pl a.nm/\Stp a p b/\Sz a/\Sz b/\
 ∀H',Kt H H'->mK K C H₀ H' o b.st b.pl b.nm->Q .non H'
def VH(K:W.Frag):Sp:=fun vs H Q _=>∃(p:`F)(w:T),vs=[.str (tx p)]/\One w p/\B 400 100000 w/\∀y H',`N->TR K H' w y->Q y H'
theorem eE{c:Bool}{P Q:Prop}(h:c=false)(q:Q):if c=true then P else Q:=by subst h;exact iteF q
theorem qu{c:Bool}{P Q:Prop}(h:c=true)(q:P):if c=true then P else Q:=by subst h;exact iteT q
theorem b_(a b:`F){z:Str}(hz:z=tx b):decide (V.str (tx a)=V.str z)=decide (a=b):=by
 subst hz
 by_cases h:a=b
 ·subst h;rw[decide_eq_true rfl,decide_eq_true rfl]
 ·rw[decide_eq_false h,decide_eq_false (fun z=>h (Gj.mp (V.str.inj z)))]
theorem Qd(a b:`F):(tx a==tx b)=decide (a=b):=by
 by_cases h:a=b
 ·subst h;rw[decide_eq_true rfl];exact beq_self_eq_true _
 ·rw[decide_eq_false h];exact beq_eq_false_iff_ne.mpr (fun z=>h (Gj.mp z))
theorem Hw(p b c:`F):inV (.str (tx p)) [.str (tx b),.str (tx c)]=(decide (b=p)||decide (c=p)):=by
 unfold inV
 rw[List.any_cons,List.any_cons,List.any_nil,Bool.or_false]
 show((tx b==tx p)||(tx c==tx p))=_
 rw[Qd,Qd]
theorem akb{w:T}{p:`F}(h:One w p):p≠[91]/\p≠nmC 7/\p≠nmC 8/\p≠[124]/\p≠[93]:=by
 cases h with
 |odd h=>refine⟨?_,?_,?_,?_,?_⟩<;>intro z<;>exact absurd (congrArg List.head? z) (by show¬some 33=some _;decide)
 |lay h hs=>refine⟨?_,?_,?_,?_,?_⟩<;>intro z<;>exact absurd (congrArg List.head? z) (by show¬some 39=some _;decide)
 |plain h h1 h6=>
  have:∀k,1<=k->k<=6->nmC k≠[91]/\nmC k≠nmC 7/\nmC k≠nmC 8/\nmC k≠[124]/\nmC k≠[93]:=by
   intro k a b
   have:k=1\/k=2\/k=3\/k=4\/k=5\/k=6:=`A
   rcases this with rfl|rfl|rfl|rfl|rfl|rfl<;>decide
  exact this _ h1 h6
section
variable{K:W.Frag}{C:Addr}{H₀ H:Hp}{o dx R P l:Addr}{ys:`E}{st:List `D}{pl:`R}{nm:`F}
theorem RdX.base(h:RdX K C H₀ H o dx R P ys st pl nm)(hl:H l=none)(z:HO):RdX K C (upd H₀ l z) (upd H l z) o dx R P ys st pl nm:=by
 have g:=h.grow (same_new hl z)
 have nn:∀{q:Addr}{w:HO},H q=some w->H₀ q=none->upd H₀ l z q=none:=fun e e0=>by rw[upd_ne (ne_of_none e hl)];exact e0
 refine⟨g.ob,nn h.ob h.on,nn h.at_ h.pn,⟨nn h.rows.at_ h.rows.new,fun b w e=>?_,g.rows.at_,?_,g.rows.nd⟩,g.at_,g.np⟩
 ·by_cases hb:b=l
  ·subst hb
   rw[upd_same]at e|-
   exact e
  ·rw[upd_ne hb]at e|-
   exact h.rows.same b w e
 ·exact h.rows.rows.imp fun _ _⟨a,xs,e,h1,h2,h3⟩=>⟨a,xs,e,nn h2 h1,(same_new hl z) _ _ h2,h3.mono (.new hl)⟩
end
theorem zy(c:Nat)(l:`F):dh [c] [l]=l:=rfl
theorem Um{c:Nat}:∀{a b x y:`F},c∉a->c∉b->a++c::x=b++c::y->a=b/\x=y
 |[],[],_,_,_,_,e=>⟨rfl,(List.cons.inj e).2⟩
 |[],d::b,_,_,_,hb,e=>absurd (List.cons.inj e).1 (fun z=>hb (by rw[z];exact List.mem_cons_self))
 |d::a,[],_,_,ha,_,e=>absurd (List.cons.inj e).1.symm (fun z=>ha (by rw[z];exact List.mem_cons_self))
 |d::a,f::b,x,y,ha,hb,e=>by
  obtain⟨e1,e2⟩:=List.cons.inj e
  obtain⟨e3,e4⟩:=Um (fun z=>ha (List.mem_cons_of_mem _ z)) (fun z=>hb (List.mem_cons_of_mem _ z)) e2
  exact⟨by rw[e1,e3],e4⟩
theorem Uu{c:Nat}:∀{as bs:`R},as≠[]->bs≠[]->(∀p∈as,c∉p)->(∀p∈bs,c∉p)->dh [c] as=dh [c] bs->as=bs
 |[],_,h,_,_,_,_=>absurd rfl h
 |_::_,[],_,h,_,_,_=>absurd rfl h
 |[a],[b],_,_,_,_,e=>by rw[zy,zy]at e;rw[e]
 |[a],b::b'::bs,_,_,ha,_,e=>by
  rw[zy,sI _ _ `G]at e
  exact absurd (show c∈a by rw[e];simp) (ha a List.mem_cons_self)
 |a::a'::as,[b],_,_,_,hb,e=>by
  rw[zy,sI _ _ `G]at e
  exact absurd (show c∈b by rw[<-e];simp) (hb b List.mem_cons_self)
 |a::a'::as,b::b'::bs,_,_,ha,hb,e=>by
  rw[sI [c] a (show a'::as≠[]by simp),sI [c] b (show b'::bs≠[]by simp),List.append_assoc,List.append_assoc]at e
  obtain⟨e1,e2⟩:=Um (ha a List.mem_cons_self) (hb b List.mem_cons_self) e
  rw[e1,Uu `G `G (fun p hp=>ha p (List.mem_cons_of_mem _ hp)) (fun p hp=>hb p (List.mem_cons_of_mem _ hp)) e2]
theorem join_nil{c:Nat}:∀{as:`R},(∀p∈as,p≠[])->dh [c] as=[]->as=[]
 |[],_,_=>rfl
 |[a],h,e=>absurd e (h a List.mem_cons_self)
 |a::b::as,_,e=>by
  rw[sI _ _ `G]at e
  simp at e
mutual
theorem abK:∀t:T,32∉t.wr
 | .node ts=>fun z=>by
  rcases List.mem_cons.mp (show 32∈40::(T.wrL ts++[41])from z)with z|z
  ·cases z
  ·rcases List.mem_append.mp z with z|z
   ·exact adz ts z
   ·cases List.mem_singleton.mp z
theorem adz:∀ts:`D,32∉T.wrL ts
 |[]=>by show 32∉[];simp
 |t::ts=>fun z=>by
  rcases List.mem_append.mp (show 32∈T.wr t++T.wrL ts from z)with z|z
  ·exact abK t z
  ·exact adz ts z
end
def okP(p:`F):Prop:=p≠[]/\32∉p
theorem acp{k:Nat}(h:k<=8):okP (nmC k):=by
 have:k=0\/k=1\/k=2\/k=3\/k=4\/k=5\/k=6\/k=7\/k=8:=`A
 rcases this with rfl|rfl|rfl|rfl|rfl|rfl|rfl|rfl|rfl<;>exact⟨`B,`B⟩
theorem pA{ps qs:`R}(h:∀p∈ps,okP p)(g:∀p∈qs,okP p):∀p∈ps++qs,okP p:=fun p hp=>by
 rcases List.mem_append.mp hp with z|z
 ·exact h p z
 ·exact g p z
theorem mq{l:`F}(h:okP l):∀p∈[l],okP p:=fun p hp=>by rw[List.mem_singleton.mp hp];exact h
mutual
theorem alN:∀{w:T}{ps:`R},Wr w ps->∀p∈ps,okP p
 |w,_,.odd h=>mq ⟨`G,fun z=>by
   rcases List.mem_cons.mp z with z|z
   ·cases z
   ·exact abK _ z⟩
 |w,_,.lay h hs=>mq ⟨`G,fun z=>by
   rcases List.mem_cons.mp z with z|z
   ·cases z
   ·exact abK _ z⟩
 |w,_,.plain h h1 h6=>mq (acp `A)
 |w,_,.fork h hs hy hn=>pA (pA (pA (pA (pA (mq (acp `A)) (mq (l:=[91]) ⟨`B,`B⟩)) (Oi hy)) (mq ⟨`B,`B⟩)) (Oi hn)) (mq ⟨`B,`B⟩)
 |w,_,.loop h hs hb=>pA (pA (pA (mq (acp `A)) (mq (l:=[91]) ⟨`B,`B⟩)) (Oi hb)) (mq ⟨`B,`B⟩)
theorem Oi:∀{ws:`D}{ps:`R},Ts ws ps->∀p∈ps,okP p
 |_,_,.nil=>fun _ h=>by simp at h
 |_,_,.cons h g=>pA (alN h) (Oi g)
end
def V2(K:W.Frag):Sp:=fun vs H Q _=>∃ps:`R,vs=[.str (tx (dh [32] ps))]/\(∀p∈ps,okP p)/\(dh [32] ps).length<=8000000/\∀D,H D=none->Q (.ref D) (upd H D (.lst (ps.map fun p=>V.str (tx p))))
def aaU(K:W.Frag):Sp:=fun vs H Q _=>∃ws ps,vs=[.str (tx (dh [32] ps))]/\Ts ws ps/\B 400 80000 (.node ws)/\∀y H',`N->TR K H' (.node ws) y->Q y H'
section
variable{X:Cx}
def ajP(K:W.Frag):V->`E->Hp->VK->Prop:=fun x vs H Q=>∃(a:Addr)(cs:`R)(p:`F)(j:Nat),x=`I/\vs=[.str (tx p)]/\SqT K H a (cs.map fun c=>V.str (tx c))/\cs[j]?=some p/\(∀m,m<j->cs[m]?≠some p)/\Q (.int (j:Nat)) H
theorem agD:MtM X "tuple.index" (ajP X.K):=by
 intro pins s σ H x vs v us Q I rx rv h
 obtain⟨a,cs,p,j,rfl,rfl,hq,hj,hn,q⟩:=h
 cases rx
 obtain⟨u,rfl,ru⟩:=rv.one
 obtain⟨its,r,ht,hz⟩:=I.tuple hq
 obtain⟨⟨cls,dd,data,sl⟩,ho,hc,n,hd⟩:=id ht
 simp only at hc hd
 subst hc hd
 have flat:∀l:`R,(l.map fun c=>V.str (tx c)).all uQ=true:=fun l=>by
  rw[List.all_eq_true]
  intro y hy
  obtain⟨c,_,rfl⟩:=List.mem_map.mp hy
  rfl
 have hlen:=r.length
 rw[List.length_map]at hlen
 have hjl:j<cs.length:=(List.getElem?_eq_some_iff.mp hj).1
 have at_:∀m(hm:m<its.toArray.size),eqU (.str (tx p)) its.toArray[m]=decide (cs[m]?=some p):=fun m hm=>by
  have hm':m<cs.length:=by rw[List.size_toArray]at hm;lia
  obtain⟨u',e1,ru'⟩:=r.get (i:=m) (x:=.str (tx cs[m])) (by rw[List.getElem?_map,List.getElem?_eq_getElem hm'];rfl)
  have e2:its.toArray[m]=u':=by
   have:=List.getElem?_eq_some_iff.mp e1
   simpa using this.2
  rw[e2,PL ru' rfl,List.getElem?_eq_getElem hm']
  show(tx cs[m]==tx p)=_
  rw[Qd]
  by_cases z:cs[m]=p
  ·rw[decide_eq_true z,decide_eq_true (congrArg some z)]
  ·rw[decide_eq_false z,decide_eq_false (fun y=>z (Option.some.inj y))]
 have hjs:j<its.toArray.size:=by rw[List.size_toArray];lia
 refine call_meets F.slot_tuple_index ⟨_,ho,rfl⟩ F.entry_tuple_index (F.args_tuple_index_2 _ _)
  (Kf a its.toArray n dd sl u (eqU (.str (tx p))) j hjs (by rw[at_ j hjs,hj];exact decide_eq_true rfl) (fun m hm hlt=>by rw[at_ m hm];exact decide_eq_false (hn m hlt))) ⟨ho,fun y hy=>?_,?_⟩
 ·exact yp ru rfl r (flat cs) y (by simpa using hy)
 ·exact⟨.int (j:Nat),H,I.tok _,⟨_,rfl⟩,q⟩
theorem af7{body:List Stmt}{h0:ExceptHandler}{hs:List ExceptHandler}{pos:Pos}{ts:TS}(hb:∀E,QSs (X.wish E) body ts):PS X (.Try body (h0::hs) [] [] pos) ts:=by
 intro pins s σ H D I h
 refine wpAny_Try_except ?_
 generalize(fun(e:Value)(s₁:Shared)=>wpAny `X X.A (noteFrame e X.env) (fun _ s₂=>wpAny `X X.A (setFlight e none) (fun _ s₃=>wpAny `X X.A (handleBy e X.env (h0::hs)) (SP X pins D) X.xe s₃) X.xe s₂) X.xe s₁)=EE
 refine thn ((hb EE).run pins s σ H D (I.wish EE) h) fun f s1 hsp=>?_
 cases f with
 |next=>
  obtain⟨σ',H',I',q⟩:=hsp
  exact wpAny_execs_nil ⟨σ',H',I'.unwish,q⟩
 |brk=>
  obtain⟨σ',H',I',q⟩:=hsp
  exact⟨σ',H',I'.unwish,q⟩
 |cont=>
  obtain⟨σ',H',I',q⟩:=hsp
  exact⟨σ',H',I'.unwish,q⟩
 |ret u=>
  obtain⟨v,σ',H',I',q⟩:=hsp
  exact⟨v,σ',H',I'.unwish,q⟩
theorem af5{body:List Stmt}{h0:ExceptHandler}{hs:List ExceptHandler}{pos:Pos}{ts:TS}(hb:∀E,QSs (X.wish E) body ts):QS X (.Try body (h0::hs) [] [] pos) ts:=⟨af7 hb⟩
end
def C_(K:W.Frag):Sp:=fun vs H Q _=>∃t:T,vs=[.str (tx t.wr)]/\t.parts<=100000/\∀y H',`N->TR K H' t y->Q y H'
def Wg:`E:=[1,2,3,4,5,6].map fun k=>V.str (tx (nmC k))
theorem amc:jT rW (some 1) (some 7)=Wg:=by
 unfold jT
 rw[show(some (1:Int))=some ((1:Nat):Int)from rfl,show(some (7:Int))=some ((7:Nat):Int)from rfl,HT.tY,HT.tY]
 rfl
theorem aky(p:`F):inV (.str (tx p)) Wg=[1,2,3,4,5,6].any fun k=>decide (nmC k=p):=by
 unfold inV Wg
 rw[List.any_map]
 refine congrArg (fun f=>List.any [1,2,3,4,5,6] f) (funext fun k=>?_)
 show(tx (nmC k)==tx p)=_
 rw[Qd]
theorem ah1{k:Nat}(h1:1<=k)(h6:k<=6):([1,2,3,4,5,6].any fun j=>decide (nmC j=nmC k))=true:=by
 have:k=1\/k=2\/k=3\/k=4\/k=5\/k=6:=`A
 rcases this with rfl|rfl|rfl|rfl|rfl|rfl<;>decide
theorem adX{c:Nat}{l:`F}(h:c<97):([1,2,3,4,5,6].any fun j=>decide (nmC j=c::l))=false:=by
 rw[List.any_eq_false]
 intro k hk
 rw[decide_eq_true_eq]
 intro z
 have e:=congrArg List.head? z
 have e:(nmC k).head?=some c:=e
 simp only[List.mem_cons,List.not_mem_nil,or_false]at hk
 rcases hk with rfl|rfl|rfl|rfl|rfl|rfl<;>(have:=Option.some.inj e;lia)
theorem aer:rW=((List.range 9).map nmC).map fun c=>V.str (tx c):=by unfold rW;rw[List.map_map];rfl
theorem agA{k:Nat}(h:k<=8):((List.range 9).map nmC)[k]?=some (nmC k)/\∀m,m<k->((List.range 9).map nmC)[m]?≠some (nmC k):=by
 have:k=0\/k=1\/k=2\/k=3\/k=4\/k=5\/k=6\/k=7\/k=8:=`A
 rcases this with rfl|rfl|rfl|rfl|rfl|rfl|rfl|rfl|rfl<;>exact⟨rfl,`B⟩
theorem lay_of{w:T}(h:gb w=false)(hs:aD w=0):w=i_ 0 (aL w).kids:=by
 obtain⟨r,e⟩:=Dv h
 rw[hs]at e
 rw[e]
 rfl
theorem aga{w:T}(h:gb w=false)(h1:1<=aD w)(h6:aD w<=6):w=i_ (aD w) []:=by
 obtain⟨r,e⟩:=Dv h
 have hl:aL w=leaf:=by
  unfold gb at h
  split at h
  ·cases h
  ·rw[if_neg `A,if_neg `A,Bool.or_eq_false_iff]at h
   refine(T.beq_iff _ _).mp ?_
   have:=h.2
   revert this
   cases T.beq (aL w) leaf<;>simp
 have er:r=[]:=by
  have:aL w=.node r:=by rw[e];rfl
  rw[this]at hl
  exact T.node.inj hl
 rw[er]at e
 exact e
theorem Yt(c:Nat)(l:`F):yI (c::l) (some 1) none=l:=by
 unfold yI
 rw[show(some (1:Int))=some ((1:Nat):Int)from rfl,HT.tY]
 show((c::l).drop (min 1 (l.length+1))).take (HT.sIx (c::l).length (c::l).length none-_)=l
 have e1:min 1 (l.length+1)=1:=`A
 rw[e1]
 show l.take (l.length+1-min 1 (l.length+1))=l
 exact List.take_of_length_le `A
end Sw
namespace cH
open PySem PySem.Spec PyProof.Rows L2 Sw
def top(i:Nat):Stmt:=PySem.Challenge.pw_selfword_k93_whole_runner_on_the_selftel.main.body.getD i (.Pass ⟨0,0,0,0⟩)
abbrev jd:Stmt:=top 1
abbrev rP:Stmt:=top 2
abbrev tW:Stmt:=top 3
abbrev jr:Stmt:=top 16
abbrev ju:Stmt:=top 17
abbrev rQ:Stmt:=top 18
abbrev oV:Stmt:=top 19
abbrev nJ:Stmt:=top 20
abbrev u5:Stmt:=top 21
abbrev dR:Stmt:=top 22
abbrev Dk:Stmt:=top 24
abbrev gB:Stmt:=top 34
abbrev nF:Stmt:=top 35
abbrev jL:Stmt:=top 36
abbrev nu:Stmt:=top 37
abbrev nO:Stmt:=top 38
abbrev nH:Stmt:=top 39
abbrev iJ:Stmt:=top 40
abbrev eO:Stmt:=top 41
abbrev qR:Stmt:=top 53
abbrev jt:Stmt:=top 54
abbrev u6:Stmt:=top 55
abbrev qT:Stmt:=top 56
abbrev nj:Stmt:=top 60
abbrev tV:Stmt:=top 61
abbrev lG:Stmt:=top 63
abbrev jH:Stmt:=top 64
abbrev lH:Stmt:=top 65
abbrev iK:Stmt:=top 66
abbrev jG:Stmt:=top 72
abbrev jJ:Stmt:=top 73
abbrev xT:Stmt:=top 75
abbrev nA:Stmt:=top 76
abbrev uL:Stmt:=top 77
abbrev xU:Stmt:=top 79
abbrev jK:Stmt:=top 80
abbrev m_:Stmt:=top 81
abbrev nq:Stmt:=top 82
abbrev lJ:Stmt:=top 87
abbrev nD:Stmt:=top 88
abbrev tX:Stmt:=top 89
abbrev iy:Stmt:=top 90
abbrev fX:Stmt:=top 91
abbrev nQ:Stmt:=top 92
abbrev Dj:Stmt:=top 94
abbrev lF:Stmt:=top 95
abbrev ni:Stmt:=top 96
abbrev xR:Stmt:=top 101
abbrev jM:Stmt:=top 103
abbrev iB:Stmt:=top 104
abbrev iz:Stmt:=top 105
abbrev uM:Stmt:=top 106
theorem afS:FnScope ["tree"] ["tree"] (defScope jd):=`T
theorem ah3:FnScope ["tree"] ["tree"] (defScope rP):=`T
theorem xQ:FnScope ["tree","waiting","counted","part"] ["tree"] (defScope tW):=`T
theorem abX:FnScope ["word"] ["word"] (defScope jr):=`T
theorem abZ:FnScope ["word"] ["word"] (defScope ju):=`T
theorem ajK:FnScope ["tree"] ["tree"] (defScope rQ):=`T
theorem afP:FnScope ["sort"] ["sort"] (defScope oV):=`T
theorem ah5:FnScope ["yes","no"] ["yes","no"] (defScope nJ):=`T
theorem ah4:FnScope ["body"] ["body"] (defScope u5):=`T
theorem adY:FnScope ["names"] ["names"] (defScope dR):=`T
theorem ajJ:FnScope ["text","tree"] ["text","tree"] (defScope Dk):=`T
theorem U7:FnScope [] [] (defScope gB):=`T
theorem Oq:FnScope ["wrapped"] [] (defScope nF):=`T
theorem Wn:FnScope [] [] (defScope jL):=`T
theorem Dd:FnScope ["word_gone","shut"] [] (defScope nu):=`T
theorem v7:FnScope ["text","sort"] [] (defScope nO):=`T
theorem Ot:FnScope ["sort","cleared"] ["sort"] (defScope nH):=`T
theorem Ft:FnScope ["word_whole"] [] (defScope iJ):=`T
theorem K8:FnScope [] [] (defScope eO):=`T
theorem afU:FnScope ["text","tree"] ["text","tree"] (defScope qR):=`T
theorem Zu:FnScope ["sort","top"] ["sort","top"] (defScope jt):=`T
theorem ah6:FnScope ["tally"] ["tally"] (defScope u6):=`T
theorem afV:FnScope ["one","other"] ["one","other"] (defScope qT):=`T
theorem uZ:FnScope ["tally","taken","times","numbers"] ["tally"] (defScope nj):=`T
theorem Dc:FnScope ["height","text","built","level"] ["height","text"] (defScope tV):=`T
theorem Zt:FnScope ["body"] ["body"] (defScope lG):=`T
theorem Wi:FnScope [] [] (defScope jH):=`T
theorem Zv:FnScope [] [] (defScope lH):=`T
theorem U6:FnScope [] [] (defScope iK):=`T
theorem rM:FnScope ["tree","signs","waiting","part"] ["tree"] (defScope jG):=`T
theorem rN:FnScope ["text","rows","sign","items"] ["text"] (defScope jJ):=`T
theorem Ju:FnScope ["text","pieces","waiting","part"] ["text"] (defScope xT):=`T
theorem Df:FnScope ["word","sort","load"] ["word"] (defScope nA):=`T
theorem adZ:FnScope ["word","sort"] ["word"] (defScope uL):=`T
theorem Q8:FnScope ["signs","reading","piece"] ["signs"] (defScope xU):=`T
theorem Wm:FnScope ["signs"] ["signs"] (defScope jK):=`T
theorem Oo:FnScope ["piece","word"] ["piece"] (defScope m_):=`T
theorem abW:FnScope ["signs"] ["signs"] (defScope nq):=`T
theorem Zw:FnScope ["row"] ["row"] (defScope lJ):=`T
theorem abY:FnScope ["row"] ["row"] (defScope nD):=`T
theorem afR:FnScope ["tree","place"] ["tree","place"] (defScope tX):=`T
theorem Wh:FnScope ["row"] ["row"] (defScope iy):=`T
theorem jq:FnScope ["row","most","waiting","counted","part"] ["row","most"] (defScope fX):=`T
theorem rO:FnScope ["row","ahead","taken","part","tree"] ["row"] (defScope nQ):=`T
theorem Wj:FnScope ["text","tree","budget","walk","steps"] ["text","tree","budget"] (defScope Dj):=`T
theorem Zr:FnScope ["text","tree","budget"] ["text","tree","budget"] (defScope lF):=`T
theorem Ui:FnScope ["stand","budget","walk"] ["stand","budget"] (defScope ni):=`T
theorem Q7:FnScope ["step","load","stack","item","row"] ["step","load","stack"] (defScope xR):=`T
theorem dF:FnScope ["_law_script","_law_deck_here","_law_cell","_law_number","_law_k"] ["_law_script"] (defScope jM):=`T
theorem Wo:FnScope ["_law_deck_here","_law_many"] ["_law_deck_here","_law_many"] (defScope iB):=`T
theorem Gy:FnScope ["_law_deck_here","_law_deep"] ["_law_deck_here","_law_deep"] (defScope iz):=`T
theorem mY:FnScope ["_law_script","_law_deck_here","_law_tree_here","_law_own","_law_way","_law_most","_law_found"] ["_law_script"] (defScope uM):=`T
section
variable{P:Program}{w:World}{K:W.Frag}{mg:`Y}{base:Heap}{f:Addr}{fd:FuncData}
theorem alU(n:Nat):((List.replicate n (List.map W [1])).flatten).length=n:=by
 induction n with
 |zero=>rfl
 |succ n ih=>rw[List.replicate_succ,List.flatten_cons,List.length_append,ih];show 1+n=n+1;lia
theorem ajG:∀i:Nat,i<=8->(T.node ([5,3].map W++zp i)).deep<=400/\(T.node ([5,3].map W++zp i)).parts<=1000000:=`C
theorem akJ:∀i:Nat,i<=7->(T.node (Vo i)).deep<=400/\(T.node (Vo i)).parts<=1000000:=`C
def aht:`D:=[W 5,i_ 0 [],W 6,W 4,i_ 0 [],W 6,W 4]
def Pq:List Str:=[PySem.Str.ofString "lay",PySem.Str.ofString "drop",PySem.Str.ofString "twin",PySem.Str.ofString "swap",PySem.Str.ofString "front",PySem.Str.ofString "part",PySem.Str.ofString "turn",PySem.Str.ofString "fork",PySem.Str.ofString "while"]
def acq(k:Nat):Str:=Pq.getD k (PySem.Str.ofString "")
theorem al5:∀k:Nat,k<=8->Pq[k]?=some (acq k)/\∀m,m<k->Pq[m]?≠some (acq k):=`C
def gw(K:W.Frag)(t:`D):Sp:=fun vs H Q _=>vs=[]/\∀y H',`N->TR K H' (.node t) y->Q y H'
def jF(K:W.Frag):Sp:=fun vs H Q _=>∃(z:Str)(ks:`F),vs=[.str z]/\z.length<=1000/\((Builtin.Str.spaceWords z (z.length+1)).length<=1000/\(Txt.words z).length<=1000)/\Txt.words z=ks.map acq/\(∀k∈ks,1<=k/\k<=6)/\∀y H',`N->TR K H' (.node (ks.map W)) y->Q y H'
def V8(K:W.Frag):Sp:=fun vs H Q _=>∃k:Nat,vs=[.int (k:Int)]/\k<=7/\∀y H',`N->TR K H' (.node (Vo k)) y->Q y H'
theorem acr{K:W.Frag}{H:Hp}{Q:VK}{x y:V}{k:Int}{ts:`D}(n:Nat)(hx:TR K H (.node ts) x)(hy:y=.int k)(hk:k=(n:Int))(hn:n<=100)(q:∀z H',`N->TR K H' (.node (List.replicate n ts).flatten) z->Q z H')(hl:ts.length<=100:=by decide):GR K x y H Q:=by
 obtain⟨a,xs,rfl,ha,ra⟩:=cB.mp hx
 have hlen:=ra.length
 refine⟨a,k,xs,rfl,hy,ha,`A,`A,small (by rw[hk,Int.toNat_natCast,hlen];exact Nat.le_trans (Nat.mul_le_mul hl hn) `B),fun p H' S hp=>q _ _ S (tQ hp ?_)⟩
 have r2:TRs K H' ts xs:=ra.mono (.of S)
 unfold vJ
 rw[hk,Int.toNat_natCast]
 clear hp hn hk hy q
 induction n with
 |zero=>exact bH.mpr rfl
 |succ n ih=>
  rw[List.replicate_succ,List.flatten_cons,List.replicate_succ,List.flatten_cons]
  exact TRs.append r2 ih
theorem ako{K:W.Frag}{H:Hp}{Q:VK}{σ:L2.St}{x y:V}{k:Int}{ts:`D}(n:Nat)(hx:TR K H (.node ts) x)(hy:y=.int k)(hk:k=(n:Int))(hn:n<=100)(q:∀z H',`N->TR K H' (.node (List.replicate n ts).flatten) z->Q z H')(hl:ts.length<=100:=by decide):tC y σ H (fun y H2=>GR K x y H2 Q):=acr n hx hy hk hn q hl
def ahR(K:W.Frag)(H:Hp)(a:Addr)(rows:`R):Prop:=∃ys,SqT K H a ys/\aO (fun r y=>∃b,y=V.ref b/\SqT K H b (List.map nv r)) rows ys
def VR(K:W.Frag):Sp:=fun vs H Q _=>∃a ns,vs=[`I]/\SqT K H a (List.map nv ns)/\ns.length=15/\∀p H',`N->SqT K H' p ((turnT ns).map nv)->Q (.ref p) H'
theorem ai2{K:W.Frag}{a b:Addr}{xs ys:`E}{tb:TS}{D:Ends}{σ:Sg}{H:Hp}{g:TG}(Pv:Nat->Sg->`M)(h0:Pv 0 σ H)(he:xs.length=ys.length)(hl:∀i σ H,i<=xs.length->Pv i σ H->SqT K H a xs/\SqT K H b ys)
  (hs:∀i x y σ H p,xs[i]?=some x->ys[i]?=some y->Pv i σ H->H p=none->g (.ref p) σ (upd H p (.tup [x,y])) fun σ2 H2=>tb {D with nx:=Pv (i+1),ct:=Pv (i+1),bk:=D.nx} σ2 H2)(hd:∀σ H,Pv xs.length σ H->D.nx σ H):
  ∃W:Nat->Nat->Sg->`M,(∃m,W 0 m σ H)/\∀i m σ H,W i m σ H->
   ((Itz K a b).stop i H/\D.nx σ H)\/((Itz K a b).go i H/\∃N:Sg->`M,(∀σ' H',N σ' H'->∃m',m'<m/\W (i+1) m' σ' H')/\∀x H',(Itz K a b).yld i H x H'->g x σ H' fun σ2 H2=>tb {D with nx:=N,ct:=N,bk:=D.nx} σ2 H2):=by
 refine⟨fun i m σ H=>m=xs.length-i/\i<=xs.length/\Pv i σ H,⟨xs.length,rfl,`W,h0⟩,?_⟩
 rintro i m σ H⟨rfl,hi,p⟩
 obtain⟨qa,qb⟩:=hl i σ H hi p
 by_cases hlt:i<xs.length
 ·have ex:xs[i]?=some xs[i]:=List.getElem?_eq_getElem hlt
  have ey:ys[i]?=some ys[i]:=List.getElem?_eq_getElem `A
  refine .inr ⟨⟨_,_,_,_,qa,qb,ex,ey⟩,Pv (i+1),fun σ' H' p'=>⟨xs.length-(i+1),`A,rfl,hlt,p'⟩,fun v H' y=>?_⟩
  obtain⟨q,x,y,rfl,hq,rfl,hx,hy⟩:=y
  exact hs i x y σ _ q (hx _ qa) (hy _ qb) p hq
 ·have e:i=xs.length:=`A
  subst e
  exact .inl ⟨⟨_,qa,`K⟩,hd σ H p⟩
theorem akt{K:W.Frag}{a:Addr}{H1:Hp}{ns:`F}{f:Nat->Nat}{σ:Sg}{js:`F}{te:TE}{Q:VK}(hn:ns.length<=1000)(ha:SqT K H1 a (ns.map nv))
  (hte:∀(i:Nat)(H':Hp)(R:VK),i∈ns->R (nv (f i)) H'->te (some (nv i)::frv σ js) H' R)
  (q:∀D H',Same H1 H'->H' D=some (.lst ((ns.map f).map nv))->Q (.ref D) H'):Fl (Itt K a) js te σ Q H1:=by
 refine abj (K:=K) (xs:=ns.map nv) (fun D i ys H'=>H1 D=none/\Same H1 H'/\H' D=some (.lst ys)/\ys=((ns.take i).map f).map nv/\i<=ns.length) (small (by rw[List.length_map];lia)) (fun D hD=>⟨hD,same_new hD _,upd_same,rfl,`W⟩) (fun D i ys H' j=>⟨j.2.2.1,?_,cO (.of j.2.1) ha⟩) (fun D i x ys H' R hx j hR=>?_) (fun D ys H' j=>?_)
 ·rw[j.2.2.2.1,List.length_map,List.length_map,List.length_take]
  exact Nat.min_eq_left j.2.2.2.2
 ·obtain⟨hD,S,h1,h2,_⟩:=j
  rw[List.getElem?_map]at hx
  cases hh:ns[i]? with
  |none=>rw[hh]at hx;cases hx
  |some m=>
   rw[hh]at hx
   cases hx
   refine hte m _ _ (List.mem_of_getElem? hh) (hR _ _ h1 ⟨hD,bN S hD,upd_same,?_,(List.getElem?_eq_some_iff.mp hh).1⟩)
   rw[h2,List.take_succ,hh,List.map_append,List.map_append]
   rfl
 ·obtain⟨hD,S,h1,h2,_⟩:=j
  rw[List.length_map,List.take_of_length_le `K]at h2
  exact q D H' S (by rw[h1,h2])
def Oj(K:W.Frag):Sp:=fun vs H Q _=>∃x b,vs=[x]/\TR K H (.node b) x/\B 390 900000 (.node b)/\∀y H',`N->TR K H' (.node (i_ 0 b::b)) y->Q y H'
def V0(K:W.Frag):Sp:=fun vs H Q _=>∃x:V,vs=[.int 1,x]/\TR K H (.node cj) x/\∀y H',`N->TR K H' (.node VD) y->Q y H'
theorem aen(cA:mg "tuple"=none){bh:Addr}(d7:mg "NAMES"=some (.ref bh))(jg:∀H,SqT K H bh [.str (PySem.Str.ofString "lay"),.str (PySem.Str.ofString "drop"),.str (PySem.Str.ofString "twin"),.str (PySem.Str.ofString "swap"),.str (PySem.Str.ofString "front"),.str (PySem.Str.ofString "part"),.str (PySem.Str.ofString "turn"),.str (PySem.Str.ofString "fork"),.str (PySem.Str.ofString "while")])
  {kZ:Addr}{kJ:FuncData}(CJ:Fun K "plain" "plain" oV kZ kJ)(Cz:FnOk P w K mg base CX0 31 kZ kJ ["sort"] (Js K))(Cu:Binds K kJ ["sort"] [])(Cd:mg "plain"=some (.ref kZ))
  (wI:∃ob,K.lookup bh=some ob/\ob.cls=`a/\ob.dict=none)
  (F:Fun K "plains" "plains" dR f fd):FnOk P w K mg base CX0 32 f fd ["names"] (jF K):=by
 refine okQ F adY `S `Q
 ·obtain⟨z,ks,rfl,_⟩:=h
  rfl
 obtain⟨z,ks,rfl,hz1,hz2,hw,hk,q⟩:=h
 refine⟨_,(aq (aQ (lu dW rfl cA jU (aj (Ow rfl (wU (fr:=[]) (js:=[]) (sc:=defScope dR) rfl rfl rfl `C `C `C `C (by exact trivial) `C (fun y hy=>cell_has hy)) (Rh (j_ PySem.F.plainAttrs_str PySem.F.slot_str_split PySem.F.type_str_split aes (qv 0))) (fun _ _ _ _ _=>(aH Cz hr rfl Cd CJ.kp Cu .nil pass0 (aj (ajU (K:=K) rfl (cN PySem.F.plainAttrs_tuple PySem.F.slot_tuple_index PySem.F.type_tuple_index (acu (K:=K) rfl) (aM (v:=.ref bh) rfl d7 rfl) (aj (qv 0) ak))) ak)))) ak)))),?_⟩
 have hwl:(Txt.words z).length=ks.length:=by rw[hw,List.length_map]
 have hwn:(Txt.words z).length<=1000:=hz2.2
 refine⟨_,rfl,rfl,z,rfl,rfl,hz1,hz2.1,hz2.2,fun D0 g0=>?_⟩
 refine⟨D0,rfl,⟨_,SqL.of upd_same⟩,?_⟩
 have S0:=same_new g0 (.lst ((Txt.words z).map V.str))
 refine agG (K:=K) (xs:=(Txt.words z).map V.str) (fun D i ys H'=>D≠D0/\H D=none/\`N/\H' D0=some (.lst ((Txt.words z).map V.str))/\H' D=some (.lst ys)/\TRs K H' ((ks.take i).map W) ys/\i<=ks.length) (small (by rw[List.length_map];lia)) (fun D hD=>?_) (fun D i ys H' j=>⟨j.2.2.2.2.1,?_,SqL.of j.2.2.2.1⟩) (fun D i x ys H' R hx j hR=>?_) (fun D ys H' j=>?_)
 ·have hne:D≠D0:=fun e=>by rw[e,upd_same]at hD;cases hD
  exact⟨hne,S0.free hD,S0.trans (same_new hD _),by rw[upd_ne hne.symm];exact upd_same,upd_same,bH.mpr rfl,`W⟩
 ·rw[j.2.2.2.2.2.1.length,List.length_map,List.length_take]
  exact Nat.min_eq_left j.2.2.2.2.2.2
 ·obtain⟨hne,hD,S,h0,h1,ht,hi⟩:=j
  rw[hw,List.map_map,List.getElem?_map]at hx
  cases hh:ks[i]? with
  |none=>rw[hh]at hx;cases hx
  |some k=>
   rw[hh]at hx
   cases hx
   have hk1:=hk k (List.mem_of_getElem? hh)
   obtain⟨e1,e2⟩:=al5 k `A
   refine⟨.inr (.inl ⟨rfl,wI⟩),_,rfl,bh,Pq,_,k,rfl,rfl,jg _,e1,e2,k,rfl,hk1.1,hk1.2,fun y H3 S3 t3=>?_⟩
   refine hR _ _ (S3 _ _ h1) ⟨hne,hD,bN (S.trans S3) hD,by rw[upd_ne hne.symm];exact S3 _ _ h0,upd_same,?_,(List.getElem?_eq_some_iff.mp hh).1⟩
   rw[List.take_succ,hh,List.map_append]
   exact TRs.append ((ht.mono (.of S3)).mono (Kt.lst (S3 _ _ h1))) (cD.mpr ⟨y,[],rfl,t3.mono (Kt.lst (S3 _ _ h1)),bH.mpr rfl⟩)
 ·obtain⟨hne,hD,S,h0,h1,ht,hi⟩:=j
  rw[List.length_map,hwl,List.take_of_length_le `K]at ht
  refine⟨D,ys,rfl,.inl ⟨SqL.of h1,fun p hp=>?_⟩⟩
  obtain⟨S5,t5⟩:=dJ (K:=K) hp ht
  exact q _ _ (S.trans S5) t5
theorem acg
  {iu:Addr}{h_:FuncData}(wG:Fun K "lay" "lay" rQ iu h_)(wD:FnOk P w K mg base CX0 32 iu h_ ["tree"] (Jt K))(wz:Binds K h_ ["tree"] [])(v9:mg "lay"=some (.ref iu))
  {bK:Addr}{bJ:FuncData}(bV:Fun K "plains" "plains" dR bK bJ)(bU:FnOk P w K mg base CX0 32 bK bJ ["names"] (jF K))(bR:Binds K bJ ["names"] [])(bQ:mg "plains"=some (.ref bK))
  (F:Fun K "opening" "opening" nF f fd):FnOk P w K mg base CX0 33 f fd [] (gw K aht):=by
 refine okQ F Oq `S `Q
 ·obtain⟨rfl,_⟩:=h
  rfl
 obtain⟨rfl,q⟩:=h
 refine⟨_,(au (aZ (i:=0) Oq.nd rfl `O (aV bO (bB (aj (aH wD hr rfl v9 wG.kp wz .nil pass0 (aj (bB ak) ak)) ak)) `n))
   (aq (aQ (aV bO (aV bO `n (qv 0)) (qv 0))))),?_⟩
 refine⟨`W,fun p1 g1=>?_⟩
 obtain⟨S1,t1⟩:=dJ (K:=K) (ts:=[]) g1 (bH.mpr rfl)
 refine⟨_,leaf,rfl,t1,`B,`B,fun y2 H2 S2 t2=>⟨`e,fun p3 g3=>?_⟩⟩
 obtain⟨S3,t3⟩:=dJ (K:=K) g3 (jE t2)
 refine⟨_,[6,4],rfl,`C,`C,`C,`B,fun y4 H4 S4 t4=>cU (t3.mono (.of S4)) t4 (small `B) (fun y5 H5 S5 t5=>?_)⟩
 have S15:=S1.trans (S2.trans (S3.trans (S4.trans S5)))
 refine⟨_,[5],rfl,`C,`C,`C,`B,fun y6 H6 S6 t6=>⟨_,rfl,cU t6 (t5.mono (.of S6)) (small `B) (fun y7 H7 S7 t7=>⟨_,rfl,cU t7 (t5.mono (.of (S6.trans S7))) (small `B) (fun y8 H8 S8 t8=>?_)⟩)⟩⟩
 exact q _ _ (S15.trans (S6.trans (S7.trans S8))) t8
theorem Lx{cF:Value}(cI:mg "WHILE"=some cF)(cu:RelV (.int 8) cF)
  {bK:Addr}{bJ:FuncData}(bV:Fun K "plains" "plains" dR bK bJ)(bU:FnOk P w K mg base CX0 32 bK bJ ["names"] (jF K))(bR:Binds K bJ ["names"] [])(bQ:mg "plains"=some (.ref bK))
  (F:Fun K "nameless_gone" "nameless_gone" eO f fd):FnOk P w K mg base CX0 33 f fd [] (gw K Gm):=by
 refine okQ F K8 `S `Q
 ·obtain⟨rfl,_⟩:=h
  rfl
 obtain⟨rfl,q⟩:=h
 refine⟨_,(aq (aQ (aV bO (aV ug `n (aV op_add (aM (v:=.int 8) rfl cI cu) aP)) `n))),?_⟩
 refine⟨_,[1],rfl,`C,`C,`C,`B,fun y1 H1 S1 t1=>⟨8,2,rfl,rfl,acr 10 t1 rfl rfl `B (fun y2 H2 S2 t2=>?_)⟩⟩
 refine⟨_,[4],rfl,`C,`C,`C,`B,fun y3 H3 S3 t3=>cU (t2.mono (.of S3)) t3 (small `B) (fun y4 H4 S4 t4=>?_)⟩
 exact q _ _ (S1.trans (S2.trans (S3.trans S4))) t4
theorem Va{cF:Value}(cI:mg "WHILE"=some cF)(cu:RelV (.int 8) cF){fK:Value}(jh:mg "TOP_REACHED"=some fK)(fM:RelV (.str (PySem.Str.ofString "turn turn front turn part")) fK){pO:Value}(zW:mg "PAST_BODY"=some pO)(pQ:RelV (.str (PySem.Str.ofString "front turn drop swap")) pO){pP:Value}(zX:mg "INTO_BODY"=some pP)(pR:RelV (.str (PySem.Str.ofString "front swap turn part swap twin turn front turn part turn front front swap front")) pP)
  {bK:Addr}{bJ:FuncData}(bV:Fun K "plains" "plains" dR bK bJ)(bU:FnOk P w K mg base CX0 32 bK bJ ["names"] (jF K))(bR:Binds K bJ ["names"] [])(bQ:mg "plains"=some (.ref bK))
  {fj:Addr}{eZ:FuncData}(qg:Fun K "fork" "fork" nJ fj eZ)(qe:FnOk P w K mg base CX0 32 fj eZ ["yes","no"] (Bw K))(qd:Binds K eZ ["yes","no"] [])(pW:mg "fork"=some (.ref fj))
  (F:Fun K "while_gone" "while_gone" iJ f fd):FnOk P w K mg base CX0 33 f fd [] (gw K Bv):=by
 refine okQ F Ft `S `Q
 ·obtain⟨rfl,_⟩:=h
  rfl
 obtain⟨rfl,q⟩:=h
 refine⟨_,(au (aZ (i:=0) Ft.nd rfl `O (aV bO (aV ug `n (aM (v:=.int 8) rfl cI cu)) `n))
   (aq (aQ (aV bO (aV bO (qv 0) (aH bU hr rfl bQ bV.kp bR .nil pass0 (aj (aM (v:=.str (PySem.Str.ofString "turn turn front turn part")) rfl jh fM) ak))) (bB (aj (aH qe hr rfl pW qg.kp qd .nil pass0 (aj (aH bU hr rfl bQ bV.kp bR .nil pass0 (aj (aM (v:=.str (PySem.Str.ofString "front swap turn part swap twin turn front turn part turn front front swap front")) rfl zX pR) ak)) (aj (aH bU hr rfl bQ bV.kp bR .nil pass0 (aj (aM (v:=.str (PySem.Str.ofString "front turn drop swap")) rfl zW pQ) ak)) ak))) ak)))))),?_⟩
 refine⟨_,[3,4],rfl,`C,`C,`C,`B,fun y1 H1 S1 t1=>ako (k:=8) 8 t1 rfl rfl `B (fun y2 H2 S2 t2=>?_)⟩
 refine⟨_,[4],rfl,`C,`C,`C,`B,fun y3 H3 S3 t3=>cU (t2.mono (.of S3)) t3 (small `B) (fun y4 H4 S4 t4=>?_)⟩
 have S14:=S1.trans (S2.trans (S3.trans S4))
 refine⟨_,rfl,_,[6,6,4,6,5],rfl,`C,`C,`C,`B,fun y5 H5 S5 t5=>cU (t4.mono (.of S5)) t5 (small `B) (fun y6 H6 S6 t6=>?_)⟩
 refine⟨_,[4,3,6,5,3,2,6,4,6,5,6,4,4,3,4],rfl,`C,`C,`C,`B,fun y7 H7 S7 t7=>?_⟩
 refine⟨_,[4,6,1,3],rfl,`C,`C,`C,`B,fun y8 H8 S8 t8=>⟨_,_,_,_,rfl,t7.mono (.of S8),t8,⟨`B,`B⟩,⟨`B,`B⟩,fun y9 H9 S9 t9=>⟨`e,fun p10 g10=>?_⟩⟩⟩
 obtain⟨S10,t10⟩:=dJ (K:=K) g10 (jE t9)
 have Y8:=S7.trans (S8.trans (S9.trans S10))
 exact cU (t6.mono (.of Y8)) t10 (small `B) (fun y11 H11 S11 t11=>q _ _ (S14.trans (S5.trans (S6.trans (Y8.trans S11)))) t11)
theorem aci{mL:Value}(qm:mg "LAY"=some mL)(mO:RelV `H mL){Gi:Value}(XF:mg "LAID"=some Gi)(GQ:RelV (.str (PySem.Str.ofString "turn turn front turn turn front swap")) Gi){dj:Value}(dH:mg "FORK"=some dj)(cT:RelV (.int 7) dj){fK:Value}(jh:mg "TOP_REACHED"=some fK)(fM:RelV (.str (PySem.Str.ofString "turn turn front turn part")) fK){uW:Value}(Ht:mg "INTO_NO"=some uW)(vf:RelV (.str (PySem.Str.ofString "front swap turn part drop front")) uW){rK:Value}(DN:mg "INTO_YES"=some rK)(rR:RelV (.str (PySem.Str.ofString "front swap turn part swap drop front")) rK){j5:Value}(uo:mg "STACK_PARTED"=some j5)(j8:RelV (.str (PySem.Str.ofString "drop front swap part")) j5){gW:Addr}(Mt:mg "WORKED"=some (.ref gW))(nY:∀H,SqT K H gW [.str (PySem.Str.ofString ""),.str (PySem.Str.ofString "drop"),.str (PySem.Str.ofString "twin turn swap front swap front"),.str (PySem.Str.ofString "swap part swap turn front swap front"),.str (PySem.Str.ofString "swap part turn front front"),.str (PySem.Str.ofString "part turn turn front swap front"),.str (PySem.Str.ofString "swap part swap part swap turn front turn front swap front")])
  {bK:Addr}{bJ:FuncData}(bV:Fun K "plains" "plains" dR bK bJ)(bU:FnOk P w K mg base CX0 33 bK bJ ["names"] (jF K))(bR:Binds K bJ ["names"] [])(bQ:mg "plains"=some (.ref bK))
  {fj:Addr}{eZ:FuncData}(qg:Fun K "fork" "fork" nJ fj eZ)(qe:FnOk P w K mg base CX0 33 fj eZ ["yes","no"] (Bw K))(qd:Binds K eZ ["yes","no"] [])(pW:mg "fork"=some (.ref fj))
  (F:Fun K "gone_of" "gone_of" nH f fd):FnOk P w K mg base CX0 34 f fd ["sort"] (V8 K):=by
 refine okQ F Ot `S `Q
 ·obtain⟨k,rfl,_⟩:=h
  rfl
 obtain⟨k,rfl,h7,q⟩:=h
 refine⟨_,(au (aZ (i:=1) Ot.nd rfl `O (aV ug `n (aV op_add (qv 0) aP)))
   (au (bA (aU op_eq (qv 0) (aM (v:=`H) rfl qm mO) `P) (aq (aQ (aV bO (qv 1) (aH bU hr rfl bQ bV.kp bR .nil pass0 (aj (aM (v:=.str (PySem.Str.ofString "turn turn front turn turn front swap")) rfl XF GQ) ak))))) aX)
   (au (bA (aU op_eq (qv 0) (aM (v:=.int 7) rfl dH cT) `P) (aq (aQ (aV bO (aV bO (qv 1) (aH bU hr rfl bQ bV.kp bR .nil pass0 (aj (aM (v:=.str (PySem.Str.ofString "turn turn front turn part")) rfl jh fM) ak))) (bB (aj (aH qe hr rfl pW qg.kp qd .nil pass0 (aj (aH bU hr rfl bQ bV.kp bR .nil pass0 (aj (aM (v:=.str (PySem.Str.ofString "front swap turn part swap drop front")) rfl DN rR) ak)) (aj (aH bU hr rfl bQ bV.kp bR .nil pass0 (aj (aM (v:=.str (PySem.Str.ofString "front swap turn part drop front")) rfl Ht vf) ak)) ak))) ak))))) aX)
   (aq (aQ (aV bO (aV bO (aV bO (qv 1) (aH bU hr rfl bQ bV.kp bR .nil pass0 (aj (aM (v:=.str (PySem.Str.ofString "drop front swap part")) rfl uo j8) ak))) (aH bU hr rfl bQ bV.kp bR .nil pass0 (aj (cW gY (aM (v:=.ref gW) rfl Mt rfl) (qv 0) (fun _ _=>rfl)) ak))) `n)))))),?_⟩
 refine⟨_,[1],rfl,`C,`C,`C,`B,fun y1 H1 S1 t1=>⟨_,rfl,_,_,rfl,rfl,acr (k+1) t1 rfl rfl `A (fun y2 H2 S2 t2=>?_)⟩⟩
 have S12:=S1.trans S2
 refine⟨_,rfl,rfl,_,rfl,ite2 (fun h0=>?_) (fun h0=>?_)⟩
 ·obtain rfl:k=0:=by have:=V.int.inj (of_decide_eq_true h0);lia
  refine⟨_,rfl,_,[6,6,4,6,6,4,3],rfl,`C,`C,`C,`B,fun y3 H3 S3 t3=>cU (t2.mono (.of S3)) t3 (small `B) (fun y4 H4 S4 t4=>q _ _ (S12.trans (S3.trans S4)) t4)⟩
 refine⟨_,rfl,rfl,_,rfl,ite2 (fun h7=>?_) (fun h7=>?_)⟩
 ·obtain rfl:k=7:=by have:=V.int.inj (of_decide_eq_true h7);lia
  refine⟨_,rfl,_,[6,6,4,6,5],rfl,`C,`C,`C,`B,fun y5 H5 S5 t5=>cU (t2.mono (.of S5)) t5 (small `B) (fun y6 H6 S6 t6=>?_)⟩
  refine⟨_,[4,3,6,5,3,1,4],rfl,`C,`C,`C,`B,fun y7 H7 S7 t7=>?_⟩
  refine⟨_,[4,3,6,5,1,4],rfl,`C,`C,`C,`B,fun y8 H8 S8 t8=>⟨_,_,_,_,rfl,t7.mono (.of S8),t8,⟨`B,`B⟩,⟨`B,`B⟩,fun y9 H9 S9 t9=>⟨`e,fun p10 g10=>?_⟩⟩⟩
  obtain⟨S10,t10⟩:=dJ (K:=K) g10 (jE t9)
  have Y8:=S7.trans (S8.trans (S9.trans S10))
  exact cU (t6.mono (.of Y8)) t10 (small `B) (fun y11 H11 S11 t11=>q _ _ (S12.trans (S5.trans (S6.trans (Y8.trans S11)))) t11)
 have h0:k≠0:=fun z=>h0 (by subst z;exact decide_eq_true rfl)
 have h7:k≠7:=fun z=>h7 (by subst z;exact decide_eq_true rfl)
 refine⟨_,rfl,_,[1,4,3,5],rfl,`C,`C,`C,`B,fun y3 H3 S3 t3=>cU (t2.mono (.of S3)) t3 (small (by rw[alU];show _+4<=_;lia)) (fun y4 H4 S4 t4=>?_)⟩
 have S14:=S12.trans (S3.trans S4)
 rcases(`A:k=1\/k=2\/k=3\/k=4\/k=5\/k=6)with rfl|rfl|rfl|rfl|rfl|rfl
 ·refine⟨_,rfl,gW,_,_,_,rfl,rfl,nY _,rfl,_,[1],rfl,`C,`C,`C,`B,fun y5 H5 S5 t5=>cU (t4.mono (.of S5)) t5 (small `B) (fun y6 H6 S6 t6=>?_)⟩
  refine⟨_,[3],rfl,`C,`C,`C,`B,fun y7 H7 S7 t7=>cU (t6.mono (.of S7)) t7 (small `B) (fun y8 H8 S8 t8=>q _ _ (S14.trans (S5.trans (S6.trans (S7.trans S8)))) t8)⟩
 ·refine⟨_,rfl,gW,_,_,_,rfl,rfl,nY _,rfl,_,[2,6,3,4,3,4],rfl,`C,`C,`C,`B,fun y5 H5 S5 t5=>cU (t4.mono (.of S5)) t5 (small `B) (fun y6 H6 S6 t6=>?_)⟩
  refine⟨_,[3],rfl,`C,`C,`C,`B,fun y7 H7 S7 t7=>cU (t6.mono (.of S7)) t7 (small `B) (fun y8 H8 S8 t8=>q _ _ (S14.trans (S5.trans (S6.trans (S7.trans S8)))) t8)⟩
 ·refine⟨_,rfl,gW,_,_,_,rfl,rfl,nY _,rfl,_,[3,5,3,6,4,3,4],rfl,`C,`C,`C,`B,fun y5 H5 S5 t5=>cU (t4.mono (.of S5)) t5 (small `B) (fun y6 H6 S6 t6=>?_)⟩
  refine⟨_,[3],rfl,`C,`C,`C,`B,fun y7 H7 S7 t7=>cU (t6.mono (.of S7)) t7 (small `B) (fun y8 H8 S8 t8=>q _ _ (S14.trans (S5.trans (S6.trans (S7.trans S8)))) t8)⟩
 ·refine⟨_,rfl,gW,_,_,_,rfl,rfl,nY _,rfl,_,[3,5,6,4,4],rfl,`C,`C,`C,`B,fun y5 H5 S5 t5=>cU (t4.mono (.of S5)) t5 (small `B) (fun y6 H6 S6 t6=>?_)⟩
  refine⟨_,[3],rfl,`C,`C,`C,`B,fun y7 H7 S7 t7=>cU (t6.mono (.of S7)) t7 (small `B) (fun y8 H8 S8 t8=>q _ _ (S14.trans (S5.trans (S6.trans (S7.trans S8)))) t8)⟩
 ·refine⟨_,rfl,gW,_,_,_,rfl,rfl,nY _,rfl,_,[5,6,6,4,3,4],rfl,`C,`C,`C,`B,fun y5 H5 S5 t5=>cU (t4.mono (.of S5)) t5 (small `B) (fun y6 H6 S6 t6=>?_)⟩
  refine⟨_,[3],rfl,`C,`C,`C,`B,fun y7 H7 S7 t7=>cU (t6.mono (.of S7)) t7 (small `B) (fun y8 H8 S8 t8=>q _ _ (S14.trans (S5.trans (S6.trans (S7.trans S8)))) t8)⟩
 ·refine⟨_,rfl,gW,_,_,_,rfl,rfl,nY _,rfl,_,[3,5,3,5,3,6,4,6,4,3,4],rfl,`C,`C,`C,`B,fun y5 H5 S5 t5=>cU (t4.mono (.of S5)) t5 (small `B) (fun y6 H6 S6 t6=>?_)⟩
  refine⟨_,[3],rfl,`C,`C,`C,`B,fun y7 H7 S7 t7=>cU (t6.mono (.of S7)) t7 (small `B) (fun y8 H8 S8 t8=>q _ _ (S14.trans (S5.trans (S6.trans (S7.trans S8)))) t8)⟩
theorem acj(iH:mg "range"=none)(cX:mg "reversed"=none){cF:Value}(cI:mg "WHILE"=some cF)(cu:RelV (.int 8) cF)
  {fj:Addr}{eZ:FuncData}(qg:Fun K "fork" "fork" nJ fj eZ)(qe:FnOk P w K mg base CX0 34 fj eZ ["yes","no"] (Bw K))(qd:Binds K eZ ["yes","no"] [])(pW:mg "fork"=some (.ref fj))
  {yQ:Addr}{yD:FuncData}(Zg:Fun K "while_gone" "while_gone" iJ yQ yD)(Zb:FnOk P w K mg base CX0 34 yQ yD [] (gw K Bv))(YL:Binds K yD [] [])(Xu:mg "while_gone"=some (.ref yQ))
  {tM:Addr}{sX:FuncData}(Qn:Fun K "nameless_gone" "nameless_gone" eO tM sX)(Qj:FnOk P w K mg base CX0 34 tM sX [] (gw K Gm))(Qe:Binds K sX [] [])(Pr:mg "nameless_gone"=some (.ref tM))
  {Jc:Addr}{Ie:FuncData}(afn:Fun K "gone_of" "gone_of" nH Jc Ie)(afb:FnOk P w K mg base CX0 34 Jc Ie ["sort"] (V8 K))(aeX:Binds K Ie ["sort"] [])(aeD:mg "gone_of"=some (.ref Jc))
  {bK:Addr}{bJ:FuncData}(bV:Fun K "plains" "plains" dR bK bJ)(bU:FnOk P w K mg base CX0 34 bK bJ ["names"] (jF K))(bR:Binds K bJ ["names"] [])(bQ:mg "plains"=some (.ref bK))
  (F:Fun K "by_sort" "by_sort" nO f fd):FnOk P w K mg base CX0 35 f fd [] (gw K (zp 8)):=by
 refine okQ F v7 `S `Q
 ·obtain⟨rfl,_⟩:=h
  rfl
 obtain⟨rfl,q⟩:=h
 refine⟨_,(au (aZ (i:=0) v7.nd rfl `O (bB (aj (aH qe hr rfl pW qg.kp qd .nil pass0 (aj (iQ Qj hr rfl Pr Qn.kp Qe .nil pass0) (aj (iQ Zb hr rfl Xu Zg.kp YL .nil pass0) ak))) ak)))
   (au (xY PassesOwn.never rfl (aij rfl iH rfl cX (aj (aM (v:=.int 8) rfl cI cu) ak)) (qW (i:=1) v7.nd rfl `O) (aq (aZ (i:=0) v7.nd rfl `O (bB (aj (aH qe hr rfl pW qg.kp qd .nil pass0 (aj (aV bO `n (qv 0)) (aj (aH afb hr rfl aeD afn.kp aeX .nil pass0 (aj (qv 1) ak)) ak))) ak)))))
   (aq (aQ (qv 0))))),?_⟩
 refine⟨rfl,fun y1 H1 S1 t1=>⟨rfl,fun y2 H2 S2 t2=>⟨_,_,_,_,rfl,t1.mono (.of S2),t2,⟨`B,`B⟩,⟨`B,`B⟩,fun y3 H3 S3 t3=>⟨`e,fun p4 g4=>?_⟩⟩⟩⟩
 obtain⟨S4,t4⟩:=dJ (K:=K) g4 (jE t3)
 refine⟨rfl,?_⟩
 refine agX (fun i σ' H'=>∃v o,σ'=[some v,o]/\`N/\TR K H' (.node (zp i)) v) ?_ ?_ ?_
 ·exact⟨_,_,rfl,S1.trans (S2.trans (S3.trans S4)),t4⟩
 ·rintro i σ' H' hi⟨v,o,rfl,S,ht⟩
  dsimp only[gName]
  have hl1:(zp i).length=1:=by cases i<;>rfl
  refine⟨_,[5,3],rfl,`C,`C,`C,`B,fun y5 H5 S5 t5=>⟨_,rfl,cU t5 (ht.mono (.of S5)) (small (by rw[hl1];decide)) (fun y6 H6 S6 t6=>?_)⟩⟩
  refine⟨_,rfl,7-i,(by show[V.int (7-(i:Int))]=_;rw[show(((7-i:Nat):Int))=7-(i:Int)by lia]),`A,fun y7 H7 S7 t7=>?_⟩
  have bi:=ajG i `A
  have bg:=akJ (7-i) `A
  refine⟨_,_,_,_,rfl,t6.mono (.of S7),t7,bi,bg,fun y8 H8 S8 t8=>⟨`e,fun p9 g9=>?_⟩⟩
  obtain⟨S9,t9⟩:=dJ (K:=K) g9 (jE t8)
  exact⟨_,_,rfl,S.trans (S5.trans (S6.trans (S7.trans (S8.trans S9)))),t9⟩
 ·rintro σ' H'⟨v,o,rfl,S,ht⟩
  exact⟨_,rfl,q _ _ S ht⟩
theorem ab_
  {bK:Addr}{bJ:FuncData}(bV:Fun K "plains" "plains" dR bK bJ)(bU:FnOk P w K mg base CX0 35 bK bJ ["names"] (jF K))(bR:Binds K bJ ["names"] [])(bQ:mg "plains"=some (.ref bK))
  {Jd:Addr}{Ig:FuncData}(afo:Fun K "by_sort" "by_sort" nO Jd Ig)(afc:FnOk P w K mg base CX0 35 Jd Ig [] (gw K (zp 8)))(aeY:Binds K Ig [] [])(aeE:mg "by_sort"=some (.ref Jd))
  {fj:Addr}{eZ:FuncData}(qg:Fun K "fork" "fork" nJ fj eZ)(qe:FnOk P w K mg base CX0 35 fj eZ ["yes","no"] (Bw K))(qd:Binds K eZ ["yes","no"] [])(pW:mg "fork"=some (.ref fj))
  (F:Fun K "stepped" "stepped" nu f fd):FnOk P w K mg base CX0 36 f fd [] (gw K abP):=by
 refine okQ F Dd `S `Q
 ·obtain⟨rfl,_⟩:=h
  rfl
 obtain⟨rfl,q⟩:=h
 refine⟨_,(au (aZ (i:=0) Dd.nd rfl `O (aV bO `n (iQ afc hr rfl aeE afo.kp aeY .nil pass0)))
   (au (aZ (i:=1) Dd.nd rfl `O `n)
   (aq (aQ (aV bO `n (bB (aj (aH qe hr rfl pW qg.kp qd .nil pass0 (aj (qv 0) (aj (qv 1) ak))) ak))))))),?_⟩
 refine⟨_,[5,5],rfl,`C,`C,`C,`B,fun y1 H1 S1 t1=>⟨rfl,fun y2 H2 S2 t2=>cU (t1.mono (.of S2)) t2 (small `B) (fun y3 H3 S3 t3=>?_)⟩⟩
 have S13:=S1.trans (S2.trans S3)
 refine⟨_,[1],rfl,`C,`C,`C,`B,fun y4 H4 S4 t4=>?_⟩
 refine⟨_,[5],rfl,`C,`C,`C,`B,fun y5 H5 S5 t5=>⟨_,rfl,_,rfl,_,_,_,_,rfl,t3.mono (.of (S4.trans S5)),t4.mono (.of S5),⟨`C,`C⟩,⟨`B,`B⟩,fun y6 H6 S6 t6=>⟨`e,fun p7 g7=>?_⟩⟩⟩
 obtain⟨S7,t7⟩:=dJ (K:=K) g7 (jE t6)
 exact cU (t5.mono (.of (S6.trans S7))) t7 (small `B) (fun y8 H8 S8 t8=>q _ _ (S13.trans (S4.trans (S5.trans (S6.trans (S7.trans S8))))) t8)
theorem Xc
  {yS:Addr}{yF:FuncData}(Zi:Fun K "loop" "loop" u5 yS yF)(Zd:FnOk P w K mg base CX0 36 yS yF ["body"] (V6 K))(YS:Binds K yF ["body"] [])(Xw:mg "loop"=some (.ref yS))
  {IW:Addr}{HY:FuncData}(afh:Fun K "stepped" "stepped" nu IW HY)(ae6:FnOk P w K mg base CX0 36 IW HY [] (gw K abP))(aeR:Binds K HY [] [])(aex:mg "stepped"=some (.ref IW))
  {bK:Addr}{bJ:FuncData}(bV:Fun K "plains" "plains" dR bK bJ)(bU:FnOk P w K mg base CX0 36 bK bJ ["names"] (jF K))(bR:Binds K bJ ["names"] [])(bQ:mg "plains"=some (.ref bK))
  (F:Fun K "from_head" "from_head" jL f fd):FnOk P w K mg base CX0 37 f fd [] (gw K abQ):=by
 refine okQ F Wn `S `Q
 ·obtain⟨rfl,_⟩:=h
  rfl
 obtain⟨rfl,q⟩:=h
 refine⟨_,(aq (aQ (aV bO (bB (aj (aH Zd hr rfl Xw Zi.kp YS .nil pass0 (aj (iQ ae6 hr rfl aex afh.kp aeR .nil pass0) ak)) ak)) `n))),?_⟩
 refine⟨rfl,fun y1 H1 S1 t1=>⟨_,_,rfl,t1,`C,`C,fun y2 H2 S2 t2=>⟨`e,fun p3 g3=>?_⟩⟩⟩
 obtain⟨S3,t3⟩:=dJ (K:=K) g3 (jE t2)
 refine⟨_,[1,5,3,1],rfl,`C,`C,`C,`B,fun y4 H4 S4 t4=>cU (t3.mono (.of S4)) t4 (small `B) (fun y5 H5 S5 t5=>q _ _ (S1.trans (S2.trans (S3.trans (S4.trans S5)))) t5)⟩
theorem Vc
  {Jb:Addr}{Ib:FuncData}(afm:Fun K "opening" "opening" nF Jb Ib)(afa:FnOk P w K mg base CX0 37 Jb Ib [] (gw K aht))(aeW:Binds K Ib [] [])(aeC:mg "opening"=some (.ref Jb))
  {Bh:Addr}{Aj:FuncData}(aaH:Fun K "from_head" "from_head" jL Bh Aj)(aaz:FnOk P w K mg base CX0 37 Bh Aj [] (gw K abQ))(aao:Binds K Aj [] [])(Z8:mg "from_head"=some (.ref Bh))
  (F:Fun K "selfrunner" "selfrunner" gB f fd):FnOk P w K mg base CX0 38 f fd [] (gw K zq):=by
 refine okQ F U7 `S `Q
 ·obtain⟨rfl,_⟩:=h
  rfl
 obtain⟨rfl,q⟩:=h
 refine⟨_,(aq (aQ (aV bO (iQ afa hr rfl aeC afm.kp aeW .nil pass0) (iQ aaz hr rfl Z8 aaH.kp aao .nil pass0)))),?_⟩
 exact⟨rfl,fun y1 H1 S1 t1=>⟨rfl,fun y2 H2 S2 t2=>cU (t1.mono (.of S2)) t2 (small `B) (fun y3 H3 S3 t3=>q _ _ (S1.trans (S2.trans S3)) t3)⟩⟩
theorem ZP
  {iu:Addr}{h_:FuncData}(wG:Fun K "lay" "lay" rQ iu h_)(wD:FnOk P w K mg base CX0 32 iu h_ ["tree"] (Jt K))(wz:Binds K h_ ["tree"] [])(v9:mg "lay"=some (.ref iu))
  {bK:Addr}{bJ:FuncData}(bV:Fun K "plains" "plains" dR bK bJ)(bU:FnOk P w K mg base CX0 32 bK bJ ["names"] (jF K))(bR:Binds K bJ ["names"] [])(bQ:mg "plains"=some (.ref bK))
  (F:Fun K "lay_made" "lay_made" lH f fd):FnOk P w K mg base CX0 33 f fd [] (gw K (KY [])):=by
 refine okQ F Zv `S `Q
 ·obtain⟨rfl,_⟩:=h
  rfl
 obtain⟨rfl,q⟩:=h
 refine⟨_,(aq (aQ (aV bO (bB (aj (aH wD hr rfl v9 wG.kp wz .nil pass0 (aj (bB ak) ak)) ak)) `n))),?_⟩
 refine⟨`W,fun p1 g1=>?_⟩
 obtain⟨S1,t1⟩:=dJ (K:=K) (ts:=[]) g1 (bH.mpr rfl)
 refine⟨_,leaf,rfl,t1,`B,`B,fun y2 H2 S2 t2=>⟨`e,fun p3 g3=>?_⟩⟩
 obtain⟨S3,t3⟩:=dJ (K:=K) g3 (jE t2)
 refine⟨_,[4],rfl,`C,`C,`C,`B,fun y4 H4 S4 t4=>cU (t3.mono (.of S4)) t4 (small `B) (fun y5 H5 S5 t5=>q _ _ (S1.trans (S2.trans (S3.trans (S4.trans S5)))) t5)⟩
theorem Xa
  {bK:Addr}{bJ:FuncData}(bV:Fun K "plains" "plains" dR bK bJ)(bU:FnOk P w K mg base CX0 33 bK bJ ["names"] (jF K))(bR:Binds K bJ ["names"] [])(bQ:mg "plains"=some (.ref bK))
  {Fe:Addr}{Er:FuncData}(adw:Fun K "lay_made" "lay_made" lH Fe Er)(adn:FnOk P w K mg base CX0 33 Fe Er [] (gw K (KY [])))(ac4:Binds K Er [] [])(acC:mg "lay_made"=some (.ref Fe))
  (F:Fun K "selfmaker" "selfmaker" jH f fd):FnOk P w K mg base CX0 34 f fd [] (gw K (Gn [])):=by
 refine okQ F Wi `S `Q
 ·obtain⟨rfl,_⟩:=h
  rfl
 obtain⟨rfl,q⟩:=h
 refine⟨_,(aq (aQ (aV bO (aV bO `n (iQ adn hr rfl acC adw.kp ac4 .nil pass0)) `n))),?_⟩
 refine⟨_,[2],rfl,`C,`C,`C,`B,fun y1 H1 S1 t1=>⟨rfl,fun y2 H2 S2 t2=>cU (t1.mono (.of S2)) t2 (small `B) (fun y3 H3 S3 t3=>?_)⟩⟩
 refine⟨_,[4],rfl,`C,`C,`C,`B,fun y4 H4 S4 t4=>cU (t3.mono (.of S4)) t4 (small `B) (fun y5 H5 S5 t5=>q _ _ (S1.trans (S2.trans (S3.trans (S4.trans S5)))) t5)⟩
theorem ZL
  {iu:Addr}{h_:FuncData}(wG:Fun K "lay" "lay" rQ iu h_)(wD:FnOk P w K mg base CX0 31 iu h_ ["tree"] (Jt K))(wz:Binds K h_ ["tree"] [])(v9:mg "lay"=some (.ref iu))
  (F:Fun K "selfmade" "selfmade" lG f fd):FnOk P w K mg base CX0 32 f fd ["body"] (Oj K):=by
 refine okQ F Zt `S `Q
 ·obtain⟨x,b,rfl,_⟩:=h
  rfl
 obtain⟨x,b,rfl,hx,hb,q⟩:=h
 refine⟨_,(aq (aQ (aV bO (bB (aj (aH wD hr rfl v9 wG.kp wz .nil pass0 (aj (qv 0) ak)) ak)) (qv 0)))),?_⟩
 have hl:=hb.len
 refine⟨_,rfl,x,.node b,rfl,hx,by have:=hb.1;lia,by have:=hb.2;lia,fun y1 H1 S1 t1=>⟨`e,fun p2 g2=>?_⟩⟩
 obtain⟨S2,t2⟩:=dJ (K:=K) g2 (jE t1)
 exact⟨_,rfl,cU t2 (hx.mono (.of (S1.trans S2))) (small (by rw[List.length_singleton];lia)) (fun y3 H3 S3 t3=>q _ _ (S1.trans (S2.trans S3)) t3)⟩
theorem Vb
  {E_:Addr}{En:FuncData}(adt:Fun K "selfmade" "selfmade" lG E_ En)(adi:FnOk P w K mg base CX0 34 E_ En ["body"] (Oj K))(ac1:Binds K En ["body"] [])(acz:mg "selfmade"=some (.ref E_))
  {Bc:Addr}{Ag:FuncData}(aaE:Fun K "selfmaker" "selfmaker" jH Bc Ag)(aaw:FnOk P w K mg base CX0 34 Bc Ag [] (gw K (Gn [])))(aal:Binds K Ag [] [])(Z5:mg "selfmaker"=some (.ref Bc))
  (F:Fun K "selfteller" "selfteller" iK f fd):FnOk P w K mg base CX0 35 f fd [] (gw K cj):=by
 refine okQ F U6 `S `Q
 ·obtain⟨rfl,_⟩:=h
  rfl
 obtain⟨rfl,q⟩:=h
 refine⟨_,(aq (aQ (aH adi hr rfl acz adt.kp ac1 .nil pass0 (aj (iQ aaw hr rfl Z5 aaE.kp aal .nil pass0) ak)))),?_⟩
 exact⟨rfl,fun y1 H1 S1 t1=>⟨y1,Gn [],rfl,t1,⟨`C,`C⟩,fun y2 H2 S2 t2=>q _ _ (S1.trans S2) t2⟩⟩
theorem ags(cA:mg "tuple"=none)(JB:mg "zip"=none)
  (F:Fun K "added" "added" qT f fd):FnOk P w K mg base CX0 31 f fd ["one","other"] (aa2 K):=by
 refine okQ F afV `S `Q
 ·obtain⟨a,b,ns,ms,rfl,_⟩:=h
  rfl
 obtain⟨a,b,ns,ms,rfl,ha,hb,hn,hm,q⟩:=h
 refine⟨_,(aq (aQ (lu dW rfl cA jU (aj (ajT rfl (wU (fr:=[]) (js:=[]) (sc:=defScope qT) rfl rfl rfl `C `C `C `C (by exact trivial) `C (fun y hy=>cell_has hy)) rfl `B (ad7 rfl JB (aj (qv 0) (aj (qv 1) ak))) (fun _ _ _ _ _=>(aV op_add (qv 0) (qv 1)))) ak)))),?_⟩
 refine⟨_,rfl,_,rfl,a,b,_,_,rfl,ha,hb,aku (K:=K) `A `A ha hb (fun i j H' R r=>⟨_,rfl,_,rfl,_,_,rfl,rfl,r⟩) (fun D H' S hD=>?_)⟩
 exact⟨D,_,rfl,.inl ⟨SqL.of hD,fun l hl=>q _ _ (S.trans (same_new hl _)) (SqT.of upd_same)⟩⟩
theorem aem(JB:mg "zip"=none)(cA:mg "tuple"=none){oN:Addr}(Mw:mg "ALWAYS"=some (.ref oN))(Lg:∀H,SqT K H oN [.int 2,.int 2,`H,.int 1,.int 2,.int 2,.int 2,`H,`H,`H,.int 1,`H,.int 1,`H,`H]){vD:Addr}(XH:mg "EACH"=some (.ref vD))(GX:∀H,ahR K H vD Ei)
  {Tw:Addr}{SQ:FuncData}(aju:Fun K "added" "added" qT Tw SQ)(ajr:FnOk P w K mg base CX0 31 Tw SQ ["one","other"] (aa2 K))(ajf:Binds K SQ ["one","other"] [])(aiS:mg "added"=some (.ref Tw))
  (F:Fun K "turned" "turned" nj f fd):FnOk P w K mg base CX0 32 f fd ["tally"] (VR K):=by
 refine okQ F uZ `S `Q
 ·obtain⟨a,ns,rfl,_⟩:=h
  rfl
 obtain⟨a,ns,rfl,ha,hn,q⟩:=h
 refine⟨_,(au (aZ (i:=1) uZ.nd rfl `O (aM (v:=.ref oN) rfl Mw rfl))
   (au (xY PassesOwn.never rfl (ad7 rfl JB (aj (qv 0) (aj (aM (v:=.ref vD) rfl XH rfl) ak))) (ajR rfl (Wy (qW (i:=2) uZ.nd rfl (Or.inr rfl)) (Wy (qW (i:=3) uZ.nd rfl `O) aik))) (aq (aZ (i:=1) uZ.nd rfl `O (aH ajr hr rfl aiS aju.kp ajf .nil pass0 (aj (qv 1) (aj (lu dW rfl cA jU (aj (Ow rfl (wU (fr:=["times"]) (js:=[2]) (sc:=defScope nj) rfl rfl rfl `C `C `C `C (by exact⟨⟨rfl,rfl,rfl⟩,trivial⟩) `C (fun y hy=>cell_has hy)) (ad8 (qv 3)) (fun _ _ _ _ _=>(aV vh (qv 1) (qv 0)))) ak)) ak))))))
   (aq (aQ (qv 1))))),?_⟩
 obtain⟨ys,hy,hr2⟩:=GX H
 have hyl:=hr2.length
 have e15:Ei.length=15:=rfl
 refine⟨_,rfl,a,vD,_,_,rfl,ha,hy,?_⟩
 refine ai2 (K:=K) (xs:=ns.map nv) (ys:=ys) (fun i σ' H'=>∃p o2 o3,σ'=[some `I,some (.ref p),o2,o3]/\`N/\SqT K H' p ((Gp (ns.take i) Ei Tq).map nv)) ?_ (by rw[List.length_map];lia) ?_ ?_ ?_
 ·exact⟨oN,_,_,rfl,Same.refl _,(show SqT K H oN (Tq.map nv)from Lg _)⟩
 ·rintro i σ' H' _⟨p,o2,o3,rfl,S,hp⟩
  exact⟨cO (.of S) ha,cO (.of S) hy⟩
 ·rintro i x y σ' H' p2 hx hyi⟨p,o2,o3,rfl,S,hp⟩g2
  have S2:=same_new g2 (.tup [x,y])
  have hi:i<ns.length:=by have:=(List.getElem?_eq_some_iff.mp hx).1;rw[List.length_map]at this;exact this
  have en:ns[i]?=some ns[i]:=List.getElem?_eq_getElem hi
  rw[List.getElem?_map,en]at hx
  cases hx
  obtain⟨r,er,b,rfl,hb⟩:=hr2.get hyi
  refine⟨p2,_,rfl,SqT.of upd_same,rfl,_,_,rfl,_,_,rfl,rfl,?_⟩
  have hrl:=Ng r (List.mem_of_getElem? er)
  have hb':=cO (.of (S.trans S2)) hb
  refine⟨_,rfl,_,rfl,b,rfl,⟨_,hb'⟩,akt (K:=K) (ns:=r) (f:=(ns[i]*·)) `A hb' (fun j H3 R hj r1=>?_) (fun D H3 S3 hD=>?_)⟩
  ·have hle:=ai7 r (List.mem_of_getElem? er) j hj
   have big:(2^64:Int)=18446744073709551616:=`B
   refine⟨_,rfl,_,rfl,_,_,rfl,rfl,.inr ⟨`A,`A⟩,?_⟩
   show R (V.int ((ns[i]:Int)*(j:Int))) H3
   rw[show V.int ((ns[i]:Int)*(j:Int))=nv (ns[i]*j)from congrArg V.int (Int.natCast_mul _ _).symm]
   exact r1
  ·refine⟨D,_,rfl,.inl ⟨SqL.of hD,fun l hl=>⟨p,l,_,_,rfl,cO (.of (S2.trans (S3.trans (same_new hl _)))) hp,SqT.of upd_same,KZ Ng rfl,by rw[List.length_map];exact hrl,fun p4 H4 S4 hp4=>?_⟩⟩⟩
   exact⟨p4,_,_,rfl,S.trans (S2.trans (S3.trans ((same_new hl _).trans S4))),by rw[Ub en er];exact hp4⟩
 ·rintro σ' H'⟨p,o2,o3,rfl,S,hp⟩
  rw[List.length_map,List.take_of_length_le `K]at hp
  exact⟨_,rfl,q p H' S hp⟩
theorem agk(iH:mg "range"=none)
  {ada:Addr}{acS:FuncData}(amf:Fun K "put" "put" Dk ada acS)(ame:FnOk P w K mg base CX0 43 ada acS ["text","tree"] (ahz K))(amd:Binds K acS ["text","tree"] [])(al8:mg "put"=some (.ref ada))
  {iY:Addr}{iU:FuncData}(yZ:Fun K "selfrunner" "selfrunner" gB iY iU)(yW:FnOk P w K mg base CX0 43 iY iU [] (gw K zq))(yP:Binds K iU [] [])(yq:mg "selfrunner"=some (.ref iY))
  (F:Fun K "tower" "tower" tV f fd):FnOk P w K mg base CX0 44 f fd ["height","text"] (V0 K):=by
 refine okQ F Dc `S `Q
 ·obtain⟨x,rfl,_⟩:=h
  rfl
 obtain⟨x,rfl,ht,q⟩:=h
 refine⟨_,(au (aZ (i:=2) Dc.nd rfl `O (qv 1))
   (au (xY PassesOwn.never rfl (zu rfl iH (aj (qv 0) ak)) (qW (i:=3) Dc.nd rfl `O) (aq (aZ (i:=2) Dc.nd rfl `O (aH ame hr rfl al8 amf.kp amd .nil pass0 (aj (iQ yW hr rfl yq yZ.kp yP .nil pass0) (aj (qv 2) ak))))))
   (aq (aQ (qv 2))))),?_⟩
 refine lE (fun v=>[some (.int 1),some x,some v,none]) (fun _=>rfl) (fun v H'=>v=x/\H'=H) (fun R r=>⟨_,rfl,r _ _ ⟨rfl,rfl⟩⟩) (fun v2 H2 h2=>?_)
 obtain⟨rfl,rfl⟩:=h2
 refine⟨_,rfl,1,rfl,`A,`A,?_⟩
 refine Hy (n:=1) (fun i σ' H'=>∃(v:V)(o3:Option V),σ'=[some (.int 1),some v2,some v,o3]/\Same H2 H'/\TR K H' (.node (if i=0 then cj else VD)) v) ?_ ?_ ?_
 ·exact⟨v2,_,rfl,Same.refl _,ht⟩
 ·rintro i σ' H' hi⟨v,o3,rfl,S,tv⟩
  have i0:i=0:=`A
  subst i0
  dsimp only[gName]
  refine⟨rfl,fun y3 H3 S3 t3=>⟨_,rfl,y3,zq,v,.node cj,rfl,t3,tv.mono (.of S3),⟨`C,`C⟩,⟨`C,`C⟩,fun z H4 S4 t4=>⟨z,_,rfl,S.trans (S3.trans S4),t4⟩⟩⟩
 ·rintro σ' H'⟨v,o3,rfl,S,tv⟩
  exact⟨_,rfl,q _ _ S tv⟩
end
section
variable{P:Program}{w:World}{K:W.Frag}{mg:`Y}{base:Heap}{f:Addr}{fd:FuncData}
theorem akd(acE:mg "any"=none){cF:Value}(cI:mg "WHILE"=some cF)(cu:RelV (.int 8) cF){mL:Value}(qm:mg "LAY"=some mL)(mO:RelV `H mL){dj:Value}(dH:mg "FORK"=some dj)(cT:RelV (.int 7) dj){eN:Value}(g_:mg "NAMELESS"=some eN)(eV:RelV (.int 9) eN)
  {dO:Addr}{dN:FuncData}(pF:Fun K "first" "first" jd dO dN)(pD:FnOk P w K mg base CX0 32 dO dN ["tree"] (wK K))(o_:Binds K dN ["tree"] [])(o7:mg "first"=some (.ref dO))
  {gJ:Addr}{gG:FuncData}(vH:Fun K "sort_of" "sort_of" jr gJ gG)(vG:FnOk P w K mg base CX0 32 gJ gG ["word"] (Jr K))(vC:Binds K gG ["word"] [])(vm:mg "sort_of"=some (.ref gJ))
  {gK:Addr}{gH:FuncData}(rH:Fun K "load_of" "load_of" ju gK gH)(rG:FnOk P w K mg base CX0 32 gK gH ["word"] (uY K))(rD:Binds K gH ["word"] [])(qY:mg "load_of"=some (.ref gK))
  (F:Fun K "odd" "odd" uL f fd):FnOk P w K mg base CX0 33 f fd ["word"] (abV K):=by
 refine okQ F adZ `S `Q
 ·obtain⟨x,w,rfl,_⟩:=h
  rfl
 obtain⟨x,w,rfl,ht,hb,q⟩:=h
 have hE:=hr.un
 have hE:(A.deeper (envOfC "odd" (defScope uL) s.heap.objs.size f cdv)).units+401<cLine:=`A
 refine⟨_,(au (bA (QW.pt (ab3 (aU (B_ hE) (qv 0) (bB ak) `P) (Ww (fU (cJ (ag9 rfl) rfl acE aly (aj (Ow rfl (wU (fr:=[]) (js:=[]) (sc:=defScope uL) rfl rfl rfl `C `C `C `C (by exact trivial) `C (fun y hy=>cell_has hy)) (ad8 (aH pD hr rfl o7 pF.kp o_ .nil pass0 (aj (qv 0) ak))) (fun _ _ _ _ _=>(qX (agh (K:=K) rfl rfl hE) (qv 0) (bB ak) `P))) ak)))))) (aq (aQ Ox)) aX)
   (au (aZ (i:=1) adZ.nd rfl `O (aH vG hr rfl vm vH.kp vC .nil pass0 (aj (qv 0) ak)))
   (au (bA (aU G_ (qv 1) (bB (aj (aM (v:=`H) rfl qm mO) (aj (aM (v:=.int 8) rfl cI cu) ak))) rfl) (aq (aQ Ox)) aX)
   (au (bA (aU op_eq (qv 1) (aM (v:=.int 7) rfl dH cT) `P) (aq (aQ (qX (B_ hE) (aH rG hr rfl qY rH.kp rD .nil pass0 (aj (qv 0) ak)) (bB ak) `P))) aX)
   (aq (aQ (al1 (qX op_eq (qv 1) (aM (v:=.int 9) rfl g_ eV) `P) (ad9 (qX (abe hE) (aH rG hr rfl qY rH.kp rD .nil pass0 (aj (qv 0) ak)) (bB ak) `P))))))))),?_⟩
 have hd:=hb.1
 have hp:=hb.2
 have arW:∀t:T,t∈(ats w.kids 0).kids->t.deep<=400:=fun t ht=>by
  have h1:=T.jO ht
  rw[<-wZ]at h1
  have h2:=PK w
  lia
 have kl:(ats w.kids 0).kids.length<=100000:=by
  have:=(gM (Qt (gM hb) 0)).len
  lia
 have asW:(aL w).deep<=400:=Nat.le_trans (vp w) hd
 have hs9:aD w<=9:=by unfold aD;split<;>lia
 refine⟨_,rfl,`W,fun p1 g1=>⟨w,leaf,ht.mono (.new g1),rA upd_same,`A,_,rfl,ite2 (fun h1=>?_) (fun h1=>?_)⟩⟩
 ·have e:gb w=true:=by unfold gb wV;rw[h1];rfl
  rw[e]at q
  exact iteT (q _ (same_new g1 _))
 have h1:T.beq w leaf=false:=Bool.eq_false_iff.mpr h1
 have S1:=same_new g1 (.tup [])
 refine⟨_,rfl,x,w,rfl,ht.mono (.of S1),hd,fun y H2 S2 t2=>?_⟩
 obtain⟨a2,xs2,rfl,q2,r2⟩:=cB.mp (mJ t2)
 refine⟨a2,rfl,⟨_,q2⟩,aiV (fun t=>.bl (!T.beq t leaf)) q2 r2 (small (by rw[r2.length];lia)) (fun t z H' R hm S tz hR=>⟨_,rfl,`W,fun p3 g3=>⟨t,leaf,tz.mono (.new g3),rA upd_same,by have:=arW t hm;lia,hR _ (same_new g3 _)⟩⟩) (fun D H3 S3 h3=>?_)⟩
 refine⟨D,(ats w.kids 0).kids.map fun t=>!T.beq t leaf,rfl,SqL.of (by rw[h3,List.map_map];rfl),_,rfl,?_⟩
 have S13:=S1.trans (S2.trans S3)
 have eh:wV w=((ats w.kids 0).kids.map fun t=>!T.beq t leaf).any id:=by unfold wV;rw[h1,List.any_map];rfl
 rw[<-eh]
 refine ite2 (fun h2=>?_) (fun h2=>?_)
 ·have e:gb w=true:=by unfold gb;rw[h2];rfl
  rw[e]at q
  exact q _ S13
 have eo:gb w=if aD w=0\/aD w=8 then false else if aD w=7 then T.beq (aL w) leaf else(decide (aD w=9)|| !T.beq (aL w) leaf):=by unfold gb;rw[if_neg h2]
 dsimp only[tNext]
 refine lE (fun v=>[some x,some v]) (fun _=>rfl) (fun v H'=>v=.int (aD w:Nat)/\`N) (fun R r=>⟨_,rfl,x,w,rfl,ht.mono (.of S13),hd,fun H4 S4=>r _ _ ⟨rfl,S13.trans S4⟩⟩) (fun v4 H4 h4=>?_)
 obtain⟨rfl,S4⟩:=h4
 refine⟨_,rfl,(by show 2<=sizeLine;decide),fun p5 g5=>⟨p5,_,rfl,.inr (SqT.of upd_same),rfl,rfl,_,rfl,?_⟩⟩
 have S5:=S4.trans (same_new g5 (.tup [`H,.int 8]))
 have ei:(if false=true then !inV (.int ((aD w:Nat):Int)) [`H,.int 8]else inV (.int ((aD w:Nat):Int)) [`H,.int 8])=decide (aD w=0\/aD w=8):=by
  rw[if_neg `B]
  unfold inV
  rw[List.any_cons,List.any_cons,List.any_nil,Bool.or_false]
  show(((0:Int)==((aD w:Nat):Int))||((8:Int)==((aD w:Nat):Int)))=_
  rw[Bool.eq_iff_iff,Bool.or_eq_true,beq_iff_eq,beq_iff_eq,decide_eq_true_iff]
  lia
 rw[ei]
 refine ite2 (fun h3=>?_) (fun h3=>?_)
 ·rw[eo,if_pos (of_decide_eq_true h3)]at q
  exact q _ S5
 rw[eo,if_neg (fun z=>h3 (decide_eq_true z))]at q
 refine⟨_,rfl,rfl,_,rfl,ite2 (fun h7=>?_) (fun h7=>?_)⟩
 ·have e7:aD w=7:=by have:=V.int.inj (of_decide_eq_true h7);lia
  rw[if_pos e7]at q
  exact⟨_,rfl,x,w,rfl,ht.mono (.of S5),fun y H6 S6 t6=>⟨`W,fun p7 g7=>⟨aL w,leaf,t6.mono (.new g7),rA upd_same,`A,q _ (S5.trans (S6.trans (same_new g7 _)))⟩⟩⟩
 ·have e7:aD w≠7:=fun z=>h7 (by rw[z];exact decide_eq_true rfl)
  rw[if_neg e7]at q
  refine⟨_,rfl,rfl,_,rfl,ite2 (fun h9=>?_) (fun h9=>?_)⟩
  ·have e9:aD w=9:=by have:=V.int.inj (of_decide_eq_true h9);lia
   rw[decide_eq_true e9,Bool.true_or]at q
   exact q _ S5
  ·have e9:aD w≠9:=fun z=>h9 (by rw[z];exact decide_eq_true rfl)
   rw[decide_eq_false e9,Bool.false_or]at q
   exact⟨_,rfl,x,w,rfl,ht.mono (.of S5),fun y H6 S6 t6=>⟨`W,fun p7 g7=>⟨aL w,leaf,t6.mono (.new g7),rA upd_same,`A,q _ (S5.trans (S6.trans (same_new g7 _)))⟩⟩⟩
theorem acd{mL:Value}(qm:mg "LAY"=some mL)(mO:RelV `H mL){dj:Value}(dH:mg "FORK"=some dj)(cT:RelV (.int 7) dj){bh:Addr}(d7:mg "NAMES"=some (.ref bh))(jg:∀H,SqT K H bh [.str (PySem.Str.ofString "lay"),.str (PySem.Str.ofString "drop"),.str (PySem.Str.ofString "twin"),.str (PySem.Str.ofString "swap"),.str (PySem.Str.ofString "front"),.str (PySem.Str.ofString "part"),.str (PySem.Str.ofString "turn"),.str (PySem.Str.ofString "fork"),.str (PySem.Str.ofString "while")]){cF:Value}(cI:mg "WHILE"=some cF)(cu:RelV (.int 8) cF)
  {Fd:Addr}{Ep:FuncData}(adv:Fun K "odd" "odd" uL Fd Ep)(adl:FnOk P w K mg base CX0 33 Fd Ep ["word"] (abV K))(ac3:Binds K Ep ["word"] [])(acB:mg "odd"=some (.ref Fd))
  {Bb:Addr}{Af:FuncData}(Kw:Fun K "show_tree" "show_tree" jG Bb Af)(Kv:FnOk P w K mg base CX0 33 Bb Af ["tree"] (aaT K))(Ku:Binds K Af ["tree"] [])(Kg:mg "show_tree"=some (.ref Bb))
  {gJ:Addr}{gG:FuncData}(vH:Fun K "sort_of" "sort_of" jr gJ gG)(vG:FnOk P w K mg base CX0 33 gJ gG ["word"] (Jr K))(vC:Binds K gG ["word"] [])(vm:mg "sort_of"=some (.ref gJ))
  {gK:Addr}{gH:FuncData}(rH:Fun K "load_of" "load_of" ju gK gH)(rG:FnOk P w K mg base CX0 33 gK gH ["word"] (uY K))(rD:Binds K gH ["word"] [])(qY:mg "load_of"=some (.ref gK))
  {dO:Addr}{dN:FuncData}(pF:Fun K "first" "first" jd dO dN)(pD:FnOk P w K mg base CX0 33 dO dN ["tree"] (wK K))(o_:Binds K dN ["tree"] [])(o7:mg "first"=some (.ref dO))
  {oM:Addr}{oF:FuncData}(Jk:Fun K "rest" "rest" rP oM oF)(Ji:FnOk P w K mg base CX0 33 oM oF ["tree"] (uY K))(Iu:Binds K oF ["tree"] [])(Ho:mg "rest"=some (.ref oM))
  (F:Fun K "spelled" "spelled" nA f fd):FnOk P w K mg base CX0 34 f fd ["word"] (Ud K):=by
 refine okQ F Df `S `Q
 ·obtain⟨x,w,rfl,_⟩:=h
  rfl
 obtain⟨x,w,rfl,ht,hb,q⟩:=h
 refine⟨_,(au (bA (fU (aH adl hr rfl acB adv.kp ac3 .nil pass0 (aj (qv 0) ak))) (aq (aQ (bB (aj (aV Pg bM (aH Kv hr rfl Kg Kw.kp Ku .nil pass0 (aj (qv 0) ak))) ak)))) aX)
   (au (aZ (i:=1) Df.nd rfl `O (aH vG hr rfl vm vH.kp vC .nil pass0 (aj (qv 0) ak)))
   (au (aZ (i:=2) Df.nd rfl `O (aH rG hr rfl qY rH.kp rD .nil pass0 (aj (qv 0) ak)))
   (au (bA (aU op_eq (qv 1) (aM (v:=`H) rfl qm mO) `P) (aq (aQ (bB (aj (aV Pg bM (aH Kv hr rfl Kg Kw.kp Ku .nil pass0 (aj (qv 2) ak))) ak)))) aX)
   (au (bA (aU op_eq (qv 1) (aM (v:=.int 7) rfl dH cT) `P) (aq (aQ (aV bO (aV bO (aV bO (aV bO (bB (aj (cW gY (aM (v:=.ref bh) rfl d7 rfl) (aM (v:=.int 7) rfl dH cT) (fun _ _=>rfl)) (aj bM ak))) (aH pD hr rfl o7 pF.kp o_ .nil pass0 (aj (qv 2) ak))) (bB (aj bM ak))) (aH Ji hr rfl Ho Jk.kp Iu .nil pass0 (aj (qv 2) ak))) (bB (aj bM ak))))) aX)
   (au (bA (aU op_eq (qv 1) (aM (v:=.int 8) rfl cI cu) `P) (aq (aQ (aV bO (aV bO (bB (aj (cW gY (aM (v:=.ref bh) rfl d7 rfl) (aM (v:=.int 8) rfl cI cu) (fun _ _=>rfl)) (aj bM ak))) (qv 2)) (bB (aj bM ak))))) aX)
   (aq (aQ (bB (aj (cW gY (aM (v:=.ref bh) rfl d7 rfl) (qv 1) (fun _ _=>rfl)) ak)))))))))),?_⟩
 have hd:=hb.1
 have hp:=hb.2
 have nmq:∀H,SqT K H bh rW:=fun H=>by rw[<-Mj];exact jg H
 have hlp:(aL w).parts<=100000:=by
  have:=wR w
  have:=T.eY (aL w)
  lia
 have hld:=vp w
 have hbl:B 400 100000 (aL w):=⟨`A,hlp⟩
 have kl:=(gM hbl).len
 have ky:=(gM (Qt (gM hbl) 0)).len
 have kn:=(gM (pG hbl)).len
 refine⟨_,rfl,x,w,rfl,ht,hb,fun H1 S1=>⟨_,rfl,ite2 (fun ho=>?_) (fun ho=>?_)⟩⟩
 ·have e:cL w=[.inr (33::w.wr)]:=by unfold cL;rw[if_pos ho]
  rw[e]at q
  refine⟨_,rfl,x,w,rfl,ht.mono (.of S1),hp,fun H2 S2=>⟨_,_,rfl,rfl,?_,`e,fun p3 g3=>?_⟩⟩
  ·rw[QD,jo,jo,T.pN]
   exact small (by show 1+_<=_;lia)
  ·obtain⟨S3,t3⟩:=itN (K:=K) g3 (aO.one (show IR K _ (.inr (33::w.wr)) (.str (PySem.Str.ofString "!"++tx w.wr))from congrArg V.str (by rw[QD,zm];rfl)))
   exact q _ _ (S1.trans (S2.trans S3)) t3
 have ho:gb w=false:=Bool.eq_false_iff.mpr ho
 have h8:=Xj ho
 dsimp only[tNext]
 refine lE (fun v=>[some x,some v,none]) (fun _=>rfl) (fun v H'=>v=.int (aD w:Nat)/\`N) (fun R r=>⟨_,rfl,x,w,rfl,ht.mono (.of S1),hd,fun H4 S4=>r _ _ ⟨rfl,S1.trans S4⟩⟩) (fun v4 H4 h4=>?_)
 obtain⟨rfl,S4⟩:=h4
 refine lE (fun v=>[some x,some (.int (aD w:Nat)),some v]) (fun _=>rfl) (fun v H'=>TR K H' (aL w) v/\`N) (fun R r=>⟨_,rfl,x,w,rfl,ht.mono (.of S4),fun y H5 S5 t5=>r _ _ ⟨t5,S4.trans S5⟩⟩) (fun v5 H5 h5=>?_)
 obtain⟨t5,S5⟩:=h5
 refine⟨_,rfl,rfl,_,rfl,ite2 (fun h0=>?_) (fun h0=>?_)⟩
 ·have e0:aD w=0:=by have:=V.int.inj (of_decide_eq_true h0);lia
  have e:cL w=[.inr (39::(aL w).wr)]:=by unfold cL;rw[if_neg (by rw[ho];decide),if_pos e0]
  rw[e]at q
  refine⟨_,rfl,v5,aL w,rfl,t5,hlp,fun H6 S6=>⟨_,_,rfl,rfl,?_,`e,fun p7 g7=>?_⟩⟩
  ·rw[Jo,jo,jo,T.pN]
   exact small (by show 1+_<=_;lia)
  ·obtain⟨S7,t7⟩:=itN (K:=K) g7 (aO.one (show IR K _ (.inr (39::(aL w).wr)) (.str (PySem.Str.ofString "'"++tx (aL w).wr))from congrArg V.str (by rw[Jo,zm];rfl)))
   exact q _ _ (S5.trans (S6.trans S7)) t7
 have e0:aD w≠0:=fun z=>h0 (by rw[z];exact decide_eq_true rfl)
 refine⟨_,rfl,rfl,_,rfl,ite2 (fun h7=>?_) (fun h7=>?_)⟩
 ·have e7:aD w=7:=by have:=V.int.inj (of_decide_eq_true h7);lia
  have e:cL w=[.inr (nmC 7),.inr [91]]++(ats (aL w).kids 0).kids.map .inl++[.inr [124]]++(aL (aL w)).kids.map .inl++[.inr [93]]:=by unfold cL;rw[if_neg (by rw[ho];decide),if_neg `A,if_pos e7]
  rw[e]at q
  refine⟨bh,_,7,_,rfl,rfl,nmq _,gj (k:=7) `B,(by show 2<=sizeLine;decide),fun p6 g6=>?_⟩
  obtain⟨S6,t6⟩:=itN (K:=K) g6 (xs:=[.str (tx (nmC 7)),.str (PySem.Str.ofString "[")]) (its:=[.inr (nmC 7),.inr [91]]) (.cons rfl (.cons (congrArg V.str jY) .nil))
  refine⟨_,rfl,v5,aL w,rfl,t5.mono (.of S6),`A,fun y7 H7 S7 t7=>Jz (t6.mono (.of S7)) (TR.it (mJ t7)) (small (by rw[List.length_map];show 2+_<=_;lia)) (fun z8 H8 S8 t8=>⟨`e,fun p9 g9=>?_⟩)⟩
  obtain⟨S9,t9⟩:=itN (K:=K) g9 (xs:=[.str (PySem.Str.ofString "|")]) (its:=[.inr [124]]) (.cons (congrArg V.str Gk) .nil)
  have S69:=S6.trans (S7.trans (S8.trans S9))
  refine Jz (t8.mono (.of S9)) t9 (small (by rw[List.length_append,List.length_map];show 2+_+1<=_;lia)) (fun z10 H10 S10 t10=>⟨_,rfl,v5,aL w,rfl,t5.mono (.of (S69.trans S10)),fun y11 H11 S11 t11=>Jz (t10.mono (.of S11)) (TR.it (mJ t11)) (small (by rw[List.length_append,List.length_append,List.length_map,List.length_map];show 2+_+1+_<=_;lia)) (fun z12 H12 S12 t12=>⟨`e,fun p13 g13=>?_⟩)⟩)
  obtain⟨S13,t13⟩:=itN (K:=K) g13 (xs:=[.str (PySem.Str.ofString "]")]) (its:=[.inr [93]]) (.cons (congrArg V.str Og) .nil)
  exact Jz (t12.mono (.of S13)) t13 (small (by rw[List.length_append,List.length_append,List.length_append,List.length_map,List.length_map];show 2+_+1+_+1<=_;lia)) (fun z14 H14 S14 t14=>q _ _ (S5.trans (S69.trans (S10.trans (S11.trans (S12.trans (S13.trans S14)))))) t14)
 have e7:aD w≠7:=fun z=>h7 (by rw[z];exact decide_eq_true rfl)
 refine⟨_,rfl,rfl,_,rfl,ite2 (fun h8'=>?_) (fun h8'=>?_)⟩
 ·have e8:aD w=8:=by have:=V.int.inj (of_decide_eq_true h8');lia
  have e:cL w=[.inr (nmC 8),.inr [91]]++(aL w).kids.map .inl++[.inr [93]]:=by unfold cL;rw[if_neg (by rw[ho];decide),if_neg `A,if_neg `A,if_pos e8]
  rw[e]at q
  refine⟨bh,_,8,_,rfl,rfl,nmq _,gj (k:=8) `B,(by show 2<=sizeLine;decide),fun p6 g6=>?_⟩
  obtain⟨S6,t6⟩:=itN (K:=K) g6 (xs:=[.str (tx (nmC 8)),.str (PySem.Str.ofString "[")]) (its:=[.inr (nmC 8),.inr [91]]) (.cons rfl (.cons (congrArg V.str jY) .nil))
  refine⟨_,rfl,Jz t6 (TR.it (mJ (t5.mono (.of S6)))) (small (by rw[List.length_map];show 2+_<=_;lia)) (fun z8 H8 S8 t8=>⟨`e,fun p9 g9=>?_⟩)⟩
  obtain⟨S9,t9⟩:=itN (K:=K) g9 (xs:=[.str (PySem.Str.ofString "]")]) (its:=[.inr [93]]) (.cons (congrArg V.str Og) .nil)
  exact Jz (t8.mono (.of S9)) t9 (small (by rw[List.length_append,List.length_map];show 2+_+1<=_;lia)) (fun z10 H10 S10 t10=>q _ _ (S5.trans (S6.trans (S8.trans (S9.trans S10)))) t10)
 have e8:aD w≠8:=fun z=>h8' (by rw[z];exact decide_eq_true rfl)
 have e:cL w=[.inr (nmC (aD w))]:=by unfold cL;rw[if_neg (by rw[ho];decide),if_neg e0,if_neg e7,if_neg e8]
 rw[e]at q
 refine⟨_,rfl,bh,_,_,_,rfl,rfl,nmq _,gj (k:=aD w) `A,`e,fun p6 g6=>?_⟩
 obtain⟨S6,t6⟩:=itN (K:=K) g6 (its:=[.inr (nmC (aD w))]) (.cons rfl .nil)
 exact q _ _ (S5.trans S6) t6
end
section
variable{P:Program}{w:World}{K:W.Frag}{mg:`Y}{base:Heap}{f:Addr}{fd:FuncData}
theorem ahX{a b:Nat}{w:T}(h:B a b w):∀t:T,(.inl t:Itm)∈cL w->B a b t:=by
 have h1:=gM (pG h)
 have h2:=gM (pG (pG h))
 have hy:B a b (.node (ats (aL w).kids 0).kids):=by
  cases hk:(aL w).kids with
  |nil=>exact JM.le `W (by have:=h.2;have:=T.fO w;lia)
  |cons y r=>exact gM (wH h1 (by rw[hk];exact List.mem_cons_self))
 have wds:∀ts:`D,B a b (.node ts)->∀t:T,(.inl t:Itm)∈ts.map (.inl:T->Itm)->B a b t:=fun ts hb t ht=>by
  obtain⟨u,hu,e⟩:=List.mem_map.mp ht
  cases e
  exact wH hb hu
 have no:∀(t:T)(l:`F),¬(.inl t:Itm)∈[(.inr l:Itm)]:=fun t l z=>by simp at z
 have no2:∀(t:T)(l m:`F),¬(.inl t:Itm)∈[(.inr l:Itm),.inr m]:=fun t l m z=>by simp at z
 intro t ht
 unfold cL at ht
 split at ht
 ·exact absurd ht (no _ _)
 split at ht
 ·exact absurd ht (no _ _)
 split at ht
 ·rcases List.mem_append.mp ht with ht|ht
  ·rcases List.mem_append.mp ht with ht|ht
   ·rcases List.mem_append.mp ht with ht|ht
    ·rcases List.mem_append.mp ht with ht|ht
     ·exact absurd ht (no2 _ _ _)
     ·exact wds _ hy t ht
    ·exact absurd ht (no _ _)
   ·exact wds _ h2 t ht
  ·exact absurd ht (no _ _)
 split at ht
 ·rcases List.mem_append.mp ht with ht|ht
  ·rcases List.mem_append.mp ht with ht|ht
   ·exact absurd ht (no2 _ _ _)
   ·exact wds _ h1 t ht
  ·exact absurd ht (no _ _)
 ·exact absurd ht (no _ _)
def WSx(K:W.Frag)(H:Hp)(x:V)(w:`R)(p1 p2:Addr):Nat->Sg->`M:=fun m σ H'=>∃(ys:`E)(its:List Itm)(ds qs:`R)(o:Option V),
 σ=[some x,some (.ref p1),some (.ref p2),o]/\`N/\H' p1=some (.lst (ds.map fun c=>V.str (tx c)))/\H' p2=some (.lst ys)/\aO (IR K H') its ys.reverse/\qO its qs/\ds++qs=w/\(∀t:T,(.inl t:Itm)∈its->B 400 100000 t)/\wtL its<=500000/\m=wtL its
theorem aiF(pU:mg "list"=none)(cX:mg "reversed"=none)(aY:mg "isinstance"=none)(v8:mg "str"=none)
  {I_:Addr}{H_:FuncData}(afi:Fun K "spelled" "spelled" nA I_ H_)(ae7:FnOk P w K mg base CX0 34 I_ H_ ["word"] (Ud K))(aeS:Binds K H_ ["word"] [])(aey:mg "spelled"=some (.ref I_))
  (F:Fun K "show" "show" xT f fd):FnOk P w K mg base CX0 35 f fd ["text"] (aaS K):=by
 refine okQ F Ju `S `Q
 ·obtain⟨x,ts,ps,rfl,_⟩:=h
  rfl
 obtain⟨x,ts,ps,rfl,ht,hts,hb,q⟩:=h
 refine⟨_,(au (aZ (i:=1) Ju.nd rfl `O (iM ak))
   (au (aZ (i:=2) Ju.nd rfl `O (Dl rfl rfl pU cX rfl (qv 0)))
   (au (tZ PassesOwn.never (xX (qv 2) (fun _=>rfl)) (au (aZ (i:=3) Ju.nd rfl `O (j_ PySem.F.plainAttrs_list PySem.F.slot_list_pop PySem.F.type_list_pop jx (qv 2)))
   (aq (bA (fU (cJ YD rfl aY cV (aj (qv 3) (aj (Ri (v:=.ty "str") rfl v8 YG rfl) ak)))) (aq (bY (cN PySem.F.plainAttrs_list PySem.F.slot_list_append PySem.F.type_list_append bW (qv 1) (aj (qv 3) ak)))) (aq (bY (cN PySem.F.plainAttrs_list PySem.F.slot_list_extend PySem.F.type_list_extend Uq (qv 2) (aj (Dl rfl rfl pU cX rfl (aH ae7 hr rfl aey afi.kp aeS .nil pass0 (aj (qv 3) ak))) ak))))))))
   (aq (aQ (cN PySem.F.plainAttrs_str PySem.F.slot_str_join PySem.F.type_str_join agC bM (aj (qv 1) ak))))))),?_⟩
 obtain⟨a,xs,rfl,ha,ra⟩:=cB.mp ht
 have hsz:=Jp hts
 have hpl:T.aN ts<80000:=by have:=hb.2;rw[T.aR]at this;lia
 have hdl:ps.length<=960000:=by unfold szP at hsz;lia
 refine⟨`W,fun p1 g1=>?_⟩
 have S1:=same_new g1 (.lst [])
 refine⟨_,rfl,a,xs,rfl,cO (.of S1) ha,fun p2 g2=>?_⟩
 have n12:p1≠p2:=fun z=>by rw[<-z,upd_same]at g2;cases g2
 have hp2':H p2=none:=S1.free g2
 refine⟨WSx K H `I ps p1 p2,⟨_,xs.reverse,ts.map .inl,[],ps,none,rfl,S1.trans (same_new g2 _),by rw[upd_ne n12];exact upd_same,upd_same,?_,BW hts,rfl,fun t hm=>?_,?_,rfl⟩,?_⟩
 ·rw[List.reverse_reverse]
  exact M5 ((ra.mono (.of S1)).mono (.new g2))
 ·obtain⟨u,hu,e⟩:=List.mem_map.mp hm
  cases e
  exact(wH hb hu).le `K `A
 ·rw[uR]
  lia
 rintro m σ H'⟨ys,its,ds,qs,o,rfl,S,h1,h2,hw,hO,hc,hB,hW,rfl⟩
 have hl:=hw.length
 rw[List.length_reverse]at hl
 have hol:=Jm its
 have hcl:ds.length+qs.length=ps.length:=by rw[<-hc,List.length_append]
 refine⟨_,rfl,!ys.isEmpty,.inl ⟨ys,SqL.of h2,rfl⟩,?_⟩
 refine ite2 (fun hb=>?_) (fun hb=>?_)
 ·have hne:ys≠[]:=by rintro rfl;exact absurd hb `B
  obtain⟨y,hy⟩:=RP hne
  have ey:=Ux hy
  have er:ys.reverse=y::ys.dropLast.reverse:=by
   have:=congrArg List.reverse ey
   rw[List.reverse_append]at this
   exact this
  rw[er]at hw
  match its,hw,hO,hB,hW,hol,hl with
  |it::its',.cons hwy hw',hO1,hB,hW,hol,hl=>
  refine⟨fun σ' H'=>∃m',m'<wtL (it::its')/\WSx K H `I ps p1 p2 m' σ' H',fun _ _ h=>h,?_⟩
  refine⟨_,rfl,.inl ⟨rfl,_,SqL.of h2⟩,p2,ys,_,rfl,rfl,h2,hy,?_⟩
  have hwd:=hw'.imp (S:=IR K (upd H' p2 (.lst ys.dropLast))) fun _ _=>IR.mono (Kt.lst h2)
  have S2:Same H (upd H' p2 (.lst ys.dropLast)):=bN S hp2'
  have h12:upd H' p2 (.lst ys.dropLast) p1=some (.lst (ds.map fun c=>V.str (tx c))):=by rw[upd_ne n12];exact h1
  have h22:upd H' p2 (.lst ys.dropLast) p2=some (.lst ys.dropLast):=upd_same
  have hyk:IR K (upd H' p2 (.lst ys.dropLast)) it y:=IR.mono (Kt.lst h2) hwy
  generalize upd H' p2 (.lst ys.dropLast)=H2 at hwd S2 h12 h22 hyk
  have ama:ys.dropLast.length=its'.length:=by rw[List.length_dropLast,hl];rfl
  rw[xH]at hW
  cases it with
  |inr l=>
   have ey2:y=.str (tx l):=hyk
   subst ey2
   cases hO1 with
   |txt hO2=>
   refine⟨_,rfl,.inl ⟨.str (tx l),"str",.type "str",true,rfl,TyOf.str _,by rfl,_,rfl,iteT ?_⟩⟩
   refine⟨_,rfl,.inl ⟨rfl,_,SqL.of h12⟩,_,rfl,p1,_,_,rfl,rfl,h12,mX (by rw[List.length_map];lia),?_⟩
   refine⟨_,?_,ys.dropLast,its',ds++[l],_,_,rfl,bN S2 g1,?_,by rw[upd_ne (Ne.symm n12)];exact h22,hwd.imp fun _ _=>IR.mono (Kt.lst h12),hO2,?_,fun t ht=>hB t (List.mem_cons_of_mem _ ht),`A,rfl⟩
   ·rw[xH]
    show _<1+_
    lia
   ·rw[upd_same,List.map_append]
    rfl
   ·rw[<-hc,List.append_assoc]
    rfl
  |inl t=>
   have bt:=hB t List.mem_cons_self
   have hty:TR K H2 t y:=hyk
   obtain⟨a4,zs4,rfl,q4,_⟩:=wB hty
   cases hO1 with
   |word hwr hO2=>
   refine⟨_,rfl,.inr ⟨a4,_,"str",false,rfl,q4,by rfl,_,rfl,iteF ?_⟩⟩
   refine⟨_,rfl,.inl ⟨rfl,_,SqL.of h22⟩,_,rfl,.ref a4,t,rfl,hty,bt,fun z H3 S3 it3=>?_⟩
   obtain⟨a5,zs,rfl,q5,r5⟩:=it3
   have h23:=S3 _ _ h22
   have h13:=S3 _ _ h12
   have hsw:=afH t
   have hsl:=Jm (cL t)
   have hzl:=r5.length
   have hti:wtI (.inl t)=5*t.parts:=rfl
   refine⟨a5,zs,rfl,q5,fun l gl=>?_⟩
   have n2l:p2≠l:=ne_of_none h23 gl
   have n1l:p1≠l:=ne_of_none h13 gl
   have h24:upd H3 l (.lst zs.reverse) p2=some (.lst ys.dropLast):=by rw[upd_ne n2l];exact h23
   refine⟨p2,l,ys.dropLast,zs.reverse,rfl,rfl,h24,upd_same,small (by rw[List.length_reverse,ama,hzl];have:=Jm its';lia),?_⟩
   have k5:Kt H3 (upd (upd H3 l (.lst zs.reverse)) p2 (.lst (ys.dropLast++zs.reverse))):=(Kt.new gl).trans (Kt.lst h24)
   refine⟨_,?_,ys.dropLast++zs.reverse,cL t++its',ds,_,_,rfl,bN ((S2.trans S3).trans (same_new gl _)) hp2',?_,upd_same,?_,(ab6 hwr).append hO2,hc,fun u hu=>?_,?_,rfl⟩
   ·rw[jl,xH]
    lia
   ·rw[upd_ne n12,upd_ne n1l]
    exact h13
   ·rw[List.reverse_append,List.reverse_reverse]
    exact(r5.imp fun _ _=>IR.mono k5).append (hwd.imp fun _ _=>IR.mono ((Kt.of S3).trans k5))
   ·rcases List.mem_append.mp hu with hu|hu
    ·exact ahX bt u hu
    ·exact hB u (List.mem_cons_of_mem _ hu)
   ·rw[jl]
    lia
 ·have hys:ys=[]:=by
   cases ys with
   |nil=>rfl
   |cons _ _=>exact absurd rfl hb
  subst hys
  have hos:its=[]:=List.length_eq_zero_iff.mp hl.symm
  subst hos
  cases hO
  rw[List.append_nil]at hc
  subst hc
  refine⟨rfl,_,rfl,p1,[32],ds,(by rw[show Str.ofString " "=tx [32]from Vw]),rfl,SqL.of h1,?_,q _ S⟩
  unfold szP at hsz
  show _+_*1<=_
  lia
end
abbrev oX:Stmt:=inClass (top 83) 0
abbrev BK:Stmt:=inClass (top 83) 1
abbrev wN:Stmt:=inClass (top 83) 2
abbrev wM:Stmt:=inClass (top 83) 3
abbrev lY:Stmt:=inClass (top 83) 4
abbrev oW:Stmt:=inClass (top 83) 5
abbrev wL:Stmt:=inClass (top 83) 6
theorem Zy:FnScope ["self"] ["self"] (defScope oX):=`T
theorem ah2:FnScope ["self","piece"] ["self","piece"] (defScope BK):=`T
theorem afT:FnScope ["self","place"] ["self","place"] (defScope wN):=`T
theorem afQ:FnScope ["self"] ["self"] (defScope wM):=`T
theorem Gw:FnScope ["self","no"] ["self"] (defScope lY):=`T
theorem Zx:FnScope ["self","word"] ["self","word"] (defScope oW):=`T
theorem afO:FnScope ["self"] ["self"] (defScope wL):=`T
section
variable{P:Program}{w:World}{K:W.Frag}{mg:`Y}{base:Heap}{f:Addr}{fd:FuncData}
theorem ZS{C:Addr}(cC:Cls K C)(nR:NoAttr K C "rows")(nP:NoAttr K C "places")(nN:NoAttr K C "named")
  (F:Fun K "__init__" "Reading.__init__" oX f fd):FnOk P w K mg base CX0 31 f fd ["self"] (spInit K C):=by
 refine okQ F Zy `S `Q
 ·obtain⟨o,dx,H₀,rfl,_⟩:=h
  rfl
 obtain⟨o,dx,H₀,rfl,S0,o0,ho,q⟩:=h
 refine⟨_,(au (cP (qv 0) (iM (aj (iM ak) ak)) rfl)
   (au (cP (qv 0) (iM (aj bM ak)) rfl)
   (aq (cP (qv 0) bM rfl)))),?_⟩
 refine⟨`W,fun q1 g1=>⟨`e,fun q2 g2=>?_⟩⟩
 have S1:=same_new g1 (.lst [])
 have S2:=same_new g2 (.lst [.ref q1])
 have n21:q1≠q2:=fun z=>by rw[<-z,upd_same]at g2;cases g2
 have o1:o≠q1:=ne_of_none ho g1
 have o2:o≠q2:=ne_of_none (S1 _ _ ho) g2
 have ho2:=S2 _ _ (S1 _ _ ho)
 have h1a:=S2 _ _ (upd_same (H:=H) (a:=q1) (o:=.lst []))
 have h2a:upd (upd H q1 (.lst [])) q2 (.lst [.ref q1]) q2=some (.lst [.ref q1]):=upd_same
 have S12:=S1.trans S2
 generalize upd (upd H q1 (.lst [])) q2 (.lst [.ref q1])=Ha at ho2 h1a h2a S12
 refine⟨_,rfl,o,C,dx,_,rfl,ho2,cC,nR,(by show 0<1000;decide),`e,fun q3 g3=>?_⟩
 have k1:=Kt.ins (x:=.ins C dx (putF "rows" (.ref q2) [])) ho2
 have hb0:upd Ha o (.ins C dx (putF "rows" (.ref q2) [])) o=some (.ins C dx (putF "rows" (.ref q2) [])):=upd_same
 have hb1:upd Ha o (.ins C dx (putF "rows" (.ref q2) [])) q1=some (.lst []):=by rw[upd_ne (Ne.symm o1)];exact h1a
 have hb2:upd Ha o (.ins C dx (putF "rows" (.ref q2) [])) q2=some (.lst [.ref q1]):=by rw[upd_ne (Ne.symm o2)];exact h2a
 have Sb:Same H₀ (upd Ha o (.ins C dx (putF "rows" (.ref q2) []))):=bN (S0.trans S12) o0
 generalize upd Ha o (.ins C dx (putF "rows" (.ref q2) []))=Hb at g3 k1 hb0 hb1 hb2 Sb|-
 have S3:=same_new g3 (.lst [.str (PySem.Str.ofString "text")])
 have o3:o≠q3:=ne_of_none hb0 g3
 have n13:q1≠q3:=ne_of_none hb1 g3
 have n23:q2≠q3:=ne_of_none hb2 g3
 have hl1:(putF "rows" (.ref q2) []).length<=1:=uf _ _ _
 have hl2:=uf "places" (.ref q3) (putF "rows" (.ref q2) [])
 refine⟨_,rfl,o,C,dx,_,rfl,S3 _ _ hb0,cC,nP,`A,?_⟩
 refine⟨_,rfl,o,C,dx,_,rfl,upd_same,cC,nN,`A,?_⟩
 have kc0:=S3 _ _ hb0
 have hc1:=S3 _ _ hb1
 have hc2:=S3 _ _ hb2
 have hc3:upd Hb q3 (.lst [.str (PySem.Str.ofString "text")]) q3=some (.lst [.str (PySem.Str.ofString "text")]):=upd_same
 have Sc:=Sb.trans S3
 have q30:H₀ q3=none:=Sb.free g3
 have q20:H₀ q2=none:=(S0.trans S1).free g2
 have q10:H₀ q1=none:=S0.free g1
 have kc:=(Kt.of S12).trans (k1.trans (Kt.of S3))
 generalize upd Hb q3 (.lst [.str (PySem.Str.ofString "text")])=Hc at kc0 hc1 hc2 hc3 Sc kc|-
 have k3:=Kt.ins (x:=.ins C dx (putF "places" (.ref q3) (putF "rows" (.ref q2) []))) kc0
 have hd0:upd Hc o (.ins C dx (putF "places" (.ref q3) (putF "rows" (.ref q2) []))) o=some (.ins C dx (putF "places" (.ref q3) (putF "rows" (.ref q2) []))):=upd_same
 have k4:=Kt.ins (x:=.ins C dx (putF "named" (.str (PySem.Str.ofString "")) (putF "places" (.ref q3) (putF "rows" (.ref q2) [])))) hd0
 have at4:∀{b:Addr}{z:HO},b≠o->Hc b=some z->upd (upd Hc o (.ins C dx (putF "places" (.ref q3) (putF "rows" (.ref q2) [])))) o (.ins C dx (putF "named" (.str (PySem.Str.ofString "")) (putF "places" (.ref q3) (putF "rows" (.ref q2) [])))) b=some z:=fun hb e=>by rw[upd_ne hb,upd_ne hb];exact e
 refine q _ (kc.trans (k3.trans k4)) ⟨dx,q2,q3,[.ref q1],?_,o0,q30,⟨q20,bN (bN Sc o0) o0,at4 (Ne.symm o2) hc2,aO.one ⟨q1,[],rfl,q10,at4 (Ne.symm o1) hc1,bH.mpr rfl⟩,?_⟩,?_,?_⟩
 ·rw[upd_same,j6]
  rfl
 ·refine List.nodup_cons.mpr ⟨fun z=>n21 (V.ref.inj (List.mem_singleton.mp z)).symm,`G⟩
 ·rw[at4 (Ne.symm o3) hc3,ahU]
  rfl
 ·intro z
  rcases List.mem_cons.mp z with z|z
  ·exact n23 (V.ref.inj z).symm
  ·exact n13 (V.ref.inj (List.mem_singleton.mp z)).symm
theorem agq{C:Addr}(cC:Cls K C)(nR:NoAttr K C "rows")(nP:NoAttr K C "places")(nN:NoAttr K C "named")
  (F:Fun K "enter" "Reading.enter" wN f fd):FnOk P w K mg base CX0 31 f fd ["self","place"] (aaZ K C):=by
 refine okQ F afT `S `Q
 ·obtain⟨o,c,H₀,st,pl,nm,rfl,_⟩:=h
  rfl
 obtain⟨o,c,H₀,st,pl,nm,rfl,h,hst,hpl,q⟩:=h
 refine⟨_,(au (bY (cN PySem.F.plainAttrs_list PySem.F.slot_list_append PySem.F.type_list_append bW `Z (aj (iM ak) ak)))
   (aq (bY (cN PySem.F.plainAttrs_list PySem.F.slot_list_append PySem.F.type_list_append bW `Z (aj (qv 1) ak))))),?_⟩
 obtain⟨dx,R,P,ys,h⟩:=h
 have hyl:ys.length=st.length:=by rw[h.rows.rows.length,List.length_reverse]
 refine⟨_,rfl,o,C,dx,_,_,rfl,h.ob,cC,nR,Cj,.inl ⟨rfl,_,SqL.of h.rows.at_⟩,`W,fun q1 g1=>⟨R,ys,_,rfl,rfl,(same_new g1 _) _ _ h.rows.at_,mX `A,?_⟩⟩
 have h2:=h.enter g1
 have k1:Kt H (upd (upd H q1 (.lst [])) R (.lst (ys++[.ref q1]))):=(Kt.new g1).trans (Kt.lst ((same_new g1 _) _ _ h.rows.at_))
 refine⟨_,rfl,o,C,dx,_,_,rfl,h2.ob,cC,nP,rB,.inl ⟨rfl,_,SqL.of h2.at_⟩,_,rfl,P,_,_,rfl,rfl,h2.at_,mX (by rw[ait];lia),?_⟩
 exact q _ (k1.trans (Kt.lst h2.at_)) ⟨dx,R,P,_,h2.place (qx c pl).symm⟩
theorem agn{C:Addr}(cC:Cls K C)(nR:NoAttr K C "rows")(nP:NoAttr K C "places")(nN:NoAttr K C "named")(cA:mg "tuple"=none)
  (F:Fun K "leave" "Reading.leave" wM f fd):FnOk P w K mg base CX0 31 f fd ["self"] (aaX K C):=by
 refine okQ F afQ `S `Q
 ·obtain⟨o,c,H₀,r,st,pl,nm,rfl,_⟩:=h
  rfl
 obtain⟨o,c,H₀,r,st,pl,nm,rfl,h,q⟩:=h
 refine⟨_,(au (bY (j_ PySem.F.plainAttrs_list PySem.F.slot_list_pop PySem.F.type_list_pop jx `Z))
   (aq (aQ (lu dW rfl cA jU (aj (j_ PySem.F.plainAttrs_list PySem.F.slot_list_pop PySem.F.type_list_pop jx `Z) ak))))),?_⟩
 obtain⟨dx,R,P,ys,h⟩:=h
 refine⟨_,rfl,o,C,dx,_,_,rfl,h.ob,cC,nP,rB,.inl ⟨rfl,_,SqL.of h.at_⟩,P,_,_,rfl,rfl,h.at_,(by rw[qx];exact Ug _ _),?_⟩
 have h2:RdX K C H₀ _ o dx R P ys (r::st) pl nm:=h.place (zs:=(plV (c::pl)).dropLast) (by rw[qx,Uh])
 obtain⟨ys0,a,xs,rfl,nRa,ha,hr,h3⟩:=h2.shut
 have k1:=Kt.lst (o:=.lst (plV (c::pl)).dropLast) h.at_
 have k2:=Kt.lst (o:=.lst (ys0++[V.ref a]).dropLast) h2.rows.at_
 refine⟨_,rfl,o,C,dx,_,_,rfl,h2.ob,cC,nR,Cj,.inl ⟨rfl,_,SqL.of h2.rows.at_⟩,R,_,_,rfl,rfl,h2.rows.at_,Ug _ _,?_⟩
 rw[Uh]at k2|-
 refine⟨a,xs,rfl,.inl ⟨SqL.of (by rw[upd_ne (Ne.symm nRa)];exact ha),fun l gl=>q _ _ (k1.trans (k2.trans (Kt.new gl))) ⟨dx,R,P,_,h3.grow (same_new gl _)⟩ (tQ (SqT.of upd_same) ((hr.mono k2).mono (Kt.new gl)))⟩⟩
theorem ZR{C:Addr}(cC:Cls K C)(nR:NoAttr K C "rows")(nP:NoAttr K C "places")(nN:NoAttr K C "named")
  (F:Fun K "add_word" "Reading.add_word" oW f fd):FnOk P w K mg base CX0 31 f fd ["self","word"] (adV K C):=by
 refine okQ F Zx `S `Q
 ·obtain⟨o,x,t,H₀,r,st,pl,nm,rfl,_⟩:=h
  rfl
 obtain⟨o,x,t,H₀,r,st,pl,nm,rfl,ht,h,hrl,q⟩:=h
 refine⟨_,(aq (bY (cN PySem.F.plainAttrs_list PySem.F.slot_list_append PySem.F.type_list_append bW (cW ix_list `Z (ql j4 aP) (fun _ _=>rfl)) (aj (qv 1) ak)))),?_⟩
 obtain⟨dx,R,P,ys,h⟩:=h
 obtain⟨ys0,a,xs,rfl,ha,hxl,h2⟩:=h.add ht
 exact⟨_,rfl,o,C,dx,_,_,rfl,h.ob,cC,nR,Cj,1,rfl,R,_,_,_,rfl,rfl,SqL.of h.rows.at_,kY,.inl ⟨rfl,_,SqL.of ha⟩,_,rfl,a,_,_,rfl,rfl,ha,mX `A,q _ (Kt.lst ha) ⟨dx,R,P,_,h2⟩⟩
theorem Xd{C:Addr}(cC:Cls K C)(nR:NoAttr K C "rows")(nP:NoAttr K C "places")(nN:NoAttr K C "named")
  {yS:Addr}{yF:FuncData}(Zi:Fun K "loop" "loop" u5 yS yF)(Zd:FnOk P w K mg base CX0 32 yS yF ["body"] (V6 K))(YS:Binds K yF ["body"] [])(Xw:mg "loop"=some (.ref yS))
  {fj:Addr}{eZ:FuncData}(qg:Fun K "fork" "fork" nJ fj eZ)(qe:FnOk P w K mg base CX0 32 fj eZ ["yes","no"] (Bw K))(qd:Binds K eZ ["yes","no"] [])(pW:mg "fork"=some (.ref fj))
  {xq:Addr}{abp:FuncData}(Cy:Meth K C "leave" xq)(T4:FnOk P w K mg base CX0 32 xq abp ["self"] (aaX K C))(Cv:Binds K abp ["self"] [])
  (F:Fun K "bracketed" "Reading.bracketed" lY f fd):FnOk P w K mg base CX0 33 f fd ["self"] (aa0 K C):=by
 refine okQ F Gw `S `Q
 ·obtain⟨o,H₀,st,st2,pl,pl2,nm,t,rfl,_⟩:=h
  rfl
 obtain⟨o,H₀,st,st2,pl,pl2,nm,t,rfl,h,hc,q⟩:=h
 refine⟨_,(au (bA (aU op_eq (cW ix_list `Z (ql j4 aP) (fun _ _=>rfl)) bM `P) (aq (aQ (aH Zd hr rfl Xw Zi.kp YS .nil pass0 (aj (eX (qv 0) cC Cy T4 hr Cv .nil pass0) ak)))) aX)
   (au (bA (aU op_ne (cW ix_list `Z (ql j4 aP) (fun _ _=>rfl)) bM `P) (aq t_) aX)
   (au (aZ (i:=1) Gw.nd rfl `O (eX (qv 0) cC Cy T4 hr Cv .nil pass0))
   (aq (aQ (aH qe hr rfl pW qg.kp qd .nil pass0 (aj (eX (qv 0) cC Cy T4 hr Cv .nil pass0) (aj (qv 1) ak)))))))),?_⟩
 obtain⟨dx,R,P,ys,h⟩:=h
 have noL:∀{R P:Addr}{nm:`F},(fl R P nm).lookup ("leave":Str)=none:=JG `C `C `C
 rcases hc with⟨r,rfl,rfl,rfl,hb⟩|⟨n,y,rfl,rfl,rfl,hn,hy⟩
 ·refine⟨_,rfl,o,C,dx,_,_,rfl,h.ob,cC,nP,rB,1,rfl,P,_,_,_,rfl,rfl,SqL.of h.at_,(by rw[qx];exact kY),rfl,_,rfl,?_⟩
  rw[decide_eq_true (congrArg V.str QC.symm)]
  refine iteT ⟨_,rfl,o,dx,_,rfl,h.ob,noL,o,tH,H₀,r,st2,pl2,nm,rfl,⟨dx,R,P,ys,h⟩,fun y H' k1 h1 t1=>⟨y,.node r,rfl,t1,hb.1,hb.2,fun z H2 S2 t2=>q _ _ (k1.trans (.of S2)) (h1.grow S2) t2⟩⟩
 ·refine⟨_,rfl,o,C,dx,_,_,rfl,h.ob,cC,nP,rB,1,rfl,P,_,_,_,rfl,rfl,SqL.of h.at_,(by rw[qx];exact kY),rfl,_,rfl,?_⟩
  rw[decide_eq_false (fun z=>absurd (Gj.mp ((V.str.inj z).trans QC)) `B)]
  refine iteF ?_
  refine⟨_,rfl,o,C,dx,_,_,rfl,h.ob,cC,nP,rB,1,rfl,P,_,_,_,rfl,rfl,SqL.of h.at_,(by rw[qx];exact kY),rfl,_,rfl,?_⟩
  rw[decide_eq_true (congrArg V.str ahq.symm)]
  refine iteF ?_
  refine⟨_,rfl,o,dx,_,rfl,h.ob,noL,o,noC,H₀,n,y::st2,lC::pl2,nm,rfl,⟨dx,R,P,ys,h⟩,fun vn H1 k1 h1 t1=>?_⟩
  obtain⟨dx1,R1,P1,ys1,h1⟩:=h1
  refine⟨_,rfl,o,dx1,_,rfl,h1.ob,noL,o,lC,H₀,y,st2,pl2,nm,rfl,⟨dx1,R1,P1,ys1,h1⟩,fun vy H2 k2 h2 t2=>⟨_,rfl,vy,.node y,vn,.node n,rfl,t2,t1.mono k2,⟨hy.1,hy.2⟩,⟨hn.1,hn.2⟩,fun z H3 S3 t3=>q _ _ (k1.trans (k2.trans (.of S3))) (h2.grow S3) t3⟩⟩
theorem agj{C:Addr}(cC:Cls K C)(nR:NoAttr K C "rows")(nP:NoAttr K C "places")(nN:NoAttr K C "named")(cY:mg "len"=none)(cA:mg "tuple"=none)
  (F:Fun K "whole" "Reading.whole" wL f fd):FnOk P w K mg base CX0 31 f fd ["self"] (aaQ K C):=by
 refine okQ F afO `S `Q
 ·obtain⟨o,H₀,r,pl,rfl,_⟩:=h
  rfl
 obtain⟨o,H₀,r,pl,rfl,h,q⟩:=h
 refine⟨_,(au (bA (QW.pt (ab3 (aU op_ne `Z bM `P) (Ww (aU op_ne (cJ call_len_seq rfl cY kO (aj `Z ak)) aP `P)))) (aq t_) aX)
   (aq (aQ (lu dW rfl cA jU (aj (cW ix_list `Z aP (fun _ _=>rfl)) ak))))),?_⟩
 obtain⟨dx,R,P,ys,h⟩:=h
 have hyl:ys.length=1:=by rw[h.rows.rows.length,List.length_reverse];rfl
 obtain⟨ys0,a,xs,rfl,nRa,ha,hr,_⟩:=h.shut
 have e0:ys0=[]:=List.length_eq_zero_iff.mp (by rw[List.length_append,List.length_singleton]at hyl;lia)
 subst e0
 refine⟨_,rfl,o,C,dx,_,_,rfl,h.ob,cC,nN,jP,rfl,_,rfl,?_⟩
 rw[decide_eq_true (congrArg V.str j6.symm)]
 refine iteF ⟨_,rfl,o,C,dx,_,_,rfl,h.ob,cC,nR,Cj,R,_,rfl,.inl (SqL.of h.rows.at_),rfl,_,rfl,?_⟩
 refine iteF ?_
 refine⟨_,rfl,o,C,dx,_,_,rfl,h.ob,cC,nR,Cj,R,_,0,_,rfl,rfl,SqL.of h.rows.at_,atI_nat (j:=0) rfl,a,xs,rfl,.inl ⟨SqL.of ha,fun l gl=>q _ _ (h.rows.same.trans (same_new gl _)) (tQ (SqT.of upd_same) (hr.mono (Kt.new gl)))⟩⟩
end
section
variable{P:Program}{w:World}{K:W.Frag}{mg:`Y}{base:Heap}{f:Addr}{fd:FuncData}
theorem ok_take{C:Addr}(cC:Cls K C)(nR:NoAttr K C "rows")(nP:NoAttr K C "places")(nN:NoAttr K C "named"){bh:Addr}(d7:mg "NAMES"=some (.ref bh))(jg:∀H,SqT K H bh [.str (PySem.Str.ofString "lay"),.str (PySem.Str.ofString "drop"),.str (PySem.Str.ofString "twin"),.str (PySem.Str.ofString "swap"),.str (PySem.Str.ofString "front"),.str (PySem.Str.ofString "part"),.str (PySem.Str.ofString "turn"),.str (PySem.Str.ofString "fork"),.str (PySem.Str.ofString "while")]){dj:Value}(dH:mg "FORK"=some dj)(cT:RelV (.int 7) dj){cF:Value}(cI:mg "WHILE"=some cF)(cu:RelV (.int 8) cF)
  {IK:Addr}{HW:FuncData}(afe:Fun K "word_of" "word_of" m_ IK HW)(ae5:FnOk P w K mg base CX0 39 IK HW ["piece"] (VH K))(aeQ:Binds K HW ["piece"] [])(aew:mg "word_of"=some (.ref IK))
  {xr:Addr}{abq:FuncData}(JL:Meth K C "enter" xr)(aby:FnOk P w K mg base CX0 39 xr abq ["self","place"] (aaZ K C))(JH:Binds K abq ["self","place"] [])
  {pB:Addr}{P_:FuncData}(wC:Meth K C "add_word" pB)(Qk:FnOk P w K mg base CX0 39 pB P_ ["self","word"] (adV K C))(wA:Binds K P_ ["self","word"] [])
  {mC:Addr}{Kl:FuncData}(Bl:Meth K C "bracketed" mC)(aaA:FnOk P w K mg base CX0 39 mC Kl ["self"] (aa0 K C))(Ax:Binds K Kl ["self"] [])
  (F:Fun K "take" "Reading.take" BK f fd):FnOk P w K mg base CX0 40 f fd ["self","piece"] (adS K C):=by
 refine okQ F ah2 `S `Q
 ·obtain⟨o,p,H₀,sa,sb,rfl,_⟩:=h
  rfl
 obtain⟨o,p,H₀,sa,sb,rfl,h,hs,za,zb,q⟩:=h
 refine⟨_,(au (bA (aU op_ne (qX op_eq (qv 1) bM `P) (qX op_ne `Z bM `P) `P) (aq t_) aX)
   (aq (bA (aU op_eq (qv 1) bM `P) (au (bY (ud (qv 0) cC JL aby hr JH .nil pass0 (aj (nU (aU op_eq `Z (cW gY (aM (v:=.ref bh) rfl d7 rfl) (aM (v:=.int 7) rfl dH cT) (fun _ _=>rfl)) `P) bM bM) ak)))
   (aq (cP (qv 0) bM rfl))) (aq (bA (aU G_ (qv 1) (bB (aj (cW gY (aM (v:=.ref bh) rfl d7 rfl) (aM (v:=.int 7) rfl dH cT) (fun _ _=>rfl)) (aj (cW gY (aM (v:=.ref bh) rfl d7 rfl) (aM (v:=.int 8) rfl cI cu) (fun _ _=>rfl)) ak))) rfl) (aq (cP (qv 0) (qv 1) rfl)) (aq (bA (QW.pt (Ov (aU op_eq (qv 1) bM `P) (Jv (aU op_eq (cW ix_list `Z (ql j4 aP) (fun _ _=>rfl)) bM `P)))) (aq (bY (ud (qv 0) cC JL aby hr JH .nil pass0 (aj bM ak)))) (aq (bA (aU op_eq (qv 1) bM `P) (aq (bY (ud (qv 0) cC wC Qk hr wA .nil pass0 (aj (eX (qv 0) cC Bl aaA hr Ax .nil pass0) ak)))) (aq (bY (ud (qv 0) cC wC Qk hr wA .nil pass0 (aj (aH ae5 hr rfl aew afe.kp aeQ .nil pass0 (aj (qv 1) ak)) ak))))))))))))),?_⟩
 have nmq:∀H,SqT K H bh rW:=fun H=>by rw[<-Mj];exact jg H
 have noE:∀{R P:Addr}{nm:`F},(fl R P nm).lookup ("enter":Str)=none:=JG `C `C `C
 have noA:∀{R P:Addr}{nm:`F},(fl R P nm).lookup ("add_word":Str)=none:=JG `C `C `C
 have noB:∀{R P:Addr}{nm:`F},(fl R P nm).lookup ("bracketed":Str)=none:=JG `C `C `C
 obtain⟨dx,R,P,ys,h⟩:=h
 cases hs with
 | @ahH st pl=>
  dsimp only at h
  refine⟨_,rfl,rfl,_,rfl,o,C,dx,_,_,rfl,h.ob,cC,nN,jP,rfl,rfl,_,rfl,?_⟩
  rw[b_ _ [91] jY,b_ _ [] j6]
  refine eE `B ?_
  refine⟨_,rfl,rfl,_,rfl,?_⟩
  rw[b_ _ [91] jY]
  refine qu `B ?_
  refine⟨_,rfl,o,dx,_,rfl,h.ob,noE,_,rfl,o,C,dx,_,_,rfl,h.ob,cC,nN,jP,bh,_,7,_,rfl,rfl,nmq _,gj (k:=7) `B,rfl,_,rfl,?_⟩
  rw[b_ _ (nmC 7) rfl]
  refine qu `B ⟨o,lC,H₀,st,pl,_,(by show[V.ref o,V.str (PySem.Str.ofString "yes")]=_;rw[adD]),⟨dx,R,P,ys,h⟩,za.st,za.pl,fun H1 k1 h1=>?_⟩
  obtain⟨dx1,R1,P1,ys1,h1⟩:=h1
  refine⟨_,rfl,o,C,dx1,_,rfl,h1.ob,cC,nN,Yb,?_⟩
  exact q _ (k1.trans (Kt.ins h1.ob)) ⟨dx1,R1,P1,ys1,by rw[j6,X_];exact h1.name []⟩
 | @ahG st pl=>
  dsimp only at h
  refine⟨_,rfl,rfl,_,rfl,o,C,dx,_,_,rfl,h.ob,cC,nN,jP,rfl,rfl,_,rfl,?_⟩
  rw[b_ _ [91] jY,b_ _ [] j6]
  refine eE `B ?_
  refine⟨_,rfl,rfl,_,rfl,?_⟩
  rw[b_ _ [91] jY]
  refine qu `B ?_
  refine⟨_,rfl,o,dx,_,rfl,h.ob,noE,_,rfl,o,C,dx,_,_,rfl,h.ob,cC,nN,jP,bh,_,7,_,rfl,rfl,nmq _,gj (k:=7) `B,rfl,_,rfl,?_⟩
  rw[b_ _ (nmC 7) rfl]
  refine eE `B ⟨o,tH,H₀,st,pl,_,(by show[V.ref o,V.str (PySem.Str.ofString "body")]=_;rw[QC]),⟨dx,R,P,ys,h⟩,za.st,za.pl,fun H1 k1 h1=>?_⟩
  obtain⟨dx1,R1,P1,ys1,h1⟩:=h1
  refine⟨_,rfl,o,C,dx1,_,rfl,h1.ob,cC,nN,Yb,?_⟩
  exact q _ (k1.trans (Kt.ins h1.ob)) ⟨dx1,R1,P1,ys1,by rw[j6,X_];exact h1.name []⟩
 | @name st pl k hk=>
  rcases hk with rfl|rfl
  all_goals
   dsimp only at h
   refine⟨_,rfl,rfl,_,rfl,o,C,dx,_,_,rfl,h.ob,cC,nN,jP,rfl,rfl,_,rfl,?_⟩
   rw[b_ _ [91] jY,b_ _ [] j6]
   refine eE `B ?_
   refine⟨_,rfl,rfl,_,rfl,?_⟩
   rw[b_ _ [91] jY]
   refine eE `B ?_
   refine⟨_,rfl,bh,_,7,_,rfl,rfl,nmq _,gj (k:=7) `B,bh,_,8,_,rfl,rfl,nmq _,gj (k:=8) `B,(by show 2<=sizeLine;decide),fun q1 g1=>⟨q1,_,rfl,.inr (SqT.of upd_same),rfl,rfl,_,rfl,?_⟩⟩
   rw[show(if false=true then !inV (.str (tx (_))) [.str (tx (nmC 7)),.str (tx (nmC 8))]else inV (.str (tx (_))) [.str (tx (nmC 7)),.str (tx (nmC 8))])=(decide (nmC 7=_)||decide (nmC 8=_))from Hw _ _ _]
   have S1:=same_new g1 (.tup [.str (tx (nmC 7)),.str (tx (nmC 8))])
   have h':=h.grow S1
   refine qu `B ?_
   refine⟨_,rfl,_,rfl,o,C,dx,_,rfl,h'.ob,cC,nN,Yb,?_⟩
   exact q _ ((Kt.of S1).trans (Kt.ins h'.ob)) ⟨dx,R,P,ys,by rw[X_];exact h'.name _⟩
 | @bar st pl=>
  dsimp only at h
  refine⟨_,rfl,rfl,_,rfl,o,C,dx,_,_,rfl,h.ob,cC,nN,jP,rfl,rfl,_,rfl,?_⟩
  rw[b_ _ [91] jY,b_ _ [] j6]
  refine eE `B ?_
  refine⟨_,rfl,rfl,_,rfl,?_⟩
  rw[b_ _ [91] jY]
  refine eE `B ?_
  refine⟨_,rfl,bh,_,7,_,rfl,rfl,nmq _,gj (k:=7) `B,bh,_,8,_,rfl,rfl,nmq _,gj (k:=8) `B,(by show 2<=sizeLine;decide),fun q1 g1=>⟨q1,_,rfl,.inr (SqT.of upd_same),rfl,rfl,_,rfl,?_⟩⟩
  rw[show(if false=true then !inV (.str (tx [124])) [.str (tx (nmC 7)),.str (tx (nmC 8))]else inV (.str (tx [124])) [.str (tx (nmC 7)),.str (tx (nmC 8))])=(decide (nmC 7=[124])||decide (nmC 8=[124]))from Hw _ _ _]
  have S1:=same_new g1 (.tup [.str (tx (nmC 7)),.str (tx (nmC 8))])
  have h':=h.grow S1
  refine eE `B ?_
  refine⟨_,rfl,rfl,_,rfl,?_⟩
  rw[b_ _ [124] Gk]
  refine qu `B ⟨_,rfl,o,C,dx,_,_,rfl,h'.ob,cC,nP,rB,1,rfl,P,_,_,_,rfl,rfl,SqL.of h'.at_,(by rw[qx];exact kY),rfl,_,rfl,?_⟩
  rw[b_ _ lC adD]
  refine qu `B ?_
  exact⟨_,rfl,o,dx,_,rfl,h'.ob,noE,o,noC,H₀,st,lC::pl,_,(by show[V.ref o,V.str (PySem.Str.ofString "no")]=_;rw[ahq]),⟨dx,R,P,ys,h'⟩,za.st,za.pl,fun H1 k1 h1=>q _ ((Kt.of S1).trans k1) h1⟩
 | @ahA r s' st pl=>
  dsimp only at h
  refine⟨_,rfl,rfl,_,rfl,o,C,dx,_,_,rfl,h.ob,cC,nN,jP,rfl,rfl,_,rfl,?_⟩
  rw[b_ _ [91] jY,b_ _ [] j6]
  refine eE `B ?_
  refine⟨_,rfl,rfl,_,rfl,?_⟩
  rw[b_ _ [91] jY]
  refine eE `B ?_
  refine⟨_,rfl,bh,_,7,_,rfl,rfl,nmq _,gj (k:=7) `B,bh,_,8,_,rfl,rfl,nmq _,gj (k:=8) `B,(by show 2<=sizeLine;decide),fun q1 g1=>⟨q1,_,rfl,.inr (SqT.of upd_same),rfl,rfl,_,rfl,?_⟩⟩
  rw[show(if false=true then !inV (.str (tx [93])) [.str (tx (nmC 7)),.str (tx (nmC 8))]else inV (.str (tx [93])) [.str (tx (nmC 7)),.str (tx (nmC 8))])=(decide (nmC 7=[93])||decide (nmC 8=[93]))from Hw _ _ _]
  have S1:=same_new g1 (.tup [.str (tx (nmC 7)),.str (tx (nmC 8))])
  have h':=h.grow S1
  refine eE `B ?_
  refine⟨_,rfl,rfl,_,rfl,?_⟩
  rw[b_ _ [124] Gk]
  refine eE `B (iteF ?_)
  refine⟨_,rfl,rfl,_,rfl,?_⟩
  rw[b_ _ [93] Og]
  refine qu `B ?_
  refine⟨_,rfl,o,dx,_,rfl,h'.ob,noA,_,rfl,o,dx,_,rfl,h'.ob,noB,o,H₀,_,_,_,_,_,_,rfl,⟨dx,R,P,ys,h'⟩,.inl ⟨r,rfl,rfl,rfl,(za.each r List.mem_cons_self).le `A `A⟩,fun x H2 k2 h2 t2=>⟨o,x,_,H₀,s',st,pl,[],rfl,t2,h2,(by have:=(za.each s' `G).len;lia),fun H3 k3 h3=>q _ ((Kt.of S1).trans (k2.trans k3)) h3⟩⟩
 | @ahB n y s' st pl=>
  dsimp only at h
  refine⟨_,rfl,rfl,_,rfl,o,C,dx,_,_,rfl,h.ob,cC,nN,jP,rfl,rfl,_,rfl,?_⟩
  rw[b_ _ [91] jY,b_ _ [] j6]
  refine eE `B ?_
  refine⟨_,rfl,rfl,_,rfl,?_⟩
  rw[b_ _ [91] jY]
  refine eE `B ?_
  refine⟨_,rfl,bh,_,7,_,rfl,rfl,nmq _,gj (k:=7) `B,bh,_,8,_,rfl,rfl,nmq _,gj (k:=8) `B,(by show 2<=sizeLine;decide),fun q1 g1=>⟨q1,_,rfl,.inr (SqT.of upd_same),rfl,rfl,_,rfl,?_⟩⟩
  rw[show(if false=true then !inV (.str (tx [93])) [.str (tx (nmC 7)),.str (tx (nmC 8))]else inV (.str (tx [93])) [.str (tx (nmC 7)),.str (tx (nmC 8))])=(decide (nmC 7=[93])||decide (nmC 8=[93]))from Hw _ _ _]
  have S1:=same_new g1 (.tup [.str (tx (nmC 7)),.str (tx (nmC 8))])
  have h':=h.grow S1
  refine eE `B ?_
  refine⟨_,rfl,rfl,_,rfl,?_⟩
  rw[b_ _ [124] Gk]
  refine eE `B (iteF ?_)
  refine⟨_,rfl,rfl,_,rfl,?_⟩
  rw[b_ _ [93] Og]
  refine qu `B ?_
  refine⟨_,rfl,o,dx,_,rfl,h'.ob,noA,_,rfl,o,dx,_,rfl,h'.ob,noB,o,H₀,_,_,_,_,_,_,rfl,⟨dx,R,P,ys,h'⟩,.inr ⟨n,y,rfl,rfl,rfl,(za.each n List.mem_cons_self).le `A `A,(za.each y `G).le `A `A⟩,fun x H2 k2 h2 t2=>⟨o,x,_,H₀,s',st,pl,[],rfl,t2,h2,(by have:=(za.each s' `G).len;lia),fun H3 k3 h3=>q _ ((Kt.of S1).trans (k2.trans k3)) h3⟩⟩
 | @word w p s' st pl ho=>
  obtain⟨n1,n2,n3,n4,n5⟩:=akb ho
  dsimp only at h
  refine⟨_,rfl,rfl,_,rfl,o,C,dx,_,_,rfl,h.ob,cC,nN,jP,rfl,rfl,_,rfl,?_⟩
  rw[b_ _ [91] jY,b_ _ [] j6]
  refine eE (by rw[decide_eq_false n1];decide) ?_
  refine⟨_,rfl,rfl,_,rfl,?_⟩
  rw[b_ _ [91] jY]
  refine eE (decide_eq_false n1) ?_
  refine⟨_,rfl,bh,_,7,_,rfl,rfl,nmq _,gj (k:=7) `B,bh,_,8,_,rfl,rfl,nmq _,gj (k:=8) `B,(by show 2<=sizeLine;decide),fun q1 g1=>⟨q1,_,rfl,.inr (SqT.of upd_same),rfl,rfl,_,rfl,?_⟩⟩
  rw[show(if false=true then !inV (.str (tx p)) [.str (tx (nmC 7)),.str (tx (nmC 8))]else inV (.str (tx p)) [.str (tx (nmC 7)),.str (tx (nmC 8))])=(decide (nmC 7=p)||decide (nmC 8=p))from Hw _ _ _]
  have S1:=same_new g1 (.tup [.str (tx (nmC 7)),.str (tx (nmC 8))])
  have h':=h.grow S1
  refine eE (by rw[decide_eq_false (Ne.symm n2),decide_eq_false (Ne.symm n3)];rfl) ?_
  refine⟨_,rfl,rfl,_,rfl,?_⟩
  rw[b_ _ [124] Gk]
  refine eE (decide_eq_false n4) (iteF ?_)
  refine⟨_,rfl,rfl,_,rfl,?_⟩
  rw[b_ _ [93] Og]
  refine eE (decide_eq_false n5) ?_
  have bw:B 400 100000 w:=wH (zb.each _ List.mem_cons_self) `G
  exact⟨_,rfl,o,dx,_,rfl,h'.ob,noA,_,rfl,p,w,rfl,ho,bw,fun x H2 S2 t2=>⟨o,x,w,H₀,s',st,pl,[],rfl,t2,⟨dx,R,P,ys,h'.grow S2⟩,(by have:=(za.each s' List.mem_cons_self).len;lia),fun H3 k3 h3=>q _ ((Kt.of (S1.trans S2)).trans k3) h3⟩⟩
end
section
variable{P:Program}{w:World}{K:W.Frag}{mg:`Y}{base:Heap}{f:Addr}{fd:FuncData}
theorem Xb
  (F:Fun K "pieces_of" "pieces_of" jK f fd):FnOk P w K mg base CX0 31 f fd ["signs"] (V2 K):=by
 refine okQ F Wm `S `Q
 ·obtain⟨ps,rfl,_⟩:=h
  rfl
 obtain⟨ps,rfl,hok,hlen,q⟩:=h
 refine⟨_,(au (bA (aU op_eq (qv 0) bM `P) (aq (aQ (iM ak))) aX)
   (aq (aQ (cN PySem.F.plainAttrs_str PySem.F.slot_str_split PySem.F.type_str_split agB (qv 0) (aj bM ak))))),?_⟩
 refine⟨_,rfl,rfl,_,rfl,?_⟩
 rw[b_ _ [] j6]
 refine ite2 (fun e=>?_) (fun e=>?_)
 ·have e0:=join_nil (fun p hp=>(hok p hp).1) (of_decide_eq_true e)
  subst e0
  exact⟨`W,fun D gD=>q D gD⟩
 ·have hne:ps≠[]:=fun z=>e (by rw[z];rfl)
  refine⟨_,rfl,rfl,_,32,rfl,(by rw[Vw]),hlen,fun D ls gD hj hl hc=>?_⟩
  rw[Uu hl hne hc (fun p hp=>(hok p hp).2) hj]
  exact q D gD
theorem aiH{C:Addr}(cC:Cls K C)(nR:NoAttr K C "rows")(nP:NoAttr K C "places")(nN:NoAttr K C "named")(aY:mg "isinstance"=none)(v8:mg "str"=none)
  {Bg:Addr}{Ai:FuncData}(aaG:Fun K "pieces_of" "pieces_of" jK Bg Ai)(aay:FnOk P w K mg base CX0 42 Bg Ai ["signs"] (V2 K))(aan:Binds K Ai ["signs"] [])(Z7:mg "pieces_of"=some (.ref Bg))
  {pC:Addr}{Qa:FuncData}(MK:Mk K C pC)(adp:FnOk P w K mg base CX0 41 pC Qa ["self"] (spInit K C))(Ez:Binds K Qa ["self"] [])(Hq:mg "Reading"=some (.ref C))
  {Cw:Addr}{aeJ:FuncData}(Za:Meth K C "take" Cw)(alH:FnOk P w K mg base CX0 42 Cw aeJ ["self","piece"] (adS K C))(YM:Binds K aeJ ["self","piece"] [])
  {xg:Addr}{abo:FuncData}(TV:Meth K C "whole" xg)(ajo:FnOk P w K mg base CX0 42 xg abo ["self"] (aaQ K C))(Tg:Binds K abo ["self"] [])
  (F:Fun K "read" "read" xU f fd):FnOk P w K mg base CX0 43 f fd ["signs"] (aaU K):=by
 refine okQ F Q8 `S `Q
 ·obtain⟨ws,ps,rfl,_⟩:=h
  rfl
 obtain⟨ws,ps,rfl,hts,hb,q⟩:=h
 refine⟨_,(au (bA (Wx (fU (cJ Am rfl aY cV (aj (qv 0) (aj (Ri (v:=.ty "str") rfl v8 YG rfl) ak))))) (aq t_) aX)
   (au (aZ (i:=1) Q8.nd rfl `O (af6 MK adp hr rfl Hq Ez .nil pass0))
   (au (xY PassesOwn.never rfl (Rh (aH aay hr rfl Z7 aaG.kp aan .nil pass0 (aj (qv 0) ak))) (qW (i:=2) Q8.nd rfl `O) (aq (bY (ud (qv 1) cC Za alH hr YM .nil pass0 (aj (qv 2) ak)))))
   (aq (aQ (eX (qv 1) cC TV ajo hr Tg .nil pass0)))))),?_⟩
 have hsz:=Jp hts
 have hpl:T.aN ws<80000:=by have:=hb.2;rw[T.aR]at this;lia
 have hdl:T.bF ws<=400:=by have:=hb.1;rw[T.bC]at this;exact this
 have hlen:(dh [32] ps).length<=8000000:=by
  have:=Uv [32] ps
  unfold szP at hsz
  simp only[List.length_singleton,Nat.mul_one]at this
  lia
 have noT:∀{R P:Addr}{nm:`F},(fl R P nm).lookup ("take":Str)=none:=JG `C `C `C
 have noW:∀{R P:Addr}{nm:`F},(fl R P nm).lookup ("whole":Str)=none:=JG `C `C `C
 have run:=Oh hts [] [] [Jq] (by rw[List.nil_append];exact hb.le `A `A) (fun _ z=>by simp at z) (by show 0+_<=_;lia) (by show 1+_<=_;lia)
 rw[List.nil_append]at run
 refine⟨_,rfl,.str _,"str",.type "str",true,rfl,TyOf.str _,by rfl,_,rfl,iteF ?_⟩
 refine fun o dx no ndx nex=>⟨o,dx,H,rfl,(same_new ndx _).trans (same_new (by rw[upd_ne (Ne.symm nex)];exact no) _),no,upd_same,fun H1 k1 h1=>⟨rfl,?_⟩⟩
 obtain⟨dx1,R1,P1,ys1,h1⟩:=h1
 refine⟨_,rfl,ps,rfl,Oi hts,hlen,fun D gD=>⟨D,rfl,⟨_,SqL.of upd_same⟩,?_⟩⟩
 have hD:H D=none:=h1.rows.same.free gD
 refine for_list (xs:=ps.map fun p=>V.str (tx p)) (fun i σ' H'=>∃(o2:Option V)(sa:Rst),σ'=[some (.str (tx (dh [32] ps))),some (.ref o),o2]/\mK K C (upd H D (.lst (ps.map fun p=>V.str (tx p)))) H' o sa.st sa.pl sa.nm/\SB sa (ps.drop i) ⟨[ws],[Jq],[]⟩) ?_ ?_ ?_ ?_
 ·exact⟨_,⟨[[]],[Jq],[]⟩,rfl,⟨dx1,R1,P1,ys1,h1.base gD _⟩,run⟩
 ·rintro i σ' H' _⟨o2,sa,rfl,h,_⟩
  exact SqL.of (h.same _ _ upd_same)
 ·rintro i x σ' H' hx⟨o2,sa,rfl,h,hs⟩
  rw[List.getElem?_map]at hx
  cases hi:ps[i]? with
  |none=>rw[hi]at hx;cases hx
  |some p=>
   rw[hi]at hx
   have hx:V.str (tx p)=x:=Option.some.inj hx
   subst hx
   have hlt:i<ps.length:=(List.getElem?_eq_some_iff.mp hi).1
   have ed:ps.drop i=p::ps.drop (i+1):=by
    rw[List.drop_eq_getElem_cons hlt]
    rw[List.getElem?_eq_getElem hlt]at hi
    rw[Option.some.inj hi]
   rw[ed]at hs
   cases hs with
   | @cons _ sb _ _ _ z z' hst hg=>
   have h0:=h
   obtain⟨dx2,R2,P2,ys2,h2⟩:=h
   refine⟨_,rfl,o,dx2,_,rfl,h2.ob,noT,_,rfl,o,p,_,sa,sb,rfl,h0,hst,z,z',fun H3 k3 h3=>?_⟩
   exact⟨_,sb,rfl,h3,hg⟩
 ·rintro σ' H'⟨o2,sa,rfl,h,hs⟩
  rw[List.length_map,List.drop_length]at hs
  cases hs
  have h0:=h
  obtain⟨dx2,R2,P2,ys2,h2⟩:=h
  exact⟨_,rfl,o,dx2,_,rfl,h2.ob,noW,o,_,ws,[Jq],rfl,h0,fun y H2 S2 t2=>q _ _ ((same_new hD _).trans S2) t2⟩
end
section
variable{P:Program}{w:World}{K:W.Frag}{mg:`Y}{base:Heap}{f:Addr}{fd:FuncData}
theorem ab9
  {Bd:Addr}{Ah:FuncData}(aaF:Fun K "read_tree" "read_tree" jJ Bd Ah)(aax:FnOk P w K mg base CX0 31 Bd Ah ["text"] (C_ K))(aam:Binds K Ah ["text"] [])(Z6:mg "read_tree"=some (.ref Bd))
  (F:Fun K "tree_of" "tree_of" nq f fd):FnOk P w K mg base CX0 32 f fd ["signs"] (C_ K):=by
 refine okQ F abW `S `Q
 ·obtain⟨t,rfl,_⟩:=h
  rfl
 obtain⟨t,rfl,hp,q⟩:=h
 refine⟨_,(aq (af5 (fun _=>(aq (aQ (aH aax hr rfl Z6 aaF.kp aam .nil pass0 (aj (qv 0) ak))))))),?_⟩
 exact⟨_,rfl,t,rfl,hp,fun y H' S ty=>q _ _ S ty⟩
theorem ab8{bh:Addr}(d7:mg "NAMES"=some (.ref bh))(jg:∀H,SqT K H bh [.str (PySem.Str.ofString "lay"),.str (PySem.Str.ofString "drop"),.str (PySem.Str.ofString "twin"),.str (PySem.Str.ofString "swap"),.str (PySem.Str.ofString "front"),.str (PySem.Str.ofString "part"),.str (PySem.Str.ofString "turn"),.str (PySem.Str.ofString "fork"),.str (PySem.Str.ofString "while")]){uX:Value}(Ci:mg "DROP"=some uX)(vg:RelV (.int 1) uX){uT:Value}(Ce:mg "TURN"=some uT)(u9:RelV (.int 6) uT)
  {kZ:Addr}{kJ:FuncData}(CJ:Fun K "plain" "plain" oV kZ kJ)(Cz:FnOk P w K mg base CX0 33 kZ kJ ["sort"] (Js K))(Cu:Binds K kJ ["sort"] [])(Cd:mg "plain"=some (.ref kZ))
  {iu:Addr}{h_:FuncData}(wG:Fun K "lay" "lay" rQ iu h_)(wD:FnOk P w K mg base CX0 33 iu h_ ["tree"] (Jt K))(wz:Binds K h_ ["tree"] [])(v9:mg "lay"=some (.ref iu))
  {IV:Addr}{HX:FuncData}(U3:Fun K "tree_of" "tree_of" nq IV HX)(U0:FnOk P w K mg base CX0 33 IV HX ["signs"] (C_ K))(UL:Binds K HX ["signs"] [])(Ur:mg "tree_of"=some (.ref IV))
  {Fd:Addr}{Ep:FuncData}(adv:Fun K "odd" "odd" uL Fd Ep)(adl:FnOk P w K mg base CX0 33 Fd Ep ["word"] (abV K))(ac3:Binds K Ep ["word"] [])(acB:mg "odd"=some (.ref Fd))
  (wI:∃ob,K.lookup bh=some ob/\ob.cls=`a/\ob.dict=none)
  (F:Fun K "word_of" "word_of" m_ f fd):FnOk P w K mg base CX0 34 f fd ["piece"] (VH K):=by
 refine okQ F Oo `S `Q
 ·obtain⟨p,w,rfl,_⟩:=h
  rfl
 obtain⟨p,w,rfl,ho,hb,q⟩:=h
 refine⟨_,(au (bA (aU G_ (qv 0) (lM Bx (aM (v:=.ref bh) rfl d7 rfl) (j9 (aM (v:=.int 1) rfl Ci vg)) (j9 (aV op_add (aM (v:=.int 6) rfl Ce u9) aP))) rfl) (aq (aQ (aH Cz hr rfl Cd CJ.kp Cu .nil pass0 (aj (cN PySem.F.plainAttrs_tuple PySem.F.slot_tuple_index PySem.F.type_tuple_index agD (aM (v:=.ref bh) rfl d7 rfl) (aj (qv 0) ak)) ak)))) aX)
   (au (bA (fU (cN PySem.F.plainAttrs_str PySem.F.slot_str_startswith PySem.F.type_str_startswith Uo (qv 0) (aj bM ak))) (aq (aQ (aH wD hr rfl v9 wG.kp wz .nil pass0 (aj (aH U0 hr rfl Ur U3.kp UL .nil pass0 (aj (lM adW (qv 0) (j9 aP) uc) ak)) ak)))) aX)
   (au (bA (fU (cN PySem.F.plainAttrs_str PySem.F.slot_str_startswith PySem.F.type_str_startswith Uo (qv 0) (aj bM ak))) (au (aZ (i:=1) Oo.nd rfl `O (aH U0 hr rfl Ur U3.kp UL .nil pass0 (aj (lM adW (qv 0) (j9 aP) uc) ak)))
   (aq (bA (fU (aH adl hr rfl acB adv.kp ac3 .nil pass0 (aj (qv 1) ak))) (aq (aQ (qv 1))) aX))) aX)
   (aq t_)))),?_⟩
 have hp:=hb.2
 have hd:=hb.1
 have nmq:∀H,SqT K H bh rW:=fun H=>by rw[<-Mj];exact jg H
 refine⟨_,rfl,1,rfl,_,_,rfl,rfl,7,rfl,bh,_,rfl,nmq _,fun p1 H1 S1 q1=>?_⟩
 rw[amc]at q1
 refine⟨p1,_,rfl,.inr q1,rfl,rfl,_,rfl,?_⟩
 rw[show(if false=true then !inV (.str (tx p)) Wg else inV (.str (tx p)) Wg)=[1,2,3,4,5,6].any fun k=>decide (nmC k=p)from aky p]
 cases ho with
 |plain h h1 h6=>
  refine qu (ah1 h1 h6) ?_
  obtain⟨f1,f2⟩:=agA (k:=aD w) `A
  refine⟨.inr (.inl ⟨rfl,wI⟩),_,rfl,bh,_,_,aD w,rfl,rfl,(by rw[<-aer];exact nmq _),f1,f2,aD w,rfl,h1,h6,fun y H2 S2 t2=>q _ _ (S1.trans S2) ?_⟩
  rw[<-aga h h1 h6]at t2
  exact t2
 |lay h hs=>
  refine eE (adX `A) ?_
  have hlp:(aL w).parts<=100000:=by have:=wR w;have:=T.eY (aL w);lia
  have hld:=vp w
  refine⟨_,rfl,rfl,_,39,rfl,(by rw[Jo]),_,rfl,qu rfl ?_⟩
  refine⟨_,rfl,1,rfl,_,rfl,?_,aL w,?_,hlp,fun y H2 S2 t2=>⟨y,aL w,rfl,t2,`A,`A,fun z H3 S3 t3=>q _ _ (S1.trans (S2.trans S3)) ?_⟩⟩
  ·rw[List.length_cons,T.pN]
   exact small `A
  ·rw[Yt]
   rfl
  ·rw[<-lay_of h hs]at t3
   exact t3
 |odd h=>
  refine eE (adX `A) ?_
  refine⟨_,rfl,rfl,_,39,rfl,(by rw[Jo]),_,rfl,eE rfl ?_⟩
  refine⟨_,rfl,rfl,_,33,rfl,(by rw[QD]),_,rfl,qu rfl ?_⟩
  refine⟨_,rfl,1,rfl,_,rfl,?_,w,?_,hp,fun y H2 S2 t2=>⟨_,rfl,y,w,rfl,t2,hb,fun H3 S3=>⟨_,rfl,qu h ⟨_,rfl,q _ _ (S1.trans (S2.trans S3)) (t2.mono (.of S3))⟩⟩⟩⟩
  ·rw[List.length_cons,T.pN]
   exact small `A
  ·rw[Yt]
   rfl
end
section
variable{P:Program}{w:World}{K:W.Frag}{mg:`Y}{base:Heap}{f g1 g2:Addr}{fd gd1 gd2:FuncData}
def tO(K:W.Frag)(H:Hp):Option T->V->Prop
 |none,x=>x=.non
 |some t,x=>TR K H t x
theorem tO.mono{H H':Hp}(S:Kt H H'):∀{o:Option T}{x:V},tO K H o x->tO K H' o x
 |none,_,h=>h
 |some _,_,h=>TR.mono S h
def ahQ(K:W.Frag)(H:Hp)(x:V)(w:`F)(p1 p2:Addr):Nat->Sg->`M:=fun m σ H'=>∃(ys:`E)(os:List (Option T))(cs:`F)(o:Option V),
 σ=[some x,some (.ref p1),some (.ref p2),o]/\`N/\H' p1=some (.lst (cs.map fun c=>V.str (tx [c])))/\H' p2=some (.lst ys)/\aO (tO K H') os ys/\cs++T.out os=w/\m=(T.out os).length
theorem T_{H:Hp}:∀{ts:`D}{xs:`E},TRs K H ts xs->aO (tO K H) (ts.map some) xs
 |[],xs,h=>by rw[bH]at h;rw[h];exact .nil
 |t::ts,xs,h=>by
  obtain⟨x,r,rfl,h1,h2⟩:=cD.mp h
  exact .cons h1 (T_ h2)
theorem W_(pU:mg "list"=none)(cX:mg "reversed"=none)(F:Fun K "show_tree" "show_tree" jG f fd):FnOk P w K mg base CX0 31 f fd ["tree"] (aaT K):=by
 refine F.ok rM `S `Q
 ·obtain⟨x,t,rfl,_⟩:=h
  rfl
 obtain⟨x,t,rfl,ht,hz,q⟩:=h
 refine⟨_,(pss_cons (ps_set (i:=1) rM.nd rfl `O (pe_lst pa_nil))
   (pss_cons (ps_set (i:=2) rM.nd rfl `O (pe_lst (pa_cons (pv 0) pa_nil)))
   (pss_cons (WK PassesOwn.never (WD (pv 2) (fun _=>rfl)) (pss_cons (ps_set (i:=3) rM.nd rfl `O (WT PySem.F.plainAttrs_list PySem.F.slot_list_pop PySem.F.type_list_pop jx (pv 2)))
   (pss_one (ps_if (pt_cmpR W0 (pv 3) WR `P) (pss_one (ps_expr (zx PySem.F.plainAttrs_list PySem.F.slot_list_append PySem.F.type_list_append bW (pv 1) (pa_cons BR pa_nil)))) (pss_cons (ps_expr (zx PySem.F.plainAttrs_list PySem.F.slot_list_append PySem.F.type_list_append bW (pv 1) (pa_cons BR pa_nil)))
   (pss_cons (ps_expr (zx PySem.F.plainAttrs_list PySem.F.slot_list_append PySem.F.type_list_append bW (pv 2) (pa_cons WR pa_nil)))
   (pss_one (ps_expr (zx PySem.F.plainAttrs_list PySem.F.slot_list_extend PySem.F.type_list_extend Uq (pv 2) (pa_cons (SwR.O_ rfl rfl pU cX rfl (pv 3)) pa_nil))))))))))
   (pss_one (ps_ret (zx PySem.F.plainAttrs_str PySem.F.slot_str_join PySem.F.type_str_join aiO BR (pa_cons (pv 1) pa_nil))))))),?_⟩
 refine⟨`W,fun p1 hp1=>?_⟩
 refine⟨_,rfl,`e,fun p2 hp2=>?_⟩
 have n12:p1≠p2:=fun z=>by rw[<-z,upd_same]at hp2;cases hp2
 have hp2':H p2=none:=(same_new hp1 _).free hp2
 have hlen:=T.pN t
 refine⟨ahQ K H x t.wr p1 p2,⟨_,[x],[some t],[],none,rfl,(same_new hp1 _).trans (same_new hp2 _),by rw[upd_ne n12];exact upd_same,upd_same,aO.one (show TR K _ t x from(ht.mono (Kt.new hp1)).mono (Kt.new hp2)),by rw[T.BZ];rfl,rfl⟩,?_⟩
 rintro m σ H'⟨ys,os,cs,o,rfl,S,h1,h2,hw,hc,rfl⟩
 have hl:=hw.length
 have hol:=T.abd os
 have hcl:cs.length+(T.out os).length=t.wr.length:=by rw[<-hc,List.length_append]
 refine⟨_,rfl,!ys.isEmpty,.inl ⟨ys,SqL.of h2,rfl⟩,?_⟩
 refine ite2 (fun hb=>?_) (fun hb=>?_)
 ·have hne:ys≠[]:=by rintro rfl;exact absurd hb `B
  obtain⟨y,hy⟩:=RP hne
  obtain⟨oo,hoo,hwy⟩:=hw.get hy
  rw[hl]at hoo
  have eos:=Ux hoo
  have acN:T.out os=T.Du oo++T.out os.dropLast:=by
   have e:=congrArg T.out eos
   rw[T.oZ,T.BZ]at e
   exact e
  have hdl:=T.abd os.dropLast
  have hpos:=T.WY oo
  refine⟨fun σ' H'=>∃m',m'<(T.out os).length/\ahQ K H x t.wr p1 p2 m' σ' H',fun _ _ h=>h,?_⟩
  refine⟨_,rfl,.inl ⟨rfl,_,SqL.of h2⟩,p2,ys,_,rfl,rfl,h2,hy,?_⟩
  have hwd:=(aO.dropLast hw).imp (S:=tO K (upd H' p2 (.lst ys.dropLast))) fun _ _=>tO.mono (Kt.lst h2)
  have S2:Same H (upd H' p2 (.lst ys.dropLast)):=bN S hp2'
  have h12:upd H' p2 (.lst ys.dropLast) p1=some (.lst (cs.map fun c=>V.str (tx [c]))):=by rw[upd_ne n12];exact h1
  have h22:upd H' p2 (.lst ys.dropLast) p2=some (.lst ys.dropLast):=upd_same
  have hyk:tO K (upd H' p2 (.lst ys.dropLast)) oo y:=tO.mono (Kt.lst h2) hwy
  generalize upd H' p2 (.lst ys.dropLast)=H2 at hwd S2 h12 h22 hyk
  have as4:cs.length<1000000:=`A
  cases oo with
  |none=>
   have ey:y=.non:=hyk
   subst ey
   refine⟨_,rfl,rfl,_,rfl,iteT ?_⟩
   refine⟨_,rfl,.inl ⟨rfl,_,SqL.of h12⟩,p1,_,_,rfl,rfl,h12,mX (by rw[List.length_map];lia),?_⟩
   refine⟨_,?_,ys.dropLast,os.dropLast,cs++[41],_,rfl,bN S2 hp1,?_,by rw[upd_ne (Ne.symm n12)];exact h22,hwd.imp fun _ _=>tO.mono (Kt.lst h12),?_,rfl⟩
   ·rw[acN,List.length_append]
    show _<1+_
    lia
   ·rw[upd_same,List.map_append]
    rw[show Str.ofString ")"=tx [41]from ahp]
    rfl
   ·rw[<-hc,acN,List.append_assoc]
    rfl
  |some u=>
   obtain⟨a,zs,rfl,g1,g2⟩:=wB (show TR K H2 u y from hyk)
   refine⟨_,rfl,rfl,_,rfl,iteF ?_⟩
   refine⟨_,rfl,.inl ⟨rfl,_,SqL.of h12⟩,p1,_,_,rfl,rfl,h12,mX (by rw[List.length_map];lia),?_⟩
   have k3:Kt H2 (upd H2 p1 (.lst ((cs.map fun c=>V.str (tx [c]))++[.str (Str.ofString "(")]))):=Kt.lst h12
   have h23:upd H2 p1 (.lst ((cs.map fun c=>V.str (tx [c]))++[.str (Str.ofString "(")])) p2=some (.lst ys.dropLast):=by rw[upd_ne (Ne.symm n12)];exact h22
   have h13:upd H2 p1 (.lst ((cs.map fun c=>V.str (tx [c]))++[.str (Str.ofString "(")])) p1=some (.lst ((cs++[40]).map fun c=>V.str (tx [c]))):=by
    rw[upd_same,List.map_append,abM]
    rfl
   have S3:Same H (upd H2 p1 (.lst ((cs.map fun c=>V.str (tx [c]))++[.str (Str.ofString "(")]))):=bN S2 hp1
   generalize upd H2 p1 (.lst ((cs.map fun c=>V.str (tx [c]))++[.str (Str.ofString "(")]))=H3 at k3 h23 h13 S3
   have hlo:ys.dropLast.length<=1000000:=by rw[List.length_dropLast];lia
   refine⟨_,rfl,.inl ⟨rfl,_,SqL.of h23⟩,p2,_,_,rfl,rfl,h23,mX hlo,?_⟩
   have k4:Kt H3 (upd H3 p2 (.lst (ys.dropLast++[.non]))):=Kt.lst h23
   have h14:upd H3 p2 (.lst (ys.dropLast++[.non])) p1=some (.lst ((cs++[40]).map fun c=>V.str (tx [c]))):=by rw[upd_ne n12];exact h13
   have h24:upd H3 p2 (.lst (ys.dropLast++[.non])) p2=some (.lst (ys.dropLast++[.non])):=upd_same
   have S4:Same H (upd H3 p2 (.lst (ys.dropLast++[.non]))):=bN S3 hp2'
   generalize upd H3 p2 (.lst (ys.dropLast++[.non]))=H4 at k4 h14 h24 S4
   have g14:=cO k4 (cO k3 g1)
   have hul:=T.cM u.kids
   have hup:=T.eY u
   have huw:=T.pN u
   have hzl:=g2.length
   have eoL:(T.Du (some u)).length=u.wr.length:=rfl
   have eol:(T.out os).length=u.wr.length+(T.out os.dropLast).length:=by rw[acN,List.length_append];rfl
   refine⟨_,rfl,.inl ⟨rfl,_,SqL.of h24⟩,_,rfl,a,zs,rfl,g14,fun l hl5=>?_⟩
   have n2l:p2≠l:=ne_of_none h24 hl5
   have n1l:p1≠l:=ne_of_none h14 hl5
   refine⟨p2,l,ys.dropLast++[.non],zs.reverse,rfl,rfl,by rw[upd_ne n2l];exact h24,upd_same,small (by rw[List.length_append,List.length_reverse,List.length_singleton,List.length_dropLast];lia),?_⟩
   have k5:Kt H4 (upd H4 l (.lst zs.reverse)):=Kt.new hl5
   have h25:upd H4 l (.lst zs.reverse) p2=some (.lst (ys.dropLast++[.non])):=by rw[upd_ne n2l];exact h24
   have k6:Kt H2 (upd (upd H4 l (.lst zs.reverse)) p2 (.lst (ys.dropLast++[.non]++zs.reverse))):=k3.trans (k4.trans (k5.trans (Kt.lst h25)))
   refine⟨_,?_,ys.dropLast++[.non]++zs.reverse,os.dropLast++[none]++u.kids.reverse.map some,cs++[40],_,rfl,bN (S4.trans (same_new hl5 _)) hp2',?_,upd_same,?_,?_,rfl⟩
   ·rw[T.oZ,T.oZ,T.BZ,T.WX,List.length_append,List.length_append,eol,T.Qz u]
    simp only[List.length_cons,List.length_append,List.length_singleton,List.length_nil,T.Du]
    lia
   ·rw[upd_ne n12,upd_ne n1l]
    exact h14
   ·refine aO.append (aO.append (hwd.imp fun _ _=>tO.mono k6) (aO.one (show(V.non:V)=.non from rfl))) ?_
    rw[List.map_reverse]
    exact aO.rev (T_ (g2.mono k6))
   ·rw[T.oZ,T.oZ,T.BZ,T.WX,<-hc,acN,T.Du,T.Du,T.Qz u,List.append_assoc]
    simp
 ·have hys:ys=[]:=by
   cases ys with
   |nil=>rfl
   |cons _ _=>exact absurd rfl hb
  subst hys
  have hos:os=[]:=List.length_eq_zero_iff.mp hl.symm
  subst hos
  rw[T.aiC,List.append_nil]at hc
  subst hc
  refine⟨rfl,_,rfl,p1,t.wr.map fun c=>[c],(by rw[show Str.ofString ""=tx []from j6]),rfl,SqL.of (by rw[h1,List.map_map];rfl),?_,?_⟩
  ·have:(t.wr.map fun c=>[c]).flatten=t.wr:=zL _
   rw[this]
   lia
  ·have:(t.wr.map fun c=>[c]).flatten=t.wr:=zL _
   rw[this]
   exact q _ S
def aaV(K:W.Frag):Sp:=fun vs H Q _=>∃l t,vs=[.str (tx l)]/\T.rd [[]] l=some [[t]]/\l.length<=400000/\∀x H',`N->TR K H' t x->Q x H'
def alE(K:W.Frag)(H:Hp)(l:`F)(p:Addr)(i:Nat)(σ:Sg)(H':Hp):Prop:=∃(st:List `D)(ys:`E)(o2 o3:Option V),
 σ=[some (.str (tx l)),some (.ref p),o2,o3]/\T.rd [[]] (l.take i)=some st/\qw K H H' p st ys/\T.aN st.flatten+st.length<=i+1
theorem Vd(aY:mg "isinstance"=none)(v8:mg "str"=none)(cY:mg "len"=none)(cA:mg "tuple"=none)(F:Fun K "read_tree" "read_tree" jJ f fd):FnOk P w K mg base CX0 31 f fd ["text"] (aaV K):=by
 refine F.ok rN `S `Q
 ·obtain⟨l,t,rfl,_⟩:=h
  rfl
 obtain⟨l,t,rfl,hrd,hz,q⟩:=h
 refine⟨_,(pss_cons (ps_if (aed (aec (pe_callB Am rfl aY cV (pa_cons (pv 0) (pa_cons (abb (v:=.ty "str") rfl v8 YG rfl) pa_nil))))) (pss_one Dm) pss_nil)
   (pss_cons (ps_set (i:=1) rN.nd rfl `O (pe_lst (pa_cons (pe_lst pa_nil) pa_nil)))
   (pss_cons (ps_for PassesOwn.never rfl (aj1 (pv 0)) (pg_name (i:=2) rN.nd rfl `O) (pss_one (ps_if (pt_cmpR op_eq (pv 2) BR `P) (pss_one (ps_expr (zx PySem.F.plainAttrs_list PySem.F.slot_list_append PySem.F.type_list_append bW (pv 1) (pa_cons (pe_lst pa_nil) pa_nil)))) (pss_one (ps_if (PW.pt (aeb (pt_cmpR op_eq (pv 2) BR `P) (aa9 (pt_cmpR Jx (pe_callB call_len_seq rfl cY kO (pa_cons (pv 1) pa_nil)) pe_int `P)))) (pss_cons (ps_set (i:=3) rN.nd rfl `O (WT PySem.F.plainAttrs_list PySem.F.slot_list_pop PySem.F.type_list_pop jx (pv 1)))
   (pss_one (ps_expr (zx PySem.F.plainAttrs_list PySem.F.slot_list_append PySem.F.type_list_append bW (pe_ix ix_list (pv 1) (ahF j4 pe_int) (fun _ _=>rfl)) (pa_cons (Ul dW rfl cA jU (pa_cons (pv 3) pa_nil)) pa_nil))))) (pss_one Dm))))))
   (pss_cons (ps_if (PW.pt (ahE (pt_cmpR op_ne (pe_callB call_len_seq rfl cY kO (pa_cons (pv 1) pa_nil)) pe_int `P) (aea (pt_cmpR op_ne (pe_callB call_len_seq rfl cY kO (pa_cons (pe_ix ix_list (pv 1) pe_int (fun _ _=>rfl)) pa_nil)) pe_int `P)))) (pss_one Dm) pss_nil)
   (pss_one (ps_ret (pe_ix ix_list (pe_ix ix_list (pv 1) pe_int (fun _ _=>rfl)) pe_int (fun _ _=>rfl)))))))),?_⟩
 refine⟨_,rfl,.str (tx l),"str",.type "str",true,rfl,TyOf.str _,by rfl,_,rfl,iteF ?_⟩
 refine⟨`W,fun q0 hq0=>⟨`e,fun p hp=>?_⟩⟩
 have npq:p≠q0:=fun z=>by rw[z,upd_same]at hp;cases hp
 have hpH:H p=none:=by rw[upd_ne npq]at hp;exact hp
 refine⟨_,rfl,_,rfl,?_⟩
 refine ai3 (l:=l) (alE K H l p) ?_ ?_ ?_
 ·refine⟨[[]],[.ref q0],_,_,rfl,rfl,⟨hpH,(same_new hq0 _).trans (same_new hp _),upd_same,?_,?_⟩,by rw[List.flatten_cons,List.flatten_nil,List.append_nil,T.cg];simp⟩
  ·exact aO.one ⟨q0,[],rfl,hq0,(same_new hp _) _ _ upd_same,bH.mpr rfl⟩
  ·simp[npq]
 ·rintro i c σ' H' hc⟨st,ys,o2,o3,rfl,hi,R,hsz⟩
  have hlt:i<l.length:=(List.getElem?_eq_some_iff.mp hc).1
  obtain⟨st2,hs1,hs2⟩:=T.ah_ hrd hi hc
  have hyl:ys.length=st.length:=by rw[R.rows.length,List.length_reverse]
  rcases T.ad4 hs1 with⟨rfl,r,rs,rfl,rfl⟩|⟨rfl,r,r',rs,rfl,rfl⟩
  ·
   refine⟨_,rfl,rfl,_,rfl,ite2 (fun _=>?_) (fun hb=>absurd (by rw[abM];exact decide_eq_true rfl) hb)⟩
   refine⟨_,rfl,.inl ⟨rfl,_,SqL.of R.at_⟩,`W,fun q2 hq2=>?_⟩
   have apy:p≠q2:=ne_of_none R.at_ hq2
   refine⟨p,ys,.ref q2,rfl,rfl,by rw[upd_ne apy];exact R.at_,mX `A,?_⟩
   refine⟨[]::r::rs,ys++[.ref q2],_,_,rfl,hs2,GC R hq2,?_⟩
   rw[List.flatten_cons,List.nil_append,List.length_cons]
   lia
  ·
   have e1:decide (V.str (tx [41])=V.str (Str.ofString "("))=false:=by rw[abM,akM];rfl
   refine⟨_,rfl,rfl,_,rfl,ite2 (fun hb=>absurd (e1.symm.trans hb) Bool.false_ne_true) (fun _=>?_)⟩
   refine⟨_,rfl,rfl,_,rfl,ite2 (fun _=>?_) (fun hb=>absurd (by rw[ahp];exact decide_eq_true rfl) hb)⟩
   refine⟨_,rfl,p,ys,rfl,.inl (SqL.of R.at_),_,_,rfl,rfl,_,rfl,ite2 (fun _=>?_) (fun hb=>absurd (decide_eq_true (by rw[hyl];simp only[List.length_cons];lia)) hb)⟩
   obtain⟨ys0,a',a,xs',xs,rfl,ha,ha',npa,Hi,lx,lx',next⟩:=ad1 R
   refine⟨_,rfl,.inl ⟨rfl,_,SqL.of R.at_⟩,p,_,`I,rfl,rfl,R.at_,`G,?_⟩
   rw[List.dropLast_concat]
   refine⟨_,rfl,_,rfl,p,_,-1,.ref a',rfl,rfl,SqL.of upd_same,kY,.inl ⟨rfl,xs',SqL.of (by rw[upd_ne (Ne.symm Hi)];exact ha')⟩,?_⟩
   refine⟨_,rfl,a,xs,rfl,.inl ⟨SqL.of (by rw[upd_ne (Ne.symm npa)];exact ha),fun b hb=>?_⟩⟩
   have nab:a'≠b:=fun z=>by
    rw[<-z,upd_ne (Ne.symm Hi),ha']at hb
    cases hb
   have hpr:T.aN r'<=T.aN (r::r'::rs).flatten:=by
    rw[List.flatten_cons,List.flatten_cons,T.bZ,T.bZ]
    lia
   have hlr:=T.cM r'
   refine⟨a',xs',.ref b,rfl,rfl,by rw[upd_ne nab,upd_ne (Ne.symm Hi)];exact ha',mX `A,?_⟩
   refine⟨(r'++[.node r])::rs,ys0++[.ref a'],_,_,rfl,hs2,next b hb,?_⟩
   rw[List.flatten_cons,List.flatten_cons,T.bZ,T.bZ,List.length_cons,List.length_cons]at hsz
   rw[List.flatten_cons,T.bZ,T.bZ,T.aK,T.cg,T.aR,List.length_cons]
   lia
 ·rintro σ' H'⟨st,ys,o2,o3,rfl,hi,R,hsz⟩
  rw[List.take_of_length_le `K,hrd]at hi
  have est:=Option.some.inj hi
  subst est
  have hr:=R.rows
  cases hr with
  |cons r0 r1=>
   cases r1
   obtain⟨a,xs,rfl,_,ha,hta⟩:=r0
   obtain⟨x,r2,rfl,hx,hnil⟩:=cD.mp hta
   rw[bH]at hnil
   subst hnil
   refine⟨_,rfl,p,_,rfl,.inl (SqL.of R.at_),rfl,_,rfl,ite2 (fun hb=>absurd hb `G) (fun _=>?_)⟩
   refine⟨_,rfl,p,_,0,`I,rfl,rfl,SqL.of R.at_,atI_nat (j:=0) rfl,a,[x],rfl,.inl (SqL.of ha),rfl,_,rfl,ite2 (fun hb=>absurd hb `G) (fun _=>?_)⟩
   exact⟨_,rfl,p,_,0,`I,rfl,rfl,SqL.of R.at_,atI_nat (j:=0) rfl,a,[x],0,x,rfl,rfl,SqL.of ha,atI_nat (j:=0) rfl,q x _ R.same hx⟩
theorem afs{K:W.Frag}(vs:`E)(H:Hp)(Q:VK)(E:XK)(h:C_ K vs H Q E):aaV K vs H Q E:=by
 obtain⟨t,rfl,hp,q⟩:=h
 exact⟨_,t,rfl,T.afY t,by rw[T.pN];lia,q⟩
end
section
variable{P:Program}{w:World}{K:W.Frag}{mg:`Y}{base:Heap}{f:Addr}{fd:FuncData}
theorem ajx{t u:TT}{σ:Sg}{H:Hp}{Q:Bool->`M}{b1 b2:Bool}(h1:∀R:Bool->`M,R b1 H->t σ H R)(h2:b1=true->∀R:Bool->`M,R b2 H->u σ H R)(q:∀b,Q b H):afF t u σ H Q:=by
 refine h1 _ ?_
 cases b1 with
 |false=>exact iteF (q false)
 |true=>exact iteT (h2 rfl _ (q b2))
theorem alQ{t u:TT}{σ:Sg}{H:Hp}{Q:Bool->`M}{b1 b2:Bool}(h1:∀R:Bool->`M,R b1 H->t σ H R)(h2:∀R:Bool->`M,R b2 H->u σ H R)(q:∀b,Q b H):tOr t u σ H Q:=by
 refine h1 _ ?_
 cases b1 with
 |true=>exact iteT (q true)
 |false=>exact iteF (h2 _ (q b2))
theorem aqk{c:Bool}{A B:Prop}(h:c=false)(k:B):if c=true then A else B:=by subst h;exact k
theorem Hx{tc:TT}{tb te:TS}{u:TS}{D:Ends}{σ:L2.St}{H:Hp}(P:L2.St->`M)(k:∀σ' H',P σ' H'->u D σ' H')(h:∀N:L2.St->`M,(∀σ' H',P σ' H'->N σ' H')->tIfS tc tb te {D with nx:=N} σ H):tSeq (tIfS tc tb te) u D σ H:=h _ k
def Fnd(K:W.Frag)(m i:Int)(H:Hp)(o:Option V):Prop:=i<m->∃(q:Addr)(y n:V),o=some (.ref q)/\SqT K H q [.str vZ,y,n]/\TR K H (.node cj) y
theorem Fnd.on{K:W.Frag}{m i:Int}{H:Hp}{o:Option V}(h:Fnd K m i H o)(hi:i≠m):Fnd K (m+1) i H o:=fun z=>h `A
theorem adM:∃ps,Ts cj ps:=by
 refine⟨_,.cons (.lay `C `C) (.cons (.plain `C `C `C) (.cons (.lay `C `C) (.cons (.plain `C `C `C) (.cons (.plain `C `C `C) .nil))))⟩
theorem Xf(cY:mg "len"=none)(iH:mg "range"=none)(JC:mg "min"=none)
  (F:Fun K "_law_deck" "_law_deck" jM f fd):FnOk P w K mg base CX0 32 f fd ["_law_script"] (adU K):=by
 refine okQ F dF `S `Q
 ·obtain⟨a,ns,rfl,_⟩:=h
  rfl
 obtain⟨a,ns,rfl,hl,h63,q⟩:=h
 refine⟨_,(au (aZ (i:=1) dF.nd rfl `O (iM ak))
   (au (bA (QW.pt (Ov (aU Jx (cJ call_len_seq rfl cY kO (aj (qv 0) ak)) aP `P) (Jv (aU op_eq (aV op_mod (cW ix_list (qv 0) aP (fun _ _=>rfl)) aP) aP `P)))) (au (xY PassesOwn.never rfl (Rh (lM aa3 (qv 0) (j9 aP) (j9 aP))) (qW (i:=2) dF.nd rfl `O) (au (aZ (i:=3) dF.nd rfl `O (aV op_mod (qv 2) (aV aj9 aP aP)))
   (aq (xY PassesOwn.never rfl (zu rfl iH (aj aP ak)) (qW (i:=4) dF.nd rfl `O) (aq (bA (QW.pt (ab3 (aU op_eq (qv 4) aP `P) (Ww (aU Jx (qv 3) aP `P)))) (au (bY (cN PySem.F.plainAttrs_list PySem.F.slot_list_append PySem.F.type_list_append bW (qv 1) (aj (aV op_mod (qv 3) aP) ak)))
   (aq (aZ (i:=3) dF.nd rfl `O (aV agi (qv 3) aP)))) aX))))))
   (aq (aQ (lM aa3 (qv 1) uc (j9 aP))))) aX)
   (au (xY PassesOwn.never rfl (zu rfl iH (aj aP ak)) (qW (i:=4) dF.nd rfl `O) (au (aZ (i:=2) dF.nd rfl `O (aV vh aP (qv 4)))
   (au (bA (aU Jx (cJ call_len_seq rfl cY kO (aj (qv 0) ak)) aP `P) (aq (aZ (i:=2) dF.nd rfl `O (aV op_mod (cW ix_list (qv 0) (aV op_mod (qv 4) (cJ (UJ rfl) rfl JC aeO (aj aP (aj (cJ call_len_seq rfl cY kO (aj (qv 0) ak)) ak)))) (fun _ _=>rfl)) aP))) aX)
   (au (aZ (i:=3) dF.nd rfl `O (aV op_mod (aV op_add (aV op_add (aV vh (qv 2) aP) (aV vh aP (qv 4))) aP) aP))
   (au (aZ (i:=3) dF.nd rfl `O (aV op_mod (aV op_add (aV vh (qv 3) (aV op_add (aV op_fdiv (qv 3) aP) (qv 4))) (aV vh aP (qv 4))) aP))
   (aq (bY (cN PySem.F.plainAttrs_list PySem.F.slot_list_append PySem.F.type_list_append bW (qv 1) (aj (aV op_mod (aV op_add (aV vh (qv 3) aP) (aV op_fdiv (qv 3) aP)) aP) ak)))))))))
   (aq (aQ (qv 1)))))),?_⟩
 have big:(2^64:Int)=18446744073709551616:=`B
 refine⟨`W,fun p1 g1=>?_⟩
 have S1:=same_new g1 (.lst [])
 have hl1:=S1.seq hl
 have hlen:(ns.map V.int).length=ns.length:=List.length_map ..
 dsimp only[tNext,tSeq,tIfS]
 refine ajx (b1:=decide ((1:Int)<((ns.map V.int).length:Int))) (b2:=decide (V.int ((ns.getD 0 0)%2)=V.int 1)) (fun R r=>⟨_,rfl,a,_,rfl,.inl hl1,_,_,rfl,rfl,_,rfl,r⟩) (fun h2 R r=>?_) (fun bb=>ite2 (fun _=>?_) (fun _=>?_))
 ·have h3:1<ns.length:=by have:=of_decide_eq_true h2;rw[hlen]at this;lia
  have e0:atI (ns.map V.int) 0=some (.int (ns.getD 0 0)):=atI_nat (j:=0) (by rw[List.getElem?_map,List.getElem?_eq_getElem `A,List.getD_eq_getElem?_getD,List.getElem?_eq_getElem `A];rfl)
  exact⟨_,rfl,a,_,_,_,rfl,rfl,hl1,e0,_,_,rfl,rfl,(by show(0:Int)<2;decide),rfl,_,rfl,r⟩
 ·refine⟨_,rfl,1,rfl,63,rfl,a,_,rfl,hl1,fun p2 g2=>?_⟩
  obtain⟨k,ek⟩:=ai9 (ns.map V.int) 1 63
  have ek':jT (ns.map V.int) (some 1) (some 63)=((ns.map V.int).drop (min 1 (ns.map V.int).length)).take k:=ek
  have hint:∀x∈jT (ns.map V.int) (some 1) (some 63),∃z,x=.int z:=fun x hx=>by
   rw[ek']at hx
   have hx:=List.mem_of_mem_drop (List.mem_of_mem_take hx)
   obtain⟨z,_,rfl⟩:=List.mem_map.mp hx
   exact⟨z,rfl⟩
  have amb:(jT (ns.map V.int) (some 1) (some 63)).length<=63:=by
   rw[ek',List.length_take,List.length_drop,hlen]
   lia
  have n12:p2≠p1:=fun z=>by rw[z,upd_same]at g2;cases g2
  have gH1:H p1=none:=g1
  generalize jT (ns.map V.int) (some 1) (some 63)=cs at hint amb
  refine⟨p2,rfl,⟨_,SqL.of upd_same⟩,?_⟩
  refine for_list (xs:=cs) (fun i σ' H'=>∃(ds:List Int)(o2 o3 o4:Option V),σ'=[some `I,some (.ref p1),o2,o3,o4]/\`N/\H' p1=some (.lst (ds.map V.int))/\H' p2=some (.lst cs)/\ds.length<=60*i) ?_ ?_ ?_ ?_
  ·exact⟨[],_,_,_,rfl,S1.trans (same_new g2 _),by rw[upd_ne n12.symm];exact upd_same,upd_same,`W⟩
  ·rintro i σ' H' _⟨ds,o2,o3,o4,rfl,S,h1,h2,_⟩
   exact SqL.of h2
  ·rintro i x σ' H' hx⟨ds,o2,o3,o4,rfl,S,h1,h2,hd⟩
   obtain⟨z,rfl⟩:=hint x (List.mem_of_getElem? hx)
   have hi:i<cs.length:=(List.getElem?_eq_some_iff.mp hx).1
   refine⟨_,rfl,_,_,rfl,rfl,⟨`B,`B,`B⟩,_,_,rfl,rfl,(by show(0:Int)<2147483647^60;decide),?_⟩
   refine⟨60,rfl,`B,`B,?_⟩
   refine Hy (n:=60) (fun j σ'' H''=>∃(es:List Int)(m:Int)(o4:Option V),σ''=[some `I,some (.ref p1),some (.int z),some (.int m),o4]/\Same H H''/\H'' p1=some (.lst (es.map V.int))/\H'' p2=some (.lst cs)/\es.length<=60*i+j) ?_ ?_ ?_
   ·exact⟨ds,_,_,rfl,S,h1,h2,hd⟩
   ·rintro j σ'' H'' hj⟨es,m,o5,rfl,S',h1',h2',he⟩
    dsimp only[gName,tNext,tSeq,tIfS]
    refine alQ (fun R r=>⟨_,rfl,rfl,_,rfl,r⟩) (fun R r=>⟨_,rfl,_,_,rfl,rfl,_,rfl,r⟩) (fun bb=>ite2 (fun _=>?_) (fun _=>?_))
    ·refine⟨_,rfl,.inl ⟨rfl,_,SqL.of h1'⟩,_,rfl,_,_,rfl,rfl,(by show(0:Int)<2147483647;decide),p1,_,_,rfl,rfl,h1',mX (by rw[List.length_map];lia),?_⟩
     refine⟨_,rfl,_,_,rfl,rfl,⟨`B,`C⟩,es++[m%2147483647],_,_,rfl,bN S' gH1,by rw[upd_same,List.map_append];rfl,by rw[upd_ne n12];exact h2',by rw[List.length_append];show es.length+1<=_;lia⟩
    ·exact⟨es,m,_,rfl,S',h1',h2',`A⟩
   ·rintro σ'' H''⟨es,m,o5,rfl,S',h1',h2',he⟩
    exact⟨es,_,_,_,rfl,S',h1',h2',`A⟩
  ·rintro σ' H'⟨ds,o2,o3,o4,rfl,S,h1,h2,hd⟩
   refine⟨_,rfl,160,rfl,p1,_,rfl,SqL.of h1,fun p3 g3=>q p3 _ (S.trans (same_new g3 _)) (S.free g3) ⟨ds.take 160,?_⟩⟩
   rw[upd_same,show(some (160:Int))=some ((160:Nat):Int)from rfl,aeK,List.map_take]
 ·have gH1:H p1=none:=g1
  dsimp only[tNext]
  refine⟨160,rfl,`B,`B,?_⟩
  refine Hy (n:=160) (fun i σ' H'=>∃(ds:List Int)(o2 o3 o4:Option V),σ'=[some `I,some (.ref p1),o2,o3,o4]/\`N/\H' p1=some (.lst (ds.map V.int))/\ds.length=i) ?_ ?_ ?_
  ·exact⟨[],_,_,_,rfl,S1,upd_same,rfl⟩
  ·rintro i σ' H' hi⟨ds,o2,o3,o4,rfl,S,h1,hd⟩
   have hi2:(0:Int)+(i:Int)<160:=`A
   have hlH:=S.seq hl
   refine lE (fun v=>[some `I,some (.ref p1),some v,o3,some (.int (0+(i:Int)))]) (fun _=>rfl) (fun v H''=>v=.int (3*(0+(i:Int)))/\H''=H') (fun R r=>⟨_,rfl,_,_,rfl,rfl,.inl ⟨`B,`B⟩,r _ _ ⟨rfl,rfl⟩⟩) (fun v2 H2 h2=>?_)
   obtain⟨rfl,rfl⟩:=h2
   refine akA (fun v=>[some `I,some (.ref p1),some v,o3,some (.int (0+(i:Int)))]) (fun _=>rfl) (fun v H''=>∃z:Int,v=.int z/\0<=z/\z<2147483647/\H''=H2) (.int (3*(0+(i:Int)))) rfl (fun v3 H3 h3=>?_) (fun A B' hA hB=>⟨_,rfl,a,_,rfl,.inl hlH,_,_,rfl,rfl,_,rfl,ite2 (fun hb=>hA _ fun R r=>?_) (fun _=>hB _ ⟨_,rfl,`A,`A,rfl⟩)⟩)
   rotate_left
   ·have hpos:0<ns.length:=by have:=of_decide_eq_true hb;rw[hlen]at this;lia
    have hmn:(0:Int)<(if((ns.map V.int).length:Int)<63 then((ns.map V.int).length:Int)else 63):=by rw[hlen];split<;>lia
    have hmx:(if((ns.map V.int).length:Int)<63 then((ns.map V.int).length:Int)else 63)<=(ns.length:Int):=by rw[hlen];split<;>lia
    refine⟨_,rfl,_,rfl,_,rfl,a,_,rfl,.inl hlH,_,_,rfl,?_⟩
    generalize(if((ns.map V.int).length:Int)<63 then((ns.map V.int).length:Int)else 63)=mm at hmn hmx|-
    refine⟨_,_,rfl,rfl,hmn,?_⟩
    have j0:0<=(0+(i:Int))%mm:=Int.emod_nonneg _ `A
    have j1:(0+(i:Int))%mm<mm:=Int.emod_lt_of_pos _ hmn
    obtain⟨z,_,ez⟩:=alC (ns:=ns) (k:=(0+(i:Int))%mm) j0 `A
    exact⟨a,_,_,_,rfl,rfl,hlH,ez,_,_,rfl,rfl,(by show(0:Int)<2147483629;decide),r _ _ ⟨_,rfl,Int.emod_nonneg _ `B,Int.lt_trans (Int.emod_lt_of_pos _ `B) `B,rfl⟩⟩
   obtain⟨z,rfl,z0,z1,rfl⟩:=h3
   refine lE (fun v=>[some `I,some (.ref p1),some (.int z),some v,some (.int (0+(i:Int)))]) (fun _=>rfl) (fun v H''=>∃m:Int,v=.int m/\0<=m/\m<2147483647/\H''=H3) (fun R r=>⟨_,rfl,_,_,rfl,rfl,.inl ⟨`A,`A⟩,_,rfl,_,_,rfl,rfl,.inl ⟨`B,`B⟩,_,_,rfl,rfl,_,_,rfl,rfl,_,_,rfl,rfl,(by show(0:Int)<2147483629;decide),r _ _ ⟨_,rfl,Int.emod_nonneg _ `B,Int.lt_trans (Int.emod_lt_of_pos _ `B) `B,rfl⟩⟩) (fun v4 H4 h4=>?_)
   obtain⟨m4,rfl,m0,m1,rfl⟩:=h4
   refine lE (fun v=>[some `I,some (.ref p1),some (.int z),some v,some (.int (0+(i:Int)))]) (fun _=>rfl) (fun v H''=>∃m:Int,v=.int m/\0<=m/\m<2147483647/\H''=H4) (fun R r=>⟨_,rfl,_,rfl,_,_,rfl,rfl,⟨`B,`B⟩,_,rfl,_,_,rfl,rfl,_,_,rfl,rfl,.inl ⟨`A,`A⟩,_,rfl,_,_,rfl,rfl,.inl ⟨`B,`B⟩,_,_,rfl,rfl,_,_,rfl,rfl,(by show(0:Int)<2147483587;decide),r _ _ ⟨_,rfl,Int.emod_nonneg _ `B,Int.lt_trans (Int.emod_lt_of_pos _ `B) `B,rfl⟩⟩) (fun v5 H5 h5=>?_)
   obtain⟨m5,rfl,n0,n1,rfl⟩:=h5
   refine⟨_,rfl,.inl ⟨rfl,_,SqL.of h1⟩,_,rfl,_,_,rfl,rfl,.inl ⟨`A,`A⟩,_,rfl,_,_,rfl,rfl,⟨`B,`B⟩,_,_,rfl,rfl,_,_,rfl,rfl,(by show(0:Int)<2147483647;decide),p1,_,_,rfl,rfl,h1,mX (by rw[List.length_map];lia),?_⟩
   exact⟨ds++[(m5*69621+m5/127)%2147483647],_,_,_,rfl,bN S gH1,by rw[upd_same,List.map_append];rfl,by rw[List.length_append,hd];rfl⟩
  ·rintro σ' H'⟨ds,o2,o3,o4,rfl,S,h1,hd⟩
   exact⟨_,rfl,q p1 H' S gH1 ⟨ds,h1⟩⟩
theorem Xe(cY:mg "len"=none)
  (F:Fun K "_law_next" "_law_next" iB f fd):FnOk P w K mg base CX0 31 f fd ["_law_deck_here","_law_many"] V5:=by
 refine okQ F Wo `S `Q
 ·obtain⟨p,m,rfl,_⟩:=h
  rfl
 obtain⟨p,m,rfl,hm,hd,q⟩:=h
 refine⟨_,(au (bA (aU op_eq (cJ call_len_seq rfl cY kO (aj (qv 0) ak)) aP `P) (aq (aQ aP)) aX)
   (aq (aQ (aV op_mod (cN PySem.F.plainAttrs_list PySem.F.slot_list_pop PySem.F.type_list_pop Ml (qv 0) (aj aP ak)) (qv 1))))),?_⟩
 obtain⟨ns,hp⟩:=hd
 refine⟨_,rfl,p,_,rfl,.inl (SqL.of hp),rfl,_,rfl,?_⟩
 refine ite2 (fun _=>?_) (fun hb=>?_)
 ·exact q 0 H `A hm (Dr.refl ⟨ns,hp⟩)
 ·cases ns with
  |nil=>exact absurd (decide_eq_true rfl) hb
  |cons n ns=>
   refine⟨_,rfl,.inl ⟨rfl,_,SqL.of hp⟩,p,_,0,0,_,rfl,rfl,hp,`B,`B,?_,rfl,?_⟩
   ·rw[seqIndex_of `B (by rw[List.length_map,List.length_cons];lia)]
    rfl
   ·refine⟨_,rfl,_,_,rfl,rfl,hm,q _ _ (Int.emod_nonneg _ `A) (Int.emod_lt_of_pos _ hm) ⟨fun b o nb e=>?_,⟨ns,?_⟩⟩⟩
    ·rw[upd_ne nb];exact e
    ·rw[upd_same];rfl
theorem agt(cA:mg "tuple"=none)(iH:mg "range"=none)
  {jW:Addr}{jR:FuncData}(Bt:Fun K "_law_next" "_law_next" iB jW jR)(Zf:FnOk P w K mg base CX0 31 jW jR ["_law_deck_here","_law_many"] V5)(Az:Binds K jR ["_law_deck_here","_law_many"] [])(zV:mg "_law_next"=some (.ref jW))
  {a_t:Addr}{d_t:FuncData}(qj:Fun K "_law_tree" "_law_tree" iz a_t d_t)(Ay:Binds K d_t ["_law_deck_here","_law_deep"] [])(zU:mg "_law_tree"=some (.ref a_t)):
  ∀n:Nat,FnOk P w K mg base CX0 (32+n) a_t d_t ["_law_deck_here","_law_deep"] (adR K n):=by
 intro n
 induction n with
 |zero=>
  refine okQ (k:=31) qj Gy `S `Q
  ·obtain⟨p,d,rfl,_⟩:=h
   rfl
  obtain⟨p,d,rfl,hd,hk,q⟩:=h
  refine⟨_,au (bA (aU op_eq (qv 1) aP `P) (aq (aQ (bB ak))) aX) (aq t_),?_⟩
  have e:d=0:=`A
  subst e
  refine⟨_,rfl,rfl,_,rfl,ite2 (fun _=>⟨`W,fun p1 hp1=>?_⟩) (fun hb=>absurd (decide_eq_true rfl) hb)⟩
  exact q _ _ _ ((Dr.refl hk).same (same_new hp1 _)) (rA upd_same) ⟨by rw[T.bC,T.iC];lia,by rw[T.aR,T.cg];decide⟩
 |succ n ih=>
  have Bq:=ih
  have Br:=Zf.mono (show 31<=32+n by lia)
  refine okQ (k:=32+n) qj Gy `S `Q
  ·obtain⟨p,d,rfl,_⟩:=h
   rfl
  obtain⟨p,d,rfl,hd,hk,q⟩:=h
  refine⟨_,(au (bA (aU op_eq (qv 1) aP `P) (aq (aQ (bB ak))) aX)
   (aq (aQ (lu dW rfl cA jU (aj (Ow rfl (wU (fr:=["_law_deck_here","_law_deep"]) (js:=[0,1]) (sc:=defScope iz) rfl rfl rfl `C `C `C `C (by exact⟨⟨rfl,rfl,rfl⟩,⟨⟨rfl,rfl,rfl⟩,trivial⟩⟩) `C (fun y hy=>cell_has hy)) (zu rfl iH (aj (aH Br hr rfl zV Bt.kp Az .nil pass0 (aj (qv 0) (aj aP ak))) ak)) (fun _ _ _ _ _=>(aH Bq hr rfl zU qj.kp Ay .nil pass0 (aj (qv 1) (aj (aV op_sub (qv 2) aP) ak))))) ak))))),?_⟩
  refine⟨_,rfl,rfl,_,rfl,ite2 (fun hb=>?_) (fun hb=>?_)⟩
  ·have e:d=0:=by
    have:=of_decide_eq_true hb
    have:=V.int.inj this
    lia
   subst e
   refine⟨`W,fun p1 hp1=>?_⟩
   exact q _ _ _ ((Dr.refl hk).same (same_new hp1 _)) (rA upd_same) ⟨by rw[T.bC,T.iC];lia,by rw[T.aR,T.cg];decide⟩
  ·have hd0:d≠0:=fun z=>hb (by subst z;exact decide_eq_true rfl)
   obtain⟨e,rfl⟩:∃e,d=e+1:=⟨d-1,`A⟩
   refine⟨_,rfl,p,4,rfl,`B,hk,fun m H1 hm0 hm1 D1=>?_⟩
   refine⟨m,rfl,`A,`A,?_⟩
   have hk1:=D1.Np
   refine aeG (fun D i ys H'=>D≠p/\H1 D=none/\Dr p H1 H'/\H' D=some (.lst ys)/\ys.length=i/\∃ts,TRs K H' ts ys/\∀t∈ts,ShT e t) (small `A) (fun D hD=>?_) (fun D i ys H' j=>⟨j.2.2.2.1,j.2.2.2.2.1⟩) (fun D i ys H' R hi j hR=>?_) (fun D ys H' j=>?_)
   ·have hne:D≠p:=fun z=>by
     obtain⟨ns,e1⟩:=hk1
     rw[z,e1]at hD;cases hD
    exact⟨hne,hD,(Dr.refl hk1).upd hD hne,upd_same,rfl,[],bH.mpr rfl,fun _ h=>by simp at h⟩
   ·obtain⟨hne,hD,Dh,h1,hl,ts,htr,hsh⟩:=j
    refine⟨_,rfl,_,rfl,_,_,rfl,rfl,p,e,(by show[V.ref p,V.int (((e+1:Nat):Int)-1)]=_;rw[show((e+1:Nat):Int)-1=(e:Int)by lia]),`A,Dh.Np,fun y t H3 D3 ht hs=>?_⟩
    have h3:=D3.keep D _ hne h1
    refine hR y H3 h3 ⟨hne,hD,(Dh.trans D3).upd hD hne,upd_same,by rw[List.length_append,hl];rfl,ts++[t],?_,fun u hu=>?_⟩
    ·exact TRs.append ((htr.mono (D3.kt Dh.Np)).mono (Kt.lst h3)) (cD.mpr ⟨y,[],rfl,ht.mono (Kt.lst h3),bH.mpr rfl⟩)
    ·rcases List.mem_append.mp hu with z|z
     ·exact hsh u z
     ·rw[List.mem_singleton.mp z];exact hs
   ·obtain⟨hne,hD,Dh,h1,hl,ts,htr,hsh⟩:=j
    refine⟨D,ys,rfl,.inl ⟨SqL.of h1,fun p5 hp5=>?_⟩⟩
    have hlt:ts.length<=3:=by rw[<-htr.length,hl];lia
    refine q _ (.node ts) _ ((D1.trans Dh).same (same_new hp5 _)) (tQ (SqT.of upd_same) (htr.mono (Kt.new hp5))) ⟨?_,?_⟩
    ·rw[T.bC]
     exact T.Kh fun u hu=>by have:=(hsh u hu).1;lia
    ·rw[T.aR]
     have:=aeh (b:=pbT e) hlt fun u hu=>(hsh u hu).2
     show _<=1+3*pbT e
     lia
end
section
variable{P:Program}{w:World}{K:W.Frag}{mg:`Y}{base:Heap}{f:Addr}{fd:FuncData}
theorem ok_law(aY:mg "isinstance"=none)(cA:mg "tuple"=none)
  {Bk:Addr}{Al:FuncData}(aaI:Fun K "_law_deck" "_law_deck" jM Bk Al)(aaB:FnOk P w K mg base CX0 59 Bk Al ["_law_script"] (adU K))(aap:Binds K Al ["_law_script"] [])(Z9:mg "_law_deck"=some (.ref Bk))
  {Bj:Addr}{Ak:FuncData}(qj:Fun K "_law_tree" "_law_tree" iz Bj Ak)(Bq:FnOk P w K mg base CX0 59 Bj Ak ["_law_deck_here","_law_deep"] (adR K 3))(Ay:Binds K Ak ["_law_deck_here","_law_deep"] [])(zU:mg "_law_tree"=some (.ref Bj))
  {yR:Addr}{yE:FuncData}(Zh:Fun K "selfteller" "selfteller" iK yR yE)(Zc:FnOk P w K mg base CX0 59 yR yE [] (gw K cj))(YQ:Binds K yE [] [])(Xv:mg "selfteller"=some (.ref yR))
  {jW:Addr}{jR:FuncData}(Bt:Fun K "_law_next" "_law_next" iB jW jR)(Br:FnOk P w K mg base CX0 59 jW jR ["_law_deck_here","_law_many"] V5)(Az:Binds K jR ["_law_deck_here","_law_many"] [])(zV:mg "_law_next"=some (.ref jW))
  {yU:Addr}{yG:FuncData}(Zj:Fun K "cost" "cost" u6 yU yG)(Ze:FnOk P w K mg base CX0 59 yU yG ["tally"] (V_ K))(YT:Binds K yG ["tally"] [])(Xx:mg "cost"=some (.ref yU))
  {N6:Addr}{Nu:FuncData}(aho:Fun K "turned" "turned" nj N6 Nu)(ahn:FnOk P w K mg base CX0 59 N6 Nu ["tally"] (VR K))(ahd:Binds K Nu ["tally"] [])(agE:mg "turned"=some (.ref N6))
  {EY:Addr}{Em:FuncData}(adq:Fun K "tally_of" "tally_of" lF EY Em)(adh:FnOk P w K mg base CX0 59 EY Em ["text","tree","budget"] (Uc K))(ac0:Binds K Em ["text","tree","budget"] [])(acw:mg "tally_of"=some (.ref EY))
  {ac_:Addr}{acR:FuncData}(Vu:Fun K "run" "run" Dj ac_ acR)(Vt:FnOk P w K mg base CX0 59 ac_ acR ["text","tree","budget"] (ahy K))(Vs:Binds K acR ["text","tree","budget"] [])(Vp:mg "run"=some (.ref ac_))
  {iY:Addr}{iU:FuncData}(yZ:Fun K "selfrunner" "selfrunner" gB iY iU)(yW:FnOk P w K mg base CX0 59 iY iU [] (gw K zq))(yP:Binds K iU [] [])(yq:mg "selfrunner"=some (.ref iY))
  {Tr:Addr}{SJ:FuncData}(ajs:Fun K "tower" "tower" tV Tr SJ)(ajp:FnOk P w K mg base CX0 59 Tr SJ ["height","text"] (V0 K))(ajd:Binds K SJ ["height","text"] [])(aiQ:mg "tower"=some (.ref Tr))
  {Y6:Addr}{Ys:FuncData}(afl:Fun K "read" "read" xU Y6 Ys)(ae_:FnOk P w K mg base CX0 59 Y6 Ys ["signs"] (aaU K))(aeV:Binds K Ys ["signs"] [])(aeB:mg "read"=some (.ref Y6))
  {Y5:Addr}{Yr:FuncData}(afj:Fun K "show" "show" xT Y5 Yr)(ae8:FnOk P w K mg base CX0 59 Y5 Yr ["text"] (aaS K))(aeT:Binds K Yr ["text"] [])(aez:mg "show"=some (.ref Y5))
  (F:Fun K "law" "law" uM f fd):FnOk P w K mg base CX0 60 f fd ["_law_script"] (spLaw K):=by
 refine okQ F mY `S `Q
 ·obtain⟨a,ns,rfl,_⟩:=h
  rfl
 obtain⟨a,ns,rfl,hl,h63,q⟩:=h
 have hE:=hr.un
 have hE:(A.deeper (envOfC "law" (defScope uM) s.heap.objs.size f cdv)).units+401<cLine:=`A
 refine⟨_,(au (aZ (i:=1) mY.nd rfl `O (aH aaB hr rfl Z9 aaI.kp aap .nil pass0 (aj (qv 0) ak)))
   (au (aZ (i:=2) mY.nd rfl `O (aH Bq hr rfl zU qj.kp Ay .nil pass0 (aj (qv 1) (aj aP ak))))
   (au (aZ (i:=3) mY.nd rfl `O (iQ Zc hr rfl Xv Zh.kp YQ .nil pass0))
   (au (aZ (i:=4) mY.nd rfl `O (aH Br hr rfl zV Bt.kp Az .nil pass0 (aj (qv 1) (aj aP ak))))
   (au (aZ (i:=5) mY.nd rfl `O (aH Ze hr rfl Xx Zj.kp YT .nil pass0 (aj (aH ahn hr rfl agE aho.kp ahd .nil pass0 (aj (aH adh hr rfl acw adq.kp ac0 .nil pass0 (aj (qv 3) (aj (qv 2) (aj aP ak)))) ak)) ak)))
   (au (bA (aU Jx (qv 5) aP `P) (aq (aZ (i:=4) mY.nd rfl `O (aV vh (aV op_fdiv (qv 4) aP) aP))) aX)
   (au (bA (aU op_eq (qv 4) aP `P) (aq (aZ (i:=6) mY.nd rfl `O (aH Vt hr rfl Vp Vu.kp Vs .nil pass0 (aj (qv 3) (aj (qv 2) (aj aP ak)))))) aX)
   (au (bA (aU op_eq (qv 4) aP `P) (aq (aZ (i:=6) mY.nd rfl `O (aH Vt hr rfl Vp Vu.kp Vs .nil pass0 (aj (iQ yW hr rfl yq yZ.kp yP .nil pass0) (aj (aV bO (bB (aj (qv 3) ak)) (qv 2)) (aj (qv 5) ak)))))) aX)
   (au (bA (aU op_eq (qv 4) aP `P) (aq (aZ (i:=6) mY.nd rfl `O (aH Vt hr rfl Vp Vu.kp Vs .nil pass0 (aj (aH ajp hr rfl aiQ ajs.kp ajd .nil pass0 (aj aP (aj (qv 3) ak))) (aj (qv 2) (aj (aV op_add (qv 5) aP) ak)))))) aX)
   (au (bA (aU op_eq (qv 4) aP `P) (aq (aZ (i:=6) mY.nd rfl `O (aH Vt hr rfl Vp Vu.kp Vs .nil pass0 (aj (aH ae_ hr rfl aeB afl.kp aeV .nil pass0 (aj (aH ae8 hr rfl aez afj.kp aeT .nil pass0 (aj (qv 3) ak)) ak)) (aj (qv 2) (aj aP ak)))))) aX)
   (aq (aQ (ad_ (cJ Ip rfl aY cV (aj (qv 6) (aj (Ri (v:=.ty "tuple") rfl cA jU rfl) ak))) (ad_ (qX (aj_ hE) (lM Bx (qv 6) uc (j9 aP)) (bB (aj bM (aj (qv 3) ak))) `P) (ad9 (qX (B_ hE) (aH ae_ hr rfl aeB afl.kp aeV .nil pass0 (aj (aH ae8 hr rfl aez afj.kp aeT .nil pass0 (aj (cW gY (qv 6) aP (fun _ _=>rfl)) ak)) ak)) (qv 3) `P)))))))))))))))),?_⟩
 have bt:B 9 100 (.node cj):=⟨`C,`C⟩
 have btd:=bt.1
 have btp:=bt.2
 obtain⟨ps,hts⟩:=adM
 refine lE (fun v=>[some `I,some v,none,none,none,none,none]) (fun _=>rfl) (fun v H'=>∃p,v=.ref p/\Fp H' p) (fun R r=>⟨_,rfl,a,ns,rfl,hl,h63,fun p H1 S1 hp0 hk=>r _ _ ⟨p,rfl,hk⟩⟩) (fun v1 H1 h1=>?_)
 obtain⟨p,rfl,hk⟩:=h1
 refine lE (fun v=>[some `I,some (.ref p),some v,none,none,none,none]) (fun _=>rfl) (fun v H'=>∃xs,Fp H' p/\TR K H' (.node xs) v/\B 9 100 (.node xs)) (fun R r=>⟨_,rfl,p,3,rfl,`B,hk,fun y t H2 D2 t2 s2=>r _ _ ?_⟩) (fun v2 H2 h2=>?_)
 ·cases t with
  |node g=>exact⟨g,D2.Np,t2,s2.b.le `B `B⟩
 obtain⟨xs,hk2,t2,bx⟩:=h2
 refine lE (fun v=>[some `I,some (.ref p),some v2,some v,none,none,none]) (fun _=>rfl) (fun v H'=>Same H2 H'/\TR K H' (.node cj) v) (fun R r=>⟨rfl,fun y3 H3 S3 t3=>r _ _ ⟨S3,t3⟩⟩) (fun v3 H3 h3=>?_)
 obtain⟨S3,t3⟩:=h3
 have hk3:Fp H3 p:=by
  obtain⟨ms,e⟩:=hk2
  exact⟨ms,S3 _ _ e⟩
 refine lE (fun v=>[some `I,some (.ref p),some v2,some v3,some v,none,none]) (fun _=>rfl) (fun v H'=>∃i:Int,v=.int i/\0<=i/\i<4/\Dr p H3 H') (fun R r=>⟨_,rfl,p,4,rfl,`B,hk3,fun i H4 i0 i1 D4=>r _ _ ⟨i,rfl,i0,i1,D4⟩⟩) (fun v4 H4 h4=>?_)
 obtain⟨i,rfl,i0,i1,D4⟩:=h4
 have t24:=(t2.mono (K:=K) (.of S3)).mono (D4.kt hk3)
 have t34:=t3.mono (K:=K) (D4.kt hk3)
 have bx1:B 40 2000 (.node xs):=bx.le `A `A
 have bx2:B 40 2000 (.node (.node cj::xs)):=(ady bx (alK bt)).le `A `A
 refine lE (fun v=>[some `I,some (.ref p),some v2,some v3,some (.int i),some v,none]) (fun _=>rfl) (fun v H'=>v=.int 182/\Same H4 H') (fun R r=>⟨_,rfl,_,rfl,v3,v2,.node cj,.node xs,2000,rfl,t34,t24,Ld bx1,fun c5 H5 S5 h5=>⟨c5,Vz,rfl,?_,rfl,fun p6 H6 S6 h6=>⟨p6,turnT Vz,rfl,h6,afw _,fun H7 S7=>?_⟩⟩⟩) (fun v5 H5 h5=>?_)
 ·rw[PN (Rf (.node xs))]at h5
  exact h5
 ·rw[aiP]
  exact r _ _ ⟨rfl,S5.trans (S6.trans S7)⟩
 obtain⟨rfl,S5⟩:=h5
 have t25:=t24.mono (K:=K) (.of S5)
 have t35:=t34.mono (K:=K) (.of S5)
 refine Hx (fun σ' H'=>σ'=[some `I,some (.ref p),some v2,some v3,some (.int i),some (.int 182),none]/\H5=H') (fun σ' H8 h8=>?_) (fun N hN=>?_)
 rotate_left
 ·exact⟨_,rfl,_,_,rfl,rfl,_,rfl,aqk rfl (hN _ _ ⟨rfl,rfl⟩)⟩
 obtain⟨rfl,rfl⟩:=h8
 refine Hx (fun σ' H'=>∃o:Option V,σ'=[some `I,some (.ref p),some v2,some v3,some (.int i),some (.int 182),o]/\Same H5 H'/\Fnd K 1 i H' o) (fun σ' H8 h8=>?_) (fun N hN=>?_)
 rotate_left
 ·refine⟨_,rfl,rfl,_,rfl,ite2 (fun hb=>?_) (fun hb=>hN _ _ ⟨_,rfl,Same.refl _,?_⟩)⟩
  ·have hi:i=0:=V.int.inj (of_decide_eq_true hb)
   obtain⟨e1,e2⟩:=Eh (Rf (.node xs))
   refine⟨_,rfl,_,rfl,v3,v2,.node cj,.node xs,2000,rfl,t35,t25,Ld bx1,fun q8 y8 H8 S8 hp8 tv8=>?_⟩
   exact hN _ _ ⟨_,rfl,S8,fun _=>⟨q8,y8,_,rfl,by rw[e1]at hp8;exact hp8,by rw[e2]at tv8;exact tv8⟩⟩
  ·have hi:i≠0:=fun z=>of_decide_eq_false (by simpa using hb) (congrArg V.int z)
   exact fun z=>`A
 obtain⟨o,rfl,S8,f8⟩:=h8
 refine Hx (fun σ' H'=>∃o:Option V,σ'=[some `I,some (.ref p),some v2,some v3,some (.int i),some (.int 182),o]/\Same H5 H'/\Fnd K 2 i H' o) (fun σ' H9 h8=>?_) (fun N hN=>?_)
 rotate_left
 ·refine⟨_,rfl,rfl,_,rfl,ite2 (fun hb=>?_) (fun hb=>hN _ _ ⟨_,rfl,S8,?_⟩)⟩
  ·have hi:i=1:=V.int.inj (of_decide_eq_true hb)
   obtain⟨e1,e2⟩:=Eh (afX xs)
   refine⟨rfl,fun y6 H6 S6 t6=>⟨_,rfl,`e,fun p7 g7=>?_⟩⟩
   obtain⟨S7,t7⟩:=dJ (K:=K) g7 (jE (t35.mono (.of (S8.trans S6))))
   have S57:=S8.trans (S6.trans S7)
   refine⟨_,rfl,cU t7 (t25.mono (.of S57)) (small (by show 1+xs.length<=_;have:=bx.len;lia)) (fun y9 H9 S9 t9=>⟨_,rfl,y6,y9,.node zq,.node (.node cj::xs),182,rfl,t6.mono (.of (S7.trans S9)),t9,ad0 bx2,fun q8 y8 H10 S10 hp8 tv8=>?_⟩)⟩
   exact hN _ _ ⟨_,rfl,(S57.trans (S9.trans S10)),fun _=>⟨q8,y8,_,rfl,by rw[e1]at hp8;exact hp8,by rw[e2]at tv8;exact tv8⟩⟩
  ·have hi:i≠1:=fun z=>of_decide_eq_false (by simpa using hb) (congrArg V.int z)
   exact f8.on hi
 obtain⟨o,rfl,S8,f8⟩:=h8
 refine Hx (fun σ' H'=>∃o:Option V,σ'=[some `I,some (.ref p),some v2,some v3,some (.int i),some (.int 182),o]/\Same H5 H'/\Fnd K 3 i H' o) (fun σ' H10 h8=>?_) (fun N hN=>?_)
 rotate_left
 ·refine⟨_,rfl,rfl,_,rfl,ite2 (fun hb=>?_) (fun hb=>hN _ _ ⟨_,rfl,S8,?_⟩)⟩
  ·have hi:i=2:=V.int.inj (of_decide_eq_true hb)
   obtain⟨e1,e2⟩:=Eh (ah7 xs)
   refine⟨_,rfl,v3,rfl,t35.mono (.of S8),fun y6 H6 S6 t6=>⟨_,rfl,_,rfl,_,_,rfl,rfl,y6,v2,.node VD,.node xs,184,rfl,t6,t25.mono (.of (S8.trans S6)),afW bx1,fun q8 y8 H10 S10 hp8 tv8=>?_⟩⟩
   exact hN _ _ ⟨_,rfl,(S8.trans (S6.trans S10)),fun _=>⟨q8,y8,_,rfl,by rw[e1]at hp8;exact hp8,by rw[e2]at tv8;exact tv8⟩⟩
  ·have hi:i≠2:=fun z=>of_decide_eq_false (by simpa using hb) (congrArg V.int z)
   exact f8.on hi
 obtain⟨o,rfl,S8,f8⟩:=h8
 refine Hx (fun σ' H'=>∃o:Option V,σ'=[some `I,some (.ref p),some v2,some v3,some (.int i),some (.int 182),o]/\Same H5 H'/\Fnd K 4 i H' o) (fun σ' H11 h8=>?_) (fun N hN=>?_)
 rotate_left
 ·refine⟨_,rfl,rfl,_,rfl,ite2 (fun hb=>?_) (fun hb=>hN _ _ ⟨_,rfl,S8,?_⟩)⟩
  ·have hi:i=3:=V.int.inj (of_decide_eq_true hb)
   obtain⟨e1,e2⟩:=Eh (Rf (.node xs))
   refine⟨_,rfl,v3,cj,ps,rfl,t35.mono (.of S8),hts,bt.le `A `A,fun H6 S6=>⟨cj,ps,rfl,hts,bt.le `A `A,fun y7 H7 S7 t7=>⟨_,rfl,y7,v2,.node cj,.node xs,2000,rfl,t7,t25.mono (.of (S8.trans (S6.trans S7))),Ld bx1,fun q8 y8 H10 S10 hp8 tv8=>?_⟩⟩⟩
   exact hN _ _ ⟨_,rfl,(S8.trans (S6.trans (S7.trans S10))),fun _=>⟨q8,y8,_,rfl,by rw[e1]at hp8;exact hp8,by rw[e2]at tv8;exact tv8⟩⟩
  ·have hi:i≠3:=fun z=>of_decide_eq_false (by simpa using hb) (congrArg V.int z)
   exact f8.on hi
 obtain⟨o,rfl,S8,f8⟩:=h8
 obtain⟨q6,y6,n6,rfl,hp6,ty6⟩:=f8 i1
 have t36:=t35.mono (K:=K) (.of S8)
 refine⟨_,rfl,q6,_,"tuple",true,rfl,hp6,by rfl,_,rfl,iteT ?_⟩
 refine⟨_,rfl,2,rfl,q6,_,rfl,hp6,fun a7 H7 S7 h7=>⟨_,rfl,(by show 2<=sizeLine;decide),fun p9 g9=>?_⟩⟩
 have S9:=same_new g9 (.tup [.str vZ,v3])
 have h7:SqT K H7 a7 [.str vZ,y6]:=h7
 have dA:DR K (upd H7 p9 (.tup [.str vZ,v3])) (.t [.s vZ,ofT (.node cj)]) (.ref a7):=DR2 (cO (.of S9) h7) (zj.mpr rfl) (ty6.mono (.of (S7.trans S9))).dr
 have dB:DR K (upd H7 p9 (.tup [.str vZ,v3])) (.t [.s vZ,ofT (.node cj)]) (.ref p9):=DR2 (SqT.of upd_same) (zj.mpr rfl) (t36.mono (.of (S7.trans S9))).dr
 refine⟨_,_,dA,dB,?_,_,rfl,?_⟩
 ·decide+kernel
 rw[Dt.oJ]
 refine iteT ?_
 have S79:=S7.trans S9
 refine⟨_,rfl,q6,_,_,_,rfl,rfl,cO (.of S79) hp6,rfl,y6,cj,ps,rfl,ty6.mono (.of S79),hts,bt.le `A `A,fun H15 S15=>⟨cj,ps,rfl,hts,bt.le `A `A,fun y16 H16 S16 t16=>⟨_,rfl,_,_,t16,t36.mono (.of (S79.trans (S15.trans S16))),`A,?_⟩⟩⟩
 rw[T.oJ]
 exact q _
end
abbrev dZ:Stmt:=inClass (top 85) 0
abbrev fY:Stmt:=inClass (top 86) 0
abbrev gO:Stmt:=inClass (top 97) 0
abbrev fC:Stmt:=inClass (top 97) 1
abbrev gP:Stmt:=inClass (top 98) 0
abbrev iD:Stmt:=inClass (top 98) 1
abbrev fZ:Stmt:=inClass (top 99) 0
abbrev eU:Stmt:=inClass (top 100) 0
abbrev je:Stmt:=inClass (top 100) 1
abbrev oY:Stmt:=inClass (top 100) 2
abbrev j7:Stmt:=inClass (top 100) 3
abbrev lZ:Stmt:=inClass (top 100) 5
abbrev mj:Stmt:=inClass (top 100) 6
theorem Fz:FnScope ["self","item","behind"] ["self","item","behind"] (defScope dZ):=`T
theorem JR:FnScope ["self","tree","place"] ["self","tree","place"] (defScope fY):=`T
theorem K9:FnScope ["self","tree"] ["self","tree"] (defScope gO):=`T
theorem Gz:FnScope ["self"] ["self"] (defScope fC):=`T
theorem La:FnScope ["self","tree"] ["self","tree"] (defScope gP):=`T
theorem Ou:FnScope ["self","place"] ["self","place"] (defScope iD):=`T
theorem JT:FnScope ["self","text"] ["self","text"] (defScope fZ):=`T
theorem K_:FnScope ["self","stand","budget"] ["self","stand","budget"] (defScope eU):=`T
theorem Q9:FnScope ["self"] ["self"] (defScope je):=`T
theorem Zz:FnScope ["self"] ["self"] (defScope oY):=`T
theorem U8:FnScope ["self"] ["self"] (defScope j7):=`T
theorem mZ:FnScope ["self","going","word","step","taken"] ["self"] (defScope lZ):=`T
theorem Wq:FnScope ["self","step","going","word"] ["self","step","going","word"] (defScope mj):=`T
section
variable{P:Program}{w:World}{K:W.Frag}{mg:`Y}{base:Heap}{f:Addr}{fd:FuncData}{ao aA aB aG aJ aF:Addr}
theorem FN(O:`j)
  (F:Fun K "__init__" "Fronted.__init__" dZ f fd):FnOk P w K mg base CX0 31 f fd ["self","item","behind"] (V9 ao):=by
 refine okQ F Fz `S `Q
 ·obtain⟨o,dx,y,z,rfl,_⟩:=h
  rfl
 obtain⟨o,dx,y,z,rfl,ho,q⟩:=h
 refine⟨_,(au (cP (qv 0) (qv 1) rfl)
   (aq (cP (qv 0) (qv 2) rfl))),?_⟩
 refine⟨_,rfl,_,rfl,o,ao,dx,_,rfl,ho,O.rF.cl,O.fi,by show 0<1000;decide,?_⟩
 refine⟨_,rfl,_,rfl,o,ao,dx,_,rfl,upd_same,O.rF.cl,O.fb,by show 1<1000;decide,?_⟩
 have e:upd (upd H o (.ins ao dx (putF "item" y []))) o (.ins ao dx (putF "behind" z (putF "item" y [])))=upd H o (.ins ao dx (fF y z)):=by
  rw[jD,Oz `C]
  rfl
 exact e▸q
theorem JX(O:`j)
  (F:Fun K "__init__" "Later.__init__" fY f fd):FnOk P w K mg base CX0 31 f fd ["self","tree","place"] (V7 aA):=by
 refine okQ F JR `S `Q
 ·obtain⟨o,dx,v,p,rfl,_⟩:=h
  rfl
 obtain⟨o,dx,v,p,rfl,ho,q⟩:=h
 refine⟨_,(au (cP (qv 0) (qv 1) rfl)
   (aq (cP (qv 0) (qv 2) rfl))),?_⟩
 refine⟨_,rfl,_,rfl,o,aA,dx,_,rfl,ho,O.rL.cl,O.lt,by show 0<1000;decide,?_⟩
 refine⟨_,rfl,_,rfl,o,aA,dx,_,rfl,upd_same,O.rL.cl,O.lp,by show 1<1000;decide,?_⟩
 have e:upd (upd H o (.ins aA dx (putF "tree" v []))) o (.ins aA dx (putF "place" (.int (p:Int)) (putF "tree" v [])))=upd H o (.ins aA dx (fL v p)):=by
  rw[jD,Oz `C]
  rfl
 exact e▸q
theorem JZ(O:`j)
  (F:Fun K "__init__" "Going.__init__" fZ f fd):FnOk P w K mg base CX0 31 f fd ["self","text"] (K4 aJ):=by
 refine okQ F JT `S `Q
 ·obtain⟨o,dx,a,rfl,_⟩:=h
  rfl
 obtain⟨o,dx,a,rfl,ho,q⟩:=h
 refine⟨_,(au (cP (qv 0) (qv 1) rfl)
   (aq (cP (qv 0) aP rfl))),?_⟩
 refine⟨_,rfl,_,rfl,o,aJ,dx,_,rfl,ho,O.Ir,O.gt,by show 0<1000;decide,?_⟩
 refine⟨_,rfl,o,aJ,dx,_,rfl,upd_same,O.Ir,O.gp,by show 1<1000;decide,?_⟩
 have e:upd (upd H o (.ins aJ dx (putF "text" `I []))) o (.ins aJ dx (putF "place" `H (putF "text" `I [])))=upd H o (.ins aJ dx (fG a 0)):=by
  rw[jD,Oz `C]
  rfl
 exact e▸q
theorem LC(O:`j)
  (F:Fun K "__init__" "Text.__init__" gP f fd):FnOk P w K mg base CX0 31 f fd ["self","tree"] (K3 aG):=by
 refine okQ F La `S `Q
 ·obtain⟨o,dx,v,rfl,_⟩:=h
  rfl
 obtain⟨o,dx,v,rfl,ho,q⟩:=h
 refine⟨_,(au (cP (qv 0) (qv 1) rfl)
   (aq (cP (qv 0) (iM ak) rfl))),?_⟩
 refine⟨_,rfl,_,rfl,o,aG,dx,_,rfl,ho,O.cText,O.tt,by show 0<1000;decide,?_⟩
 refine⟨`W,fun W g=>⟨_,rfl,o,aG,dx,putF "tree" v [],rfl,?_,O.cText,O.tw,by show 1<1000;decide,?_⟩⟩
 ·have nW:o≠W:=ne_of_none (h:=upd_same) g
  rw[upd_ne nW,upd_same]
 ·have nW:o≠W:=ne_of_none (h:=upd_same) g
  have hW:H W=none:=by rw[upd_ne (Ne.symm nW)]at g;exact g
  have e:upd (upd (upd H o (.ins aG dx (putF "tree" v []))) W (.lst [])) o (.ins aG dx (putF "words" (.ref W) (putF "tree" v [])))=upd (upd H W (.lst [])) o (.ins aG dx (fT v W)):=by
   rw[amh nW (H:=H),jD,Oz `C]
   rfl
  exact e▸q W hW
theorem ZQ(O:`j)(aY:mg "isinstance"=none)
  {dO:Addr}{dN:FuncData}(pF:Fun K "first" "first" jd dO dN)(pD:FnOk P w K mg base CX0 31 dO dN ["tree"] (wK K))(o_:Binds K dN ["tree"] [])(o7:mg "first"=some (.ref dO))
  (dG:mg "Fronted"=some (.ref ao))
  (ji:mg "Later"=some (.ref aA))
  (F:Fun K "first_of" "first_of" lJ f fd):FnOk P w K mg base CX0 32 f fd ["row"] (Ue K ao aA aB aG):=by
 refine okQ F Zw `S `Q
 ·obtain⟨x,t,M,H₀,rfl,_⟩:=h
  rfl
 obtain⟨x,t,M,H₀,rfl,g,hx,hd,q⟩:=h
 refine⟨_,(au (bA (fU (cJ iW rfl aY cV (aj (qv 0) (aj (aM (v:=.ref ao) rfl dG rfl) ak)))) (aq (aQ `Z)) aX)
   (au (bA (fU (cJ iW rfl aY cV (aj (qv 0) (aj (aM (v:=.ref aA) rfl ji rfl) ak)))) (aq (aQ (cW gY `Z `Z (fun _ _=>rfl)))) aX)
   (aq (aQ (aH pD hr rfl o7 pF.kp o_ .nil pass0 (aj (qv 0) ak)))))),?_⟩
 rcases hx.cases g with hu|⟨a,dx,y,z,u,ts,rfl,ha,rfl,hy,hz⟩
 ·rcases hu with ht|⟨a,dx,v,ts,p,rfl,ha,hv,hp,hl,rfl⟩
  ·obtain⟨b,ys,rfl,hb,_⟩:=uJ ht
   refine⟨_,rfl,_,ao,false,rfl,.inr ⟨b,ys,rfl,hb,O.iTF⟩,_,rfl,iteF ?_⟩
   refine⟨_,rfl,_,aA,false,rfl,.inr ⟨b,ys,rfl,hb,O.iTL⟩,_,rfl,iteF ?_⟩
   exact⟨_,rfl,_,t,rfl,ht,hd,fun y H' S h=>q y H' S (.inl h)⟩
  ·refine⟨_,rfl,_,ao,false,rfl,.inl ⟨_,O.rL.ty ha,O.iLF⟩,_,rfl,iteF ?_⟩
   refine⟨_,rfl,_,aA,true,rfl,.inl ⟨_,O.rL.ty ha,O.iLL⟩,_,rfl,iteT ?_⟩
   obtain⟨b,ys,rfl,hb,hys⟩:=cB.mp hv
   obtain⟨w',ew⟩:∃w',ts[p]?=some w':=⟨_,List.getElem?_eq_getElem hp⟩
   obtain⟨x',ex,tx'⟩:=hys.at ew
   refine⟨_,rfl,a,aA,dx,_,_,rfl,ha,O.rL.cl,O.lt,dM _ _ _,_,rfl,a,aA,dx,_,_,rfl,ha,O.rL.cl,O.lp,(cG `C _ _).trans (dM _ _ _),b,ys,p,x',rfl,rfl,hb,atI_nat ex,q _ _ (Same.refl _) (.inl ?_)⟩
   have:ats (T.node (ts.drop p)).kids 0=w':=by
    show((ts.drop p)[0]?).getD leaf=w'
    rw[List.getElem?_drop,Nat.add_zero,ew]
    rfl
   rw[this]
   exact tx'
 ·refine⟨_,rfl,_,ao,true,rfl,.inl ⟨_,O.rF.ty ha,O.iFF⟩,_,rfl,iteT ?_⟩
  exact⟨_,rfl,a,ao,dx,_,_,rfl,ha,O.rF.cl,O.fi,dM _ _ _,q _ _ (Same.refl _) hy⟩
theorem ago(O:`j)(cY:mg "len"=none)
  (ji:mg "Later"=some (.ref aA))
  {gk:Addr}{yH:FuncData}(Ob:Mk K aA gk)(Od:FnOk P w K mg base CX0 31 gk yH ["self","tree","place"] (V7 aA))(qM:Binds K yH ["self","tree","place"] [])
  (F:Fun K "later" "later" tX f fd):FnOk P w K mg base CX0 33 f fd ["tree","place"] (aaY K ao aA aB aG):=by
 refine okQ F afR `S `Q
 ·obtain⟨x,ts,p,M,H₀,rfl,_⟩:=h
  rfl
 obtain⟨x,ts,p,M,H₀,rfl,g,ht,hl,q⟩:=h
 refine⟨_,(aq (aQ (nU (aU ahI (qv 1) (cJ call_len_seq rfl cY kO (aj (qv 0) ak)) `P) (jf Ob Od hr rfl ji qM .nil pass0 (aj (qv 0) (aj (qv 1) ak))) (bB ak)))),?_⟩
 obtain⟨b,ys,rfl,hb,hys⟩:=cB.mp ht
 have hyl:=hys.length
 refine⟨_,rfl,_,rfl,b,ys,rfl,.inr hb,_,_,rfl,rfl,_,rfl,ite2 (fun h=>?_) (fun h=>?_)⟩
 ·have hp:p<ts.length:=by have:=of_decide_eq_true h;lia
  refine⟨_,rfl,_,rfl,fun o dx ho hd ne=>⟨o,dx,_,p,rfl,gQ,?_⟩⟩
  have S:=iG (C:=aA) (fs:=fL (.ref b) p) ho hd ne
  have e:upd (mkO H o dx aA []) o (.ins aA dx (fL (.ref b) p))=mkO H o dx aA (fL (.ref b) p):=aev
  have fin:Q (.ref o) (mkO H o dx aA (fL (.ref b) p)):=q _ (setM M o (.row (.node (ts.drop p)))) _ S (.role g S ho ⟨_,gQ⟩ (.inr ⟨dx,_,ts,p,gQ,ht.mono (.of S),hp,hl,rfl⟩)) (.inr ⟨o,rfl,dD⟩)
  exact⟨rfl,e▸fin⟩
 ·have hp:ts.length<=p:=by
   have:¬((p:Int)<(ys.length:Int)):=fun z=>h (decide_eq_true z)
   lia
  refine⟨`W,fun p1 g1=>?_⟩
  obtain⟨S1,t1⟩:=dJ (K:=K) (ts:=[]) g1 (bH.mpr rfl)
  refine q _ M _ S1 (.grow g S1) (.inl ?_)
  rw[List.drop_eq_nil_of_le hp]
  exact t1
theorem acf(O:`j)(aY:mg "isinstance"=none)
  {Tv:Addr}{SN:FuncData}(abB:Fun K "later" "later" tX Tv SN)(abx:FnOk P w K mg base CX0 33 Tv SN ["tree","place"] (aaY K ao aA aB aG))(abu:Binds K SN ["tree","place"] [])(abh:mg "later"=some (.ref Tv))
  (dG:mg "Fronted"=some (.ref ao))
  (ji:mg "Later"=some (.ref aA))
  (F:Fun K "rest_of" "rest_of" nD f fd):FnOk P w K mg base CX0 34 f fd ["row"] (V1 K ao aA aB aG):=by
 refine okQ F abY `S `Q
 ·obtain⟨x,t,M,H₀,rfl,_⟩:=h
  rfl
 obtain⟨x,t,M,H₀,rfl,g,hx,hd,hk,q⟩:=h
 refine⟨_,(au (bA (fU (cJ iW rfl aY cV (aj (qv 0) (aj (aM (v:=.ref ao) rfl dG rfl) ak)))) (aq (aQ `Z)) aX)
   (au (bA (fU (cJ iW rfl aY cV (aj (qv 0) (aj (aM (v:=.ref aA) rfl ji rfl) ak)))) (aq (aQ (aH abx hr rfl abh abB.kp abu .nil pass0 (aj `Z (aj (aV op_add `Z aP) ak))))) aX)
   (aq (aQ (aH abx hr rfl abh abB.kp abu .nil pass0 (aj (qv 0) (aj aP ak))))))),?_⟩
 rcases hx.cases g with hu|⟨a,dx,y,z,u,ts,rfl,ha,rfl,hy,hz⟩
 ·rcases hu with ht|⟨a,dx,v,ts,p,rfl,ha,hv,hp,hl,rfl⟩
  ·obtain⟨b,ys,rfl,hb,_⟩:=uJ ht
   refine⟨_,rfl,_,ao,false,rfl,.inr ⟨b,ys,rfl,hb,O.iTF⟩,_,rfl,iteF ?_⟩
   refine⟨_,rfl,_,aA,false,rfl,.inr ⟨b,ys,rfl,hb,O.iTL⟩,_,rfl,iteF ?_⟩
   exact⟨_,rfl,_,t.kids,1,M,H₀,rfl,g,mJ ht,hk,fun y M' H' S G h=>q y M' H' S G h⟩
  ·refine⟨_,rfl,_,ao,false,rfl,.inl ⟨_,O.rL.ty ha,O.iLF⟩,_,rfl,iteF ?_⟩
   refine⟨_,rfl,_,aA,true,rfl,.inl ⟨_,O.rL.ty ha,O.iLL⟩,_,rfl,iteT ?_⟩
   refine⟨_,rfl,a,aA,dx,_,_,rfl,ha,O.rL.cl,O.lt,dM _ _ _,_,rfl,a,aA,dx,_,_,rfl,ha,O.rL.cl,O.lp,(cG `C _ _).trans (dM _ _ _),_,_,rfl,rfl,v,ts,p+1,M,H₀,rfl,g,hv,hl,fun y M' H' S G h=>q y M' H' S G ?_⟩
   have:aL (T.node (ts.drop p))=.node (ts.drop (p+1)):=by
    show T.node ((ts.drop p).drop 1)=_
    rw[List.drop_drop]
   rw[this]
   exact h
 ·refine⟨_,rfl,_,ao,true,rfl,.inl ⟨_,O.rF.ty ha,O.iFF⟩,_,rfl,iteT ?_⟩
  exact⟨_,rfl,a,ao,dx,_,_,rfl,ha,O.rF.cl,O.fb,(cG `C _ _).trans (dM _ _ _),q _ M _ (Same.refl _) (.refl g) hz⟩
theorem W6(O:`j)(aY:mg "isinstance"=none)
  (ji:mg "Later"=some (.ref aA))
  (F:Fun K "unfronted" "unfronted" iy f fd):FnOk P w K mg base CX0 31 f fd ["row"] (VP K aA):=by
 refine okQ F Wh `S `Q
 ·obtain⟨x,t,rfl,_⟩:=h
  rfl
 obtain⟨x,t,rfl,hu,q⟩:=h
 refine⟨_,(au (bA (fU (cJ iW rfl aY cV (aj (qv 0) (aj (aM (v:=.ref aA) rfl ji rfl) ak)))) (aq (aQ (lM Bx `Z (j9 `Z) uc))) aX)
   (aq (aQ (qv 0)))),?_⟩
 rcases hu with ht|⟨a,dx,v,ts,p,rfl,ha,hv,hp,hl,rfl⟩
 ·obtain⟨b,ys,rfl,hb,_⟩:=uJ ht
  refine⟨_,rfl,_,aA,false,rfl,.inr ⟨b,ys,rfl,hb,O.iTL⟩,_,rfl,iteF ?_⟩
  exact⟨_,rfl,q _ _ (Same.refl _) ht⟩
 ·refine⟨_,rfl,_,aA,true,rfl,.inl ⟨_,O.rL.ty ha,O.iLL⟩,_,rfl,iteT ?_⟩
  obtain⟨b,ys,rfl,hb,hys⟩:=cB.mp hv
  refine⟨_,rfl,a,aA,dx,_,_,rfl,ha,O.rL.cl,O.lt,dM _ _ _,_,rfl,a,aA,dx,_,_,rfl,ha,O.rL.cl,O.lp,(cG `C _ _).trans (dM _ _ _),(p:Int),rfl,b,ys,rfl,hb,fun p1 H1 S1 h1=>q _ _ S1 (tQ h1 ?_)⟩
  rw[Yu]
  exact(hys.drop p).mono (.of S1)
theorem Ph(O:`j)(aY:mg "isinstance"=none)
  {jV:Addr}{jQ:FuncData}(Bs:Fun K "unfronted" "unfronted" iy jV jQ)(Bp:FnOk P w K mg base CX0 31 jV jQ ["row"] (VP K aA))(Aw:Binds K jQ ["row"] [])(zT:mg "unfronted"=some (.ref jV))
  (dG:mg "Fronted"=some (.ref ao))
  (F:Fun K "parts_within" "parts_within" fX f fd):FnOk P w K mg base CX0 32 f fd ["row","most"] (V3 K ao aA aB aG):=by
 refine okQ F jq `S `Q
 ·obtain⟨x,t,M,H₀,m,rfl,_⟩:=h
  rfl
 obtain⟨x,t,M,H₀,m,rfl,g,hx,hz,q⟩:=h
 refine⟨_,(au (aZ (i:=2) jq.nd rfl `O (iM (aj (qv 0) ak)))
   (au (aZ (i:=3) jq.nd rfl `O aP)
   (au (tZ PassesOwn.never (QW.pt (Ov (xX (qv 2) (fun _=>rfl)) (Jv (aU al4 (qv 3) (qv 1) `P)))) (au (aZ (i:=4) jq.nd rfl `O (j_ PySem.F.plainAttrs_list PySem.F.slot_list_pop PySem.F.type_list_pop jx (qv 2)))
   (aq (bA (fU (cJ iW rfl aY cV (aj (qv 4) (aj (aM (v:=.ref ao) rfl dG rfl) ak)))) (au (bY (cN PySem.F.plainAttrs_list PySem.F.slot_list_append PySem.F.type_list_append bW (qv 2) (aj (aW (qv 4) rfl) ak)))
   (aq (bY (cN PySem.F.plainAttrs_list PySem.F.slot_list_append PySem.F.type_list_append bW (qv 2) (aj (aW (qv 4) rfl) ak))))) (au (ad6 (i:=3) jq.nd rfl `O aP Hv)
   (aq (bY (cN PySem.F.plainAttrs_list PySem.F.slot_list_extend PySem.F.type_list_extend abg (qv 2) (aj (aH Bp hr rfl zT Bs.kp Aw .nil pass0 (aj (qv 4) ak)) ak)))))))))
   (aq (aQ (qv 3)))))),?_⟩
 refine⟨_,rfl,`e,fun p hp=>?_⟩
 refine⟨WPW K M H x m t.parts p,⟨_,[x],[t],0,none,rfl,same_new hp _,upd_same,aO.one (hx.mono (Kt.new hp) fun _ _ z=>z),by rw[T.aK,T.cg];lia,rfl⟩,?_⟩
 rintro μ σ H'⟨ys,ts,c,o,rfl,S,hl,ha,hc,rfl⟩
 refine⟨_,rfl,!ys.isEmpty,.inl ⟨ys,SqL.of hl,rfl⟩,ite2 (fun hb=>?_) (fun hb=>?_)⟩
 ·refine⟨_,rfl,_,rfl,_,_,rfl,rfl,_,rfl,ite2 (fun hle=>?_) (fun hle=>?_)⟩
  ·have hne:ys≠[]:=by rintro rfl;exact absurd hb `B
   obtain⟨u,ts0,y,rfl,hy,ha0,hu⟩:=ae1 ha hne
   have hyl:=ha0.length
   rw[List.length_reverse]at hyl
   have hpp:=T.aK u ts0
   have hlp:=T.cM ts0
   have hup:=T.fO u
   refine⟨fun σ' H'=>∃m',m'<2*T.aN (u::ts0)-(u::ts0).length/\WPW K M H x m t.parts p m' σ' H',fun _ _ h=>h,?_⟩
   refine⟨_,rfl,.inl ⟨rfl,_,SqL.of hl⟩,p,ys,y,rfl,rfl,hl,hy,?_⟩
   have k1:=Ki.lst (o:=.lst ys.dropLast) hl
   have g1:=g.grow S
   rcases hu.cases g1 with hu|⟨a,dx,y1,z1,u1,ts1,rfl,ha1,rfl,hy1,hz1⟩
   ·have hu1:=hu.mono k1
    refine⟨_,rfl,y,ao,false,rfl,hu1.akl O,_,rfl,iteF ?_⟩
    refine⟨_,rfl,_,_,rfl,rfl,?_⟩
    refine⟨_,rfl,.inl ⟨rfl,_,SqL.of upd_same⟩,_,rfl,y,u,rfl,hu1,fun y2 H2 S2 t2=>?_⟩
    obtain⟨b2,zs2,rfl,hb2,hz2⟩:=uJ t2
    have hzl:=hz2.length
    have hk:=T.eY u
    have hlk:=T.cM u.kids
    have h2:=S2 _ _ (upd_same (H:=H') (a:=p) (o:=.lst ys.dropLast))
    refine⟨p,b2,ys.dropLast,zs2,rfl,rfl,h2,hb2,xO `A,?_⟩
    refine⟨_,?_,ys.dropLast++zs2,u.kids.reverse++ts0,c+1,_,rfl,?_,upd_same,?_,?_,rfl⟩
    ·rw[T.bZ,Ds,List.length_append,List.length_reverse,hpp]
     show _<2*_-(ts0.length+1)
     lia
    ·exact bN ((bN S hp).trans S2) hp
    ·rw[List.reverse_append,List.reverse_reverse]
     exact aO.append (fH (k1.kt.trans ((Kt.of S2).trans (Kt.lst h2))) ha0) (fH (Kt.lst h2) (QF hz2))
    ·rw[T.bZ,Ds]
     lia
   ·refine⟨_,rfl,_,ao,true,rfl,.inl ⟨_,O.rF.ty (k1.ins _ _ _ _ ha1),O.iFF⟩,_,rfl,iteT ?_⟩
    refine⟨_,rfl,.inl ⟨rfl,_,SqL.of upd_same⟩,_,rfl,a,ao,dx,_,_,rfl,k1.ins _ _ _ _ ha1,O.rF.cl,O.fi,dM _ _ _,p,_,_,rfl,rfl,upd_same,dY `A,?_⟩
    rw[jD]
    have k2:=Ki.lst (o:=.lst (ys.dropLast++[y1])) hl
    refine⟨_,rfl,.inl ⟨rfl,_,SqL.of upd_same⟩,_,rfl,a,ao,dx,_,_,rfl,k2.ins _ _ _ _ ha1,O.rF.cl,O.fb,(cG `C _ _).trans (dM _ _ _),p,_,_,rfl,rfl,upd_same,dY (by rw[List.length_append,List.length_singleton];lia),?_⟩
    rw[jD]
    have k3:=Ki.lst (o:=.lst (ys.dropLast++[y1]++[z1])) hl
    have e1:=T.aR (u1::ts1)
    have e2:=T.aK u1 ts1
    have e3:=T.aR ts1
    refine⟨_,?_,ys.dropLast++[y1]++[z1],.node ts1::u1::ts0,c,_,rfl,bN S hp,upd_same,?_,?_,rfl⟩
    ·rw[T.aK,T.aK,hpp]
     show _-(ts0.length+1+1)<_-(ts0.length+1)
     lia
    ·rw[List.reverse_cons,List.reverse_cons]
     exact aO.append (aO.append (fH k3.kt ha0) (aO.one (hy1.mono k3.kt fun _ _ z=>z))) (aO.one (hz1.mono k3.kt fun _ _ z=>z))
    ·rw[T.aK,T.aK]
     lia
  ·have hle':m<c:=by
    have:¬((c:Int)<=(m:Int)):=fun z=>hle (decide_eq_true z)
    lia
   exact⟨_,rfl,q c _ S (fun z=>`A) (fun _=>hle')⟩
 ·have hys:ys=[]:=by
   cases ys with
   |nil=>rfl
   |cons _ _=>exact absurd rfl hb
  subst hys
  have hts:=all_nil ha
  subst hts
  rw[T.cg]at hc
  exact iteF ⟨_,rfl,q c _ S (fun _=>`A) (fun _=>`A)⟩
theorem acn(O:`j)(aY:mg "isinstance"=none)(cA:mg "tuple"=none)
  {jV:Addr}{jQ:FuncData}(Bs:Fun K "unfronted" "unfronted" iy jV jQ)(Bp:FnOk P w K mg base CX0 31 jV jQ ["row"] (VP K aA))(Aw:Binds K jQ ["row"] [])(zT:mg "unfronted"=some (.ref jV))
  (dG:mg "Fronted"=some (.ref ao))
  (F:Fun K "as_tree" "as_tree" nQ f fd):FnOk P w K mg base CX0 32 f fd ["row"] (Wa K ao aA aB aG):=by
 refine okQ F rO `S `Q
 ·obtain⟨x,t,M,H₀,rfl,_⟩:=h
  rfl
 obtain⟨x,t,M,H₀,rfl,g,hx,hz,q⟩:=h
 refine⟨_,(au (aZ (i:=1) rO.nd rfl `O (iM (aj (qv 0) ak)))
   (au (aZ (i:=2) rO.nd rfl `O (iM (aj (iM ak) ak)))
   (aq (tZ PassesOwn.never (fU Ox) (au (aZ (i:=3) rO.nd rfl `O (cW ix_list (qv 1) (ql j4 aP) (fun _ _=>rfl)))
   (au (bA (fU (cJ iW rfl aY cV (aj (qv 3) (aj (aM (v:=.ref ao) rfl dG rfl) ak)))) (au (ajQ (aW (qv 3) rfl) (ajS (qv 1) (ql j4 aP) set_list))
   (au (bY (cN PySem.F.plainAttrs_list PySem.F.slot_list_append PySem.F.type_list_append bW (qv 1) (aj (aW (qv 3) rfl) ak)))
   (au (bY (cN PySem.F.plainAttrs_list PySem.F.slot_list_append PySem.F.type_list_append bW (qv 2) (aj (iM ak) ak)))
   (aq ZC)))) aX)
   (au (bY (j_ PySem.F.plainAttrs_list PySem.F.slot_list_pop PySem.F.type_list_pop jx (qv 1)))
   (au (aZ (i:=4) rO.nd rfl `O (aV bO (lu dW rfl cA jU (aj (j_ PySem.F.plainAttrs_list PySem.F.slot_list_pop PySem.F.type_list_pop jx (qv 2)) ak)) (aH Bp hr rfl zT Bs.kp Aw .nil pass0 (aj (qv 3) ak))))
   (au (bA (Wx (xX (qv 1) (fun _=>rfl))) (aq (aQ (qv 4))) aX)
   (aq (bY (cN PySem.F.plainAttrs_list PySem.F.slot_list_append PySem.F.type_list_append bW (cW ix_list (qv 2) (ql j4 aP) (fun _ _=>rfl)) (aj (qv 4) ak))))))))))))),?_⟩
 refine⟨_,rfl,`e,fun pa ga=>?_⟩
 refine⟨`W,fun pq gq=>⟨`e,fun pt gt=>?_⟩⟩
 have Sa:=same_new ga (.lst [x])
 have Sq:=same_new gq (.lst [])
 have St:=same_new gt (.lst [V.ref pq])
 have n1:pa≠pq:=ne_of_none (h:=upd_same) gq
 have hpa:upd (upd H pa (.lst [x])) pq (.lst []) pa=some (.lst [x]):=by rw[upd_ne n1,upd_same]
 have n2:pa≠pt:=ne_of_none hpa gt
 have n3:pq≠pt:=ne_of_none (h:=upd_same) gt
 have a0:AsT K H (upd (upd (upd H pa (.lst [x])) pq (.lst [])) pt (.lst [V.ref pq])) pt pa [V.ref pq] [[]] [x]:=by
  have hq0:H pq=none:=Sa.free gq
  have ht0:H pt=none:=(Sa.trans Sq).free gt
  refine⟨⟨ht0,(Sa.trans Sq).trans St,upd_same,aO.one ⟨pq,[],rfl,hq0,by rw[upd_ne n3,upd_same],bH.mpr rfl⟩,?_⟩,ga,by rw[upd_ne n2];exact hpa,?_⟩
  ·simp[Ne.symm n3]
  ·simp[n1,n2]
 have S0:=(Sa.trans Sq).trans St
 generalize upd (upd (upd H pa (.lst [x])) pq (.lst [])) pt (.lst [V.ref pq])=Hs at a0 S0
 refine⟨fun μ σ H'=>∃(ys zs:`E)(st:List `D)(as:`D)(o3 o4:Option V),σ=[some x,some (.ref pa),some (.ref pt),o3,o4]/\AsT K H H' pt pa ys st zs/\aO (RV K M H') as.reverse zs/\as≠[]/\st.length=as.length/\CP st as=t/\T.aN as+(st.map List.length).sum<=t.parts/\μ=2*T.aN as-as.length,⟨_,[.ref pq],[x],[[]],[t],none,none,rfl,a0,aO.one (hx.mono (.of S0) fun _ _ z=>z),`G,rfl,by show T.node ([]++t.kids)=t;cases t;rfl,by rw[T.aK,T.cg];show _+0<=_;lia,rfl⟩,?_⟩
 rintro μ σ H1⟨ys,zs,st,as,o3,o4,rfl,A1,ha,hne,hlen,hval,hsum,rfl⟩
 refine⟨_,rfl,iteT ?_⟩
 have aqm:zs≠[]:=by
  rintro rfl
  exact hne (all_nil ha)
 obtain⟨u,as0,zs0,y,rfl,rfl,ha0,hu⟩:=lQ ha aqm
 have hzl:=ha0.length
 rw[List.length_reverse]at hzl
 have hpp:=T.aK u as0
 have hlp:=T.cM as0
 have hup:=T.fO u
 have g1:=g.grow A1.rows.same
 refine⟨fun σ' H'=>∃m',m'<2*T.aN (u::as0)-(u::as0).length/\∃(ys zs:`E)(st:List `D)(as:`D)(o3 o4:Option V),σ'=[some x,some (.ref pa),some (.ref pt),o3,o4]/\AsT K H H' pt pa ys st zs/\aO (RV K M H') as.reverse zs/\as≠[]/\st.length=as.length/\CP st as=t/\T.aN as+(st.map List.length).sum<=t.parts/\m'=2*T.aN as-as.length,fun _ _ h=>h,?_⟩
 refine⟨_,rfl,1,rfl,pa,_,_,_,rfl,rfl,SqL.of A1.at_,kY,?_⟩
 rcases hu.cases g1 with hu|⟨a,dx,y1,z1,u1,ts1,rfl,ha1,rfl,hy1,hz1⟩
 ·refine⟨_,rfl,y,ao,false,rfl,hu.akl O,_,rfl,iteF ?_⟩
  have hk:=T.eY u
  refine⟨_,rfl,.inl ⟨rfl,_,SqL.of A1.at_⟩,pa,_,_,rfl,rfl,A1.at_,lA _ _,?_⟩
  rw[lB]
  have k1:=Ki.lst (o:=.lst zs0) A1.at_
  have A2:AsT K H (upd H1 pa (.lst zs0)) pt pa ys st zs0:=A1.place
  generalize upd H1 pa (.lst zs0)=H2 at k1 A2
  have hu2:=hu.mono k1
  have ha2:=fH k1.kt ha0
  obtain⟨l,st0,rfl⟩:∃l st0,st=l::st0:=by
   cases st with
   |nil=>exact absurd hlen `G
   |cons l st0=>exact⟨l,st0,rfl⟩
  obtain⟨ys0,b,xs,rfl,nRb,hb,hxs,A3⟩:=A2.shut
  refine⟨_,rfl,.inl ⟨rfl,_,SqL.of A2.rows.at_⟩,pt,_,_,rfl,rfl,A2.rows.at_,lA _ _,?_⟩
  rw[lB]
  have k3:=Ki.lst (o:=.lst ys0) A2.rows.at_
  have hb3:upd H2 pt (.lst ys0) b=some (.lst xs):=by rw[upd_ne (Ne.symm nRb)];exact hb
  have akD:=hxs.mono k3.kt
  generalize upd H2 pt (.lst ys0)=H3 at k3 A3 hb3 akD
  refine⟨b,xs,rfl,.inl ⟨SqL.of hb3,fun p4 g4=>?_⟩⟩
  obtain⟨S4,t4⟩:=dJ (K:=K) g4 akD
  have hu4:=(hu2.mono k3).mono (Ki.of S4)
  have hsl:(List.map List.length (l::st0)).sum=l.length+(List.map List.length st0).sum:=rfl
  refine⟨_,rfl,y,u,rfl,hu4,fun y5 H5 S5 t5=>?_⟩
  have t5':TR K H5 (.node u.kids) y5:=mJ t5
  have hlk:=T.cM u.kids
  refine cU (t4.mono (.of S5)) t5' (xO `A) (fun z6 H6 S6 t6=>?_)
  have S36:=S4.trans (S5.trans S6)
  have A6:=A3.grow S36
  refine⟨_,rfl,!zs0.isEmpty,.inl ⟨zs0,SqL.of A6.at_,rfl⟩,ite2 (fun he=>?_) (fun he=>?_)⟩
  ·have hz0:zs0=[]:=by
    cases zs0 with
    |nil=>rfl
    |cons _ _=>exact absurd he `G
   subst hz0
   have:=all_nil ha0
   subst this
   have hs0:st0=[]:=by
    have:st0.length+1=0+1:=hlen
    exact List.length_eq_zero_iff.mp `A
   subst hs0
   refine⟨_,rfl,q _ _ A6.rows.same ?_⟩
   rw[<-hval]
   exact t6
  ·have hz0:zs0≠[]:=by rintro rfl;exact he rfl
   have agS:as0≠[]:=by
    rintro rfl
    cases ha0
    exact hz0 rfl
   obtain⟨l',st1,rfl⟩:∃l' st1,st0=l'::st1:=by
    cases st0 with
    |nil=>
     have h1:0+1=as0.length+1:=hlen
     exact absurd (List.length_eq_zero_iff.mp `A) agS
    |cons l' st1=>exact⟨l',st1,rfl⟩
   obtain⟨ys1,c,ws,rfl,hc,hwl,A7⟩:=A6.add t6
   have asY:(List.map List.length (l'::st1)).sum=l'.length+(List.map List.length st1).sum:=rfl
   refine⟨_,rfl,1,rfl,pt,_,_,_,rfl,rfl,SqL.of A6.rows.at_,kY,.inl ⟨rfl,_,SqL.of hc⟩,_,rfl,c,_,_,rfl,rfl,hc,dY `A,?_⟩
   refine⟨_,?_,_,zs0,_,as0,_,_,rfl,A7,?_,agS,?_,?_,?_,rfl⟩
   ·rw[hpp]
    show _<_-(as0.length+1)
    lia
   ·exact fH (k3.kt.trans ((Kt.of S36).trans (Kt.lst hc))) ha2
   ·have h1:st1.length+1+1=as0.length+1:=hlen
    show st1.length+1=as0.length
    lia
   ·rw[<-hval]
    cases as0 with
    |nil=>exact absurd rfl agS
    |cons _ _=>rw[CP]
   ·show _+((l'++[_]).length+(List.map List.length st1).sum)<=_
    rw[List.length_append,List.length_singleton]
    lia
 ·have e1:=T.aR (u1::ts1)
  have e2:=T.aK u1 ts1
  have e3:=T.aR ts1
  refine⟨_,rfl,_,ao,true,rfl,.inl ⟨_,O.rF.ty ha1,O.iFF⟩,_,rfl,iteT ?_⟩
  refine⟨_,rfl,a,ao,dx,_,_,rfl,ha1,O.rF.cl,O.fb,(cG `C _ _).trans (dM _ _ _),_,rfl,1,rfl,pa,_,-1,_,rfl,rfl,A1.at_,aiZ _ _,?_⟩
  rw[afM]
  have k1:=Ki.lst (o:=.lst (zs0++[z1])) A1.at_
  have A2:AsT K H (upd H1 pa (.lst (zs0++[z1]))) pt pa ys st (zs0++[z1]):=A1.place
  generalize upd H1 pa (.lst (zs0++[z1]))=H2 at k1 A2
  refine⟨_,rfl,.inl ⟨rfl,_,SqL.of A2.at_⟩,_,rfl,a,ao,dx,_,_,rfl,k1.ins _ _ _ _ ha1,O.rF.cl,O.fi,dM _ _ _,pa,_,_,rfl,rfl,A2.at_,dY (by rw[List.length_append,List.length_singleton];lia),?_⟩
  have k2:=Ki.lst (o:=.lst (zs0++[z1]++[y1])) A2.at_
  have A3:AsT K H (upd H2 pa (.lst (zs0++[z1]++[y1]))) pt pa ys st (zs0++[z1]++[y1]):=A2.place
  generalize upd H2 pa (.lst (zs0++[z1]++[y1]))=H3 at k2 A3
  refine⟨_,rfl,.inl ⟨rfl,_,SqL.of A3.rows.at_⟩,`W,fun pn gn=>⟨pt,_,_,rfl,rfl,same_new gn _ _ _ A3.rows.at_,?_,?_⟩⟩
  ·have hyl:=A3.rows.rows.length
   rw[List.length_reverse]at hyl
   exact dY (by
    have h1:st.length=as0.length+1:=hlen
    lia)
  ·have A4:=A3.enter gn
   have k4:Kt H3 (upd (upd H3 pn (.lst [])) pt (.lst (ys++[.ref pn]))):=(Kt.new gn).trans (Kt.lst (same_new gn _ _ _ A3.rows.at_))
   have k:=k1.kt.trans (k2.kt.trans k4)
   obtain⟨l,st0,rfl⟩:∃l st0,st=l::st0:=by
    cases st with
    |nil=>exact absurd hlen `G
    |cons l st0=>exact⟨l,st0,rfl⟩
   refine⟨_,?_,_,_,_,u1::.node ts1::as0,_,_,rfl,A4,?_,`G,?_,?_,?_,rfl⟩
   ·rw[T.aK,T.aK,hpp]
    show _-(as0.length+1+1)<_-(as0.length+1)
    lia
   ·rw[List.reverse_cons,List.reverse_cons]
    exact aO.append (aO.append (fH k ha0) (aO.one (hz1.mono k fun _ _ z=>z))) (aO.one (hy1.mono k fun _ _ z=>z))
   ·have h1:(l::st0).length=as0.length+1:=hlen
    show(l::st0).length+1=as0.length+1+1
    rw[h1]
   ·rw[afu]
    exact hval
   ·have e9:(List.map List.length ([]::l::st0)).sum=(List.map List.length (l::st0)).sum:=`G
    rw[T.aK,T.aK,e9]
    lia
end
section
variable{P:Program}{w:World}{K:W.Frag}{mg:`Y}{base:Heap}{f:Addr}{fd:FuncData}{ao aA aB aG aJ aF:Addr}
theorem ZM(O:`j){dj:Value}(dH:mg "FORK"=some dj)(cT:RelV (.int 7) dj){lg:Value}(q_:mg "FORK_NO"=some lg)(lq:RelV (.int 8) lg){jm:Value}(o8:mg "FORK_YES"=some jm)(jw:RelV (.int 7) jm){cF:Value}(cI:mg "WHILE"=some cF)(cu:RelV (.int 8) cF){mU:Value}(yt:mg "WHILE_PAST"=some mU)(nT:RelV (.int 10) mU){gA:Value}(kj:mg "WHILE_INTO"=some gA)(gC:RelV (.int 9) gA){eN:Value}(g_:mg "NAMELESS"=some eN)(eV:RelV (.int 9) eN){uV:Value}(Hr:mg "NO_WORD"=some uV)(vd:RelV (.int 11) uV)
  (F:Fun K "place_of" "place_of" jt f fd):FnOk P w K mg base CX0 31 f fd ["sort","top"] (aaW K ao aA aB aG):=by
 refine okQ F Zu `S `Q
 ·obtain⟨k,x,t,M,H₀,rfl,_⟩:=h
  rfl
 obtain⟨k,x,t,M,H₀,rfl,g,hx,hd,q⟩:=h
 have hE:=hr.un
 have hE:(A.deeper (envOfC "place_of" (defScope jt) s.heap.objs.size f cdv)).units+401<cLine:=`A
 refine⟨_,(au (bA (aU op_eq (qv 0) (aM (v:=.int 7) rfl dH cT) `P) (aq (aQ (nU (aU (W3 hE) (qv 1) (bB ak) `P) (aM (v:=.int 8) rfl q_ lq) (aM (v:=.int 7) rfl o8 jw)))) aX)
   (au (bA (aU op_eq (qv 0) (aM (v:=.int 8) rfl cI cu) `P) (aq (aQ (nU (aU (W3 hE) (qv 1) (bB ak) `P) (aM (v:=.int 10) rfl yt nT) (aM (v:=.int 9) rfl kj gC)))) aX)
   (aq (aQ (nU (aU op_eq (qv 0) (aM (v:=.int 9) rfl g_ eV) `P) (aM (v:=.int 11) rfl Hr vd) (qv 0)))))),?_⟩
 refine⟨_,rfl,rfl,_,rfl,ite2 (fun h7=>?_) (fun h7=>?_)⟩
 ·have h7:k=7:=by have:=V.int.inj (of_decide_eq_true h7);lia
  refine⟨_,rfl,`W,fun p gp=>abl O g hx `A gp ⟨_,rfl,ite2 (fun he=>?_) (fun he=>?_)⟩⟩
  ·have:=q _ (same_new gp (.tup []))
   rw[rT,if_pos h7,if_pos (of_decide_eq_true he)]at this
   exact this
  ·have:=q _ (same_new gp (.tup []))
   rw[rT,if_pos h7,if_neg (fun z=>he (decide_eq_true z))]at this
   exact this
 have h7:¬k=7:=fun z=>h7 (decide_eq_true (by rw[z];rfl))
 refine⟨_,rfl,rfl,_,rfl,ite2 (fun h8=>?_) (fun h8=>?_)⟩
 ·have h8:k=8:=by have:=V.int.inj (of_decide_eq_true h8);lia
  refine⟨_,rfl,`W,fun p gp=>abl O g hx `A gp ⟨_,rfl,ite2 (fun he=>?_) (fun he=>?_)⟩⟩
  ·have:=q _ (same_new gp (.tup []))
   rw[rT,if_neg h7,if_pos h8,if_pos (of_decide_eq_true he)]at this
   exact this
  ·have:=q _ (same_new gp (.tup []))
   rw[rT,if_neg h7,if_pos h8,if_neg (fun z=>he (decide_eq_true z))]at this
   exact this
 have h8:¬k=8:=fun z=>h8 (decide_eq_true (by rw[z];rfl))
 refine⟨_,rfl,rfl,_,rfl,ite2 (fun h9=>?_) (fun h9=>?_)⟩
 ·have h9:k=9:=by have:=V.int.inj (of_decide_eq_true h9);lia
  have:=q _ (Same.refl H)
  rw[rT,if_neg h7,if_neg h8,if_pos h9]at this
  exact this
 ·have h9:¬k=9:=fun z=>h9 (decide_eq_true (by rw[z];rfl))
  have:=q _ (Same.refl H)
  rw[rT,if_neg h7,if_neg h8,if_neg h9]at this
  exact⟨_,rfl,this⟩
theorem Ly(O:`j){dj:Value}(dH:mg "FORK"=some dj)(cT:RelV (.int 7) dj){cF:Value}(cI:mg "WHILE"=some cF)(cu:RelV (.int 8) cF)
  {gJ:Addr}{gG:FuncData}(vH:Fun K "sort_of" "sort_of" jr gJ gG)(vG:FnOk P w K mg base CX0 33 gJ gG ["word"] (Jr K))(vC:Binds K gG ["word"] [])(vm:mg "sort_of"=some (.ref gJ))
  {gK:Addr}{gH:FuncData}(rH:Fun K "load_of" "load_of" ju gK gH)(rG:FnOk P w K mg base CX0 33 gK gH ["word"] (uY K))(rD:Binds K gH ["word"] [])(qY:mg "load_of"=some (.ref gK))
  {dO:Addr}{dN:FuncData}(pF:Fun K "first" "first" jd dO dN)(pD:FnOk P w K mg base CX0 33 dO dN ["tree"] (wK K))(o_:Binds K dN ["tree"] [])(o7:mg "first"=some (.ref dO))
  {oM:Addr}{oF:FuncData}(Jk:Fun K "rest" "rest" rP oM oF)(Ji:FnOk P w K mg base CX0 33 oM oF ["tree"] (uY K))(Iu:Binds K oF ["tree"] [])(Ho:mg "rest"=some (.ref oM))
  (vo:mg "Text"=some (.ref aG))
  {cZ:Addr}{jB:FuncData}(rE:Mk K aG cZ)(jC:FnOk P w K mg base CX0 32 cZ jB ["self","tree"] (K3 aG))(dU:Binds K jB ["self","tree"] [])
  (F:Fun K "__init__" "Word.__init__" gO f fd):FnOk P w K mg base CX0 34 f fd ["self","tree"] (VN K ao aA aB aG):=by
 refine okQ F K9 `S `Q
 ·obtain⟨o,dx,x,w',M,H₀,rfl,_⟩:=h
  rfl
 obtain⟨o,dx,x,w',M,H₀,rfl,g,hm,ho,hx,hd,q⟩:=h
 refine⟨_,(au (cP (qv 0) (aH vG hr rfl vm vH.kp vC .nil pass0 (aj (qv 1) ak)) rfl)
   (au (cP (qv 0) (aH rG hr rfl qY rH.kp rD .nil pass0 (aj (qv 1) ak)) rfl)
   (au (cP (qv 0) xZ rfl)
   (au (cP (qv 0) xZ rfl)
   (au (cP (qv 0) xZ rfl)
   (au (cP (qv 0) xZ rfl)
   (au (bA (aU op_eq `Z (aM (v:=.int 7) rfl dH cT) `P) (au (cP (qv 0) (jf rE jC hr rfl vo dU .nil pass0 (aj (aH pD hr rfl o7 pF.kp o_ .nil pass0 (aj `Z ak)) ak)) rfl)
   (aq (cP (qv 0) (jf rE jC hr rfl vo dU .nil pass0 (aj (aH Ji hr rfl Ho Jk.kp Iu .nil pass0 (aj `Z ak)) ak)) rfl))) aX)
   (aq (bA (aU op_eq `Z (aM (v:=.int 8) rfl cI cu) `P) (aq (cP (qv 0) (jf rE jC hr rfl vo dU .nil pass0 (aj `Z ak)) rfl)) aX))))))))),?_⟩
 refine⟨_,rfl,x,w',rfl,hx,hd,fun H1 S1=>⟨_,rfl,o,aB,dx,[],rfl,S1 _ _ ho,O.eF,O.wk,by show 0<1000;decide,?_⟩⟩
 rw[pd1]
 have kt{u:HO}{Ha:Hp}{fs:`c}(h:Ha o=some (.ins aB dx fs)):Kt Ha (upd Ha o u):=Kt.ins h
 have G1:Go K ao aA aB aG (fun a=>a=o) M M H₀ H (upd H1 o (.ins aB dx (d1 (.int (aD w':Nat))))):=Go.n8 (.grow g S1) hm rfl (kt (S1 _ _ ho))
 have O1:∀c u,H c=some u->c≠o->upd H1 o (.ins aB dx (d1 (.int (aD w':Nat)))) c=some u:=fun c u h n=>by rw[upd_ne n];exact S1 _ _ h
 have h1:upd H1 o (.ins aB dx (d1 (.int (aD w':Nat)))) o=some (.ins aB dx (d1 (.int (aD w':Nat)))):=upd_same
 generalize upd H1 o (.ins aB dx (d1 (.int (aD w':Nat))))=H2 at G1 O1 h1
 refine⟨_,rfl,x,w',rfl,hx.mono G1.kt,fun v H3 S3 tv=>⟨_,rfl,o,aB,dx,_,rfl,S3 _ _ h1,O.eF,O.wl,by show 1<1000;decide,?_⟩⟩
 rw[pd2]
 have G3:Go K ao aA aB aG (fun a=>a=o) M M H₀ H (upd H3 o (.ins aB dx (d2 (.int (aD w':Nat)) v))):=Go.n8 (G1.trans (.grow G1.gh S3)) hm rfl (kt (S3 _ _ h1))
 have O3:∀c u,H c=some u->c≠o->upd H3 o (.ins aB dx (d2 (.int (aD w':Nat)) v)) c=some u:=fun c u h n=>by rw[upd_ne n];exact S3 _ _ (O1 c u h n)
 have tv3:TR K (upd H3 o (.ins aB dx (d2 (.int (aD w':Nat)) v))) (aL w') v:=tv.mono (kt (S3 _ _ h1))
 have h3:upd H3 o (.ins aB dx (d2 (.int (aD w':Nat)) v)) o=some (.ins aB dx (d2 (.int (aD w':Nat)) v)):=upd_same
 generalize upd H3 o (.ins aB dx (d2 (.int (aD w':Nat)) v))=H4 at G3 O3 tv3 h3
 refine⟨_,rfl,o,aB,dx,_,rfl,h3,O.eF,O.wy,by show 2<1000;decide,?_⟩
 rw[pd3]
 refine⟨_,rfl,o,aB,dx,_,rfl,upd_same,O.eF,O.wn,by show 3<1000;decide,?_⟩
 rw[pd4,jD]
 refine⟨_,rfl,o,aB,dx,_,rfl,upd_same,O.eF,O.wb,by show 4<1000;decide,?_⟩
 rw[pd5,jD]
 refine⟨_,rfl,o,aB,dx,_,rfl,upd_same,O.eF,O.ws,by show 5<1000;decide,?_⟩
 rw[pd6,jD]
 have G5:Go K ao aA aB aG (fun a=>a=o) M M H₀ H (upd H4 o (.ins aB dx (fD (aD w') v .non .non .non .non))):=Go.n8 G3 hm rfl (kt h3)
 have O5:∀c u,H c=some u->c≠o->upd H4 o (.ins aB dx (fD (aD w') v .non .non .non .non)) c=some u:=fun c u h n=>by rw[upd_ne n];exact O3 c u h n
 have tv5:TR K (upd H4 o (.ins aB dx (fD (aD w') v .non .non .non .non))) (aL w') v:=tv3.mono (kt h3)
 have h5:upd H4 o (.ins aB dx (fD (aD w') v .non .non .non .non)) o=some (.ins aB dx (fD (aD w') v .non .non .non .non)):=upd_same
 generalize upd H4 o (.ins aB dx (fD (aD w') v .non .non .non .non))=H5 at G5 O5 tv5 h5
 have hdl:(aL w').deep<=400:=Nat.le_trans (aeI w') hd
 dsimp only
 refine acH (fun σ' H'=>σ'=[some (.ref o),some x]/\∃M' y n,Go K ao aA aB aG (fun a=>a=o) M M' H₀ H H'/\(∀c u,H c=some u->c≠o->H' c=some u)/\H' o=some (.ins aB dx (fD (aD w') v y n .non .non))/\TR K H' (aL w') v/\W7 M' w' y n) (fun σ' H6 h6=>?_) (fun A' B' hA hB=>⟨_,rfl,o,aB,dx,_,_,rfl,h5,O.eF,O.wk,ldK,rfl,_,rfl,ite2 (fun h=>hA _ fun N hN=>?_) (fun h=>hB _ ⟨rfl,M,.non,.non,G5,O5,h5,tv5,fun z=>absurd (decide_eq_true (by rw[z];rfl)) h⟩)⟩)
 rotate_left
 ·refine⟨_,rfl,o,aB,dx,_,_,rfl,h5,O.eF,O.wl,ldL,v,aL w',rfl,tv5,hdl,fun y1 H6 S6 t6=>fun a da ha hda ne=>⟨a,da,y1,rfl,gQ,fun W hW=>⟨rfl,_,rfl,o,aB,dx,fD (aD w') v .non .non .non .non,rfl,?_,O.eF,O.wy,by show 6<1000;decide,?_⟩⟩⟩
  ·obtain⟨_,S7,_⟩:=Go.newText (X:=fun a=>a=o) (G5.trans (.grow G5.gh S6)).gh t6 ha hda ne hW
   exact S7 _ _ (S6 _ _ h5)
  obtain⟨G7,S7,tx7⟩:=Go.newText (X:=fun a=>a=o) (G5.trans (.grow G5.gh S6)).gh t6 ha hda ne hW
  have h7:=S7 _ _ (S6 _ _ h5)
  have tv7:=tv5.mono (.of (S6.trans S7))
  have O7:∀c u,H c=some u->c≠o->_:=fun c u h n=>S7 _ _ (S6 _ _ (O5 c u h n))
  have G7':=(G5.trans (.grow G5.gh S6)).trans G7
  generalize setM (setM M W (.words (ats (aL w').kids 0))) a (.text (ats (aL w').kids 0) W)=M7 at G7' tx7
  generalize upd (upd (mkO H6 a da aG []) W (.lst [])) a (.ins aG da (fT y1 W))=H7 at S7 h7 tv7 O7 G7'
  rw[pdY]
  have hm7:=G7'.ext _ _ hm
  have G8:=G7'.n8 (u:=.ins aB dx (fD (aD w') v `I .non .non .non)) hm7 rfl (kt h7)
  have O8:∀c u,H c=some u->c≠o->upd H7 o (.ins aB dx (fD (aD w') v `I .non .non .non)) c=some u:=fun c u h n=>by rw[upd_ne n];exact O7 c u h n
  have tv8:=tv7.mono (kt (u:=.ins aB dx (fD (aD w') v `I .non .non .non)) h7)
  have h8:upd H7 o (.ins aB dx (fD (aD w') v `I .non .non .non)) o=some (.ins aB dx (fD (aD w') v `I .non .non .non)):=upd_same
  generalize upd H7 o (.ins aB dx (fD (aD w') v `I .non .non .non))=H8 at G8 O8 tv8 h8
  refine⟨_,rfl,o,aB,dx,_,_,rfl,h8,O.eF,O.wl,ldL,v,aL w',rfl,tv8,fun y9 H9 S9 t9=>fun c dc hc hdc ne9=>⟨c,dc,y9,rfl,gQ,fun W9 hW9=>⟨rfl,_,rfl,o,aB,dx,fD (aD w') v `I .non .non .non,rfl,?_,O.eF,O.wn,by show 6<1000;decide,?_⟩⟩⟩
  ·obtain⟨_,S10,_⟩:=Go.newText (X:=fun a=>a=o) (G8.trans (.grow G8.gh S9)).gh t9 hc hdc ne9 hW9
   exact S10 _ _ (S9 _ _ h8)
  obtain⟨G10,S10,amj⟩:=Go.newText (X:=fun a=>a=o) (G8.trans (.grow G8.gh S9)).gh t9 hc hdc ne9 hW9
  have h10:=S10 _ _ (S9 _ _ h8)
  have amk:=tv8.mono (.of (S9.trans S10))
  have alI:=(G8.trans (.grow G8.gh S9)).trans G10
  have ami:=tx7.ext G10
  rw[pdN]
  refine hN _ _ ⟨rfl,_,`I,.ref c,alI.n8 (alI.ext _ _ hm) rfl (kt h10),fun c u h n=>by rw[upd_ne n];exact S10 _ _ (S9 _ _ (O8 c u h n)),upd_same,amk.mono (kt h10),fun _=>⟨a,c,rfl,rfl,ami,amj⟩⟩
 obtain⟨rfl,M6,y6,n6,G6,O6,h6,tv6,w7⟩:=h6
 refine⟨_,rfl,o,aB,dx,_,_,rfl,h6,O.eF,O.wk,ldK,rfl,_,rfl,ite2 (fun h=>?_) (fun h=>?_)⟩
 ·refine⟨_,rfl,o,aB,dx,_,_,rfl,h6,O.eF,O.wl,ldL,fun a da ha hda ne=>⟨a,da,v,rfl,gQ,fun W hW=>⟨rfl,_,rfl,o,aB,dx,fD (aD w') v y6 n6 .non .non,rfl,?_,O.eF,O.wb,by show 6<1000;decide,?_⟩⟩⟩
  ·obtain⟨_,S7,_⟩:=Go.newText (X:=fun a=>a=o) G6.gh tv6 ha hda ne hW
   exact S7 _ _ h6
  obtain⟨G7,S7,tx7⟩:=Go.newText (X:=fun a=>a=o) G6.gh tv6 ha hda ne hW
  have h7:=S7 _ _ h6
  have G7':=G6.trans G7
  rw[pdB]
  exact q _ _ v y6 n6 `I (G7'.n8 (G7'.ext _ _ hm) rfl (kt h7)) (fun c u h n=>by rw[upd_ne n];exact S7 _ _ (O6 c u h n)) upd_same ((tv6.mono (.of S7)).mono (kt h7)) (fun z=>by
   obtain⟨ay,an,e1,e2,e3,e4⟩:=w7 z
   exact⟨ay,an,e1,e2,e3.ext G7,e4.ext G7⟩) (fun _=>⟨a,rfl,tx7⟩)
 ·exact q M6 H6 v y6 n6 .non G6 O6 h6 tv6 w7 (fun z=>absurd (decide_eq_true (by rw[z];rfl)) h)
theorem Hf(O:`j)
  {Tt:Addr}{SM:FuncData}(ajt:Fun K "parts" "parts" tW Tt SM)(ajq:FnOk P w K mg base CX0 32 Tt SM ["tree"] (V4 K))(aje:Binds K SM ["tree"] [])(aiR:mg "parts"=some (.ref Tt))
  (F:Fun K "body_parts" "Word.body_parts" fC f fd):FnOk P w K mg base CX0 33 f fd ["self"] (aa1 K ao aA aB aG):=by
 refine okQ F Gz `S `Q
 ·obtain⟨b,w',M,H₀,rfl,_⟩:=h
  rfl
 obtain⟨b,w',M,H₀,rfl,g,hm,hz,q⟩:=h
 refine⟨_,(au (bA (aU W0 `Z xZ `P) (aq (cP (qv 0) (aH ajq hr rfl aiR ajt.kp aje .nil pass0 (aj `Z ak)) rfl)) aX)
   (aq (aQ `Z))),?_⟩
 obtain⟨dx,v,y,n,bd,sz,hb,tv,c7,c8,hs⟩:=g.ok b _ hm
 have fin:∀H' sz',Go K ao aA aB aG (fun _=>False) M M H₀ H H'->H' b=some (.ins aB dx (fD (aD w') v y n bd sz'))->sz'=.int ((aL w').parts:Nat)->tRet (tFld K (tVar 0) "size") {nx:=fun x H'=>Q .non H',rt:=Q,bk:=fun _ _=>False,ct:=fun _ _=>False} [some (.ref b)] H':=fun H' sz' G hb' e=>by
  subst e
  exact⟨_,rfl,b,aB,dx,_,_,rfl,hb',O.eF,O.ws,ldS,q _ G⟩
 refine⟨_,rfl,b,aB,dx,_,_,rfl,hb,O.eF,O.ws,ldS,rfl,_,rfl,ite2 (fun h=>?_) (fun h=>?_)⟩
 ·refine⟨_,rfl,b,aB,dx,_,_,rfl,hb,O.eF,O.wl,ldL,v,aL w',rfl,tv,hz,fun H1 S1=>⟨_,rfl,b,aB,dx,_,rfl,S1 _ _ hb,O.eF,O.ws,by show 6<1000;decide,?_⟩⟩
  rw[pdS]
  have k1:Kt H1 (upd H1 b (.ins aB dx (fD (aD w') v y n bd (.int ((aL w').parts:Nat))))):=Kt.ins (S1 _ _ hb)
  have g1:=g.grow S1
  have g2:=g1.put hm k1 ⟨dx,v,y,n,bd,_,upd_same,(tv.mono (.of S1)).mono k1,c7,c8,.inr rfl⟩
  refine fin _ _ ⟨fun _ _ z=>z,fun a ha _=>?_,(Kt.of S1).trans k1,g2,fun W t ws h1 h2=>⟨ws,?_,`K⟩⟩ upd_same rfl
  ·have:a≠b:=fun z=>by rw[z,hm]at ha;cases ha
   rw[upd_ne this]
   obtain⟨u,e⟩:=g.has a _ ha
   exact(S1 _ _ e).trans e.symm
  ·have:W≠b:=fun z=>by rw[z,hm]at h1;cases h1
   rw[upd_ne this]
   exact S1 _ _ h2
 ·rcases hs with hs|hs
  ·exact absurd (by rw[hs];rfl) h
  ·exact fin _ _ (.refl g) hb hs
theorem Pj(O:`j)(cY:mg "len"=none)
  (Xy:mg "Word"=some (.ref aB))
  {gR:Addr}{zB:FuncData}(TX:Mk K aB gR)(Ql:FnOk P w K mg base CX0 34 gR zB ["self","tree"] (VN K ao aA aB aG))(tK:Binds K zB ["self","tree"] [])
  (F:Fun K "word_at" "Text.word_at" iD f fd):FnOk P w K mg base CX0 36 f fd ["self","place"] (VJ K ao aA aB aG):=by
 refine okQ F Ou `S `Q
 ·obtain⟨a,t,W,p,M,H₀,ws,rfl,_⟩:=h
  rfl
 obtain⟨a,t,W,p,M,H₀,ws,rfl,g,hm,hW,hpw,as3,hd,hkl,q0,q⟩:=h
 refine⟨_,(au (bA (aU op_eq (qv 1) (cJ call_len_seq rfl cY kO (aj `Z ak)) `P) (aq (aQ xZ)) aX)
   (au (bA (aU op_eq (qv 1) (cJ call_len_seq rfl cY kO (aj `Z ak)) `P) (aq (bY (cN PySem.F.plainAttrs_list PySem.F.slot_list_append PySem.F.type_list_append bW `Z (aj (jf TX Ql hr rfl Xy tK .nil pass0 (aj (cW gY `Z (qv 1) (fun _ _=>rfl)) ak)) ak)))) aX)
   (aq (aQ (cW ix_list `Z (qv 1) (fun _ _=>rfl)))))),?_⟩
 obtain⟨dx,v,ha,tv,hMW⟩:=g.ok a _ hm
 obtain⟨bt,ys,rfl,hbt,hys⟩:=uJ tv
 have hyl:=hys.length
 obtain⟨xs0,hW0,hl0,hit⟩:=g.ok W _ hMW
 have e0:xs0=ws:=by rw[hW]at hW0;cases hW0;rfl
 subst e0
 refine⟨_,rfl,_,rfl,a,aG,dx,_,_,rfl,ha,O.cText,O.tt,dM _ _ _,bt,ys,rfl,.inr hbt,rfl,_,rfl,ite2 (fun h=>?_) (fun h=>?_)⟩
 ·have h:=V.int.inj (of_decide_eq_true h)
  exact q0 `A
 have hpk:p≠t.kids.length:=fun z=>h (decide_eq_true (by rw[z,<-hyl]))
 obtain⟨w',ew⟩:∃w',t.kids[p]?=some w':=⟨_,List.getElem?_eq_getElem `A⟩
 obtain⟨x',ex,tx'⟩:=hys.at ew
 have lw:List.lookup ("words":Str) (fT (.ref bt) W)=some (.ref W):=(cG `C _ _).trans (dM _ _ _)
 dsimp only[tNext]
 refine acH (fun σ' H'=>σ'=[some `I,some (.int (p:Int))]/\∃M' b ws',Go K ao aA aB aG (fun _=>False) M M' H₀ H H'/\M' b=some (.word w')/\H' a=some (.ins aG dx (fT (.ref bt) W))/\H' W=some (.lst ws')/\ws'[p]?=some (.ref b)) (fun σ' H6 h6=>?_) (fun A' B' hA hB=>⟨_,rfl,_,rfl,a,aG,dx,_,_,rfl,ha,O.cText,O.tw,lw,W,xs0,rfl,.inl (SqL.of hW),rfl,_,rfl,ite2 (fun h=>hA _ fun N hN=>?_) (fun h=>hB _ ⟨rfl,?_⟩)⟩)
 ·obtain⟨rfl,M',b,ws',G,hb,ha',hW',hb'⟩:=h6
  refine⟨_,rfl,a,aG,dx,_,_,rfl,ha',O.cText,O.tw,lw,_,rfl,W,ws',p,.ref b,rfl,rfl,SqL.of hW',atI_nat hb',q w' ew b M' H6 G hb fun ws2 e2=>?_⟩
  rw[hW']at e2
  cases e2
  exact(List.getElem?_eq_some_iff.mp hb').1
 ·have hpl:p=xs0.length:=by have:=V.int.inj (of_decide_eq_true h);lia
  have dw':w'.deep<=400:=by have:=ag0 ew;lia
  refine⟨_,rfl,a,aG,dx,_,_,rfl,ha,O.cText,O.tw,lw,.inl ⟨rfl,_,SqL.of hW⟩,_,rfl,a,aG,dx,_,_,rfl,ha,O.cText,O.tt,dM _ _ _,_,rfl,bt,ys,p,x',rfl,rfl,hbt,atI_nat ex,fun b db hb hdb ne=>?_⟩
  have G1:=Go.made (X:=fun _=>False) (C:=aB) (fs:=[]) g hb hdb ne
  have S1:=iG (C:=aB) (fs:=[]) hb hdb ne
  refine⟨b,db,x',w',setM M b .mine,H₀,rfl,G1.gh,dD,gQ,tx'.mono (.of S1),dw',fun M' H' v1 y n bd G2 O2 h2 tv2 c7 c8=>⟨rfl,W,xs0,_,rfl,rfl,?_,dY `A,?_⟩⟩
  ·exact O2 W _ (S1 _ _ hW) (ne_of_none hW hb)
  have hbM:M' b=some .mine:=G2.ext _ _ dD
  have nbW:W≠b:=ne_of_none hW hb
  have hW2:=O2 W _ (S1 _ _ hW) nbW
  have ha2:=O2 a _ (S1 _ _ ha) (ne_of_none ha hb)
  have aqr:M' W=some (.words t):=G2.ext _ _ (G1.ext _ _ hMW)
  have nba:∀c r,M c=some r->c≠b:=fun c r hc z=>by
   obtain⟨u,e⟩:=g.has c r hc
   rw[z,hb]at e
   cases e
  have ext':∀c r,r≠.mine->M' c=some r->setM M' b (.word w') c=some r:=fun c r hr hc=>by
   rw[fV (fun z=>by rw[z,hbM]at hc;cases hc;exact hr rfl)]
   exact hc
  have g3:Gh K ao aA aB aG (setM M' b (.word w')) H₀ H':=G2.gh.role (.inr hbM) (G2.gh.new _ _ hbM) ⟨_,h2⟩ ⟨db,v1,y,n,bd,.non,h2,tv2,fun z=>by
   obtain⟨ay,an,e1,e2,⟨W1,e3⟩,W2,e4⟩:=c7 z
   exact⟨ay,an,e1,e2,⟨W1,ext' _ _ `G e3⟩,W2,ext' _ _ `G e4⟩,fun z=>by
   obtain⟨ab,e1,W1,e2⟩:=c8 z
   exact⟨ab,e1,W1,ext' _ _ `G e2⟩,.inl rfl⟩
  have k4:Kt H' (upd H' W (.lst (xs0++[.ref b]))):=Kt.lst hW2
  have g4:=g3.put (ext' _ _ `G aqr) k4 ⟨xs0++[.ref b],upd_same,by rw[List.length_append,List.length_singleton];lia,fun j z hz=>by
   by_cases hj:j<xs0.length
   ·rw[List.getElem?_append_left hj]at hz
    obtain⟨c,w2,e1,e2,e3⟩:=hit j z hz
    exact⟨c,w2,e1,e2,ext' _ _ `G (G2.ext _ _ (G1.ext _ _ e3))⟩
   ·have hj2:j<(xs0++[V.ref b]).length:=(List.getElem?_eq_some_iff.mp hz).1
    rw[List.length_append,List.length_singleton]at hj2
    have hj3:j=xs0.length:=`A
    subst hj3
    rw[List.getElem?_append_right `K,Nat.sub_self]at hz
    cases hz
    exact⟨b,w',rfl,by rw[<-hpl];exact ew,dD⟩⟩
  refine hN _ _ ⟨rfl,setM M' b (.word w'),b,xs0++[.ref b],⟨fun c r hc=>?_,fun c hc _=>?_,(Kt.of S1).trans (G2.kt.trans k4),g4,fun W' t' ws' e1 e2=>?_⟩,dD,by rw[upd_ne (fun z=>by rw[z,hW]at ha;cases ha)];exact ha2,upd_same,by rw[hpl];simp⟩
  ·rw[fV (nba c r hc)]
   exact G2.ext _ _ (G1.ext _ _ hc)
  ·obtain⟨u,e⟩:=g.has c _ hc
   have ncW:c≠W:=fun z=>by rw[z,hMW]at hc;cases hc
   rw[upd_ne ncW,O2 c u (S1 _ _ e) (nba c _ hc)]
   exact e.symm
  ·have e3:=O2 W' _ (S1 _ _ e2) (nba W' _ e1)
   by_cases hWW:W'=W
   ·subst hWW
    rw[hW]at e2
    cases e2
    exact⟨_,upd_same,by rw[List.length_append,List.length_singleton];lia⟩
   ·exact⟨ws',by rw[upd_ne hWW];exact e3,`K⟩
 ·have hpl:p≠xs0.length:=fun z=>h (decide_eq_true (by rw[z]))
  obtain⟨z,ez⟩:∃z,xs0[p]?=some z:=⟨_,List.getElem?_eq_getElem `A⟩
  obtain⟨b,w2,rfl,e2,e3⟩:=hit p z ez
  rw[ew]at e2
  cases e2
  exact⟨M,b,xs0,.refl g,e3,ha,hW,ez⟩
end
section
variable{P:Program}{w:World}{K:W.Frag}{mg:`Y}{base:Heap}{f:Addr}{fd:FuncData}{ao aA aB aG aJ aF:Addr}
theorem aiE(O:`j){mL:Value}(qm:mg "LAY"=some mL)(mO:RelV `H mL){uX:Value}(Ci:mg "DROP"=some uX)(vg:RelV (.int 1) uX){mV:Value}(pX:mg "TWIN"=some mV)(lU:RelV (.int 2) mV){Gf:Value}(XC:mg "SWAP"=some Gf)(GJ:RelV (.int 3) Gf){qP:Value}(wQ:mg "FRONT"=some qP)(qU:RelV (.int 4) qP){Gg:Value}(XD:mg "PART"=some Gg)(GK:RelV (.int 5) Gg){uT:Value}(Ce:mg "TURN"=some uT)(u9:RelV (.int 6) uT)
  {Ja:Addr}{Ia:FuncData}(afk:Fun K "rest_of" "rest_of" nD Ja Ia)(ae9:FnOk P w K mg base CX0 35 Ja Ia ["row"] (V1 K ao aA aB aG))(aeU:Binds K Ia ["row"] [])(aeA:mg "rest_of"=some (.ref Ja))
  {Fg:Addr}{Es:FuncData}(adx:Fun K "first_of" "first_of" lJ Fg Es)(ado:FnOk P w K mg base CX0 35 Fg Es ["row"] (Ue K ao aA aB aG))(ac5:Binds K Es ["row"] [])(acD:mg "first_of"=some (.ref Fg))
  (dG:mg "Fronted"=some (.ref ao))
  {d8:Addr}{vA:FuncData}(Fj:Mk K ao d8)(Jj:FnOk P w K mg base CX0 34 d8 vA ["self","item","behind"] (V9 ao))(oK:Binds K vA ["self","item","behind"] [])
  (F:Fun K "work" "work" xR f fd):FnOk P w K mg base CX0 36 f fd ["step","load","stack"] (adQ K ao aA aB aG):=by
 refine okQ F Q7 `S `Q
 ·obtain⟨k,y,S,l,sk,rows,M,H₀,rfl,_⟩:=h
  rfl
 obtain⟨k,y,S,l,sk,rows,M,H₀,rfl,g,hm,hS,hrs,hy,hlk,hb,hkl,q⟩:=h
 refine⟨_,(aq (bA (aU op_eq (qv 0) (aM (v:=`H) rfl qm mO) `P) (aq (bY (cN PySem.F.plainAttrs_list PySem.F.slot_list_append PySem.F.type_list_append bW (qv 2) (aj (qv 1) ak)))) (aq (bA (aU op_eq (qv 0) (aM (v:=.int 1) rfl Ci vg) `P) (aq (bY (j_ PySem.F.plainAttrs_list PySem.F.slot_list_pop PySem.F.type_list_pop jx (qv 2)))) (aq (bA (aU op_eq (qv 0) (aM (v:=.int 2) rfl pX lU) `P) (aq (bY (cN PySem.F.plainAttrs_list PySem.F.slot_list_append PySem.F.type_list_append bW (qv 2) (aj (cW ix_list (qv 2) (ql j4 aP) (fun _ _=>rfl)) ak)))) (aq (bA (aU op_eq (qv 0) (aM (v:=.int 3) rfl XC GJ) `P) (aq (bY (cN PySem.F.plainAttrs_list PySem.F.slot_list_append PySem.F.type_list_append bW (qv 2) (aj (cN PySem.F.plainAttrs_list PySem.F.slot_list_pop PySem.F.type_list_pop Ml (qv 2) (aj (ql j4 aP) ak)) ak)))) (aq (bA (aU op_eq (qv 0) (aM (v:=.int 4) rfl wQ qU) `P) (au (aZ (i:=3) Q7.nd rfl `O (j_ PySem.F.plainAttrs_list PySem.F.slot_list_pop PySem.F.type_list_pop jx (qv 2)))
   (aq (bY (cN PySem.F.plainAttrs_list PySem.F.slot_list_append PySem.F.type_list_append bW (qv 2) (aj (jf Fj Jj hr rfl dG oK .nil pass0 (aj (qv 3) (aj (j_ PySem.F.plainAttrs_list PySem.F.slot_list_pop PySem.F.type_list_pop jx (qv 2)) ak))) ak))))) (aq (bA (aU op_eq (qv 0) (aM (v:=.int 5) rfl XD GK) `P) (au (aZ (i:=4) Q7.nd rfl `O (j_ PySem.F.plainAttrs_list PySem.F.slot_list_pop PySem.F.type_list_pop jx (qv 2)))
   (au (bY (cN PySem.F.plainAttrs_list PySem.F.slot_list_append PySem.F.type_list_append bW (qv 2) (aj (aH ae9 hr rfl aeA afk.kp aeU .nil pass0 (aj (qv 4) ak)) ak)))
   (aq (bY (cN PySem.F.plainAttrs_list PySem.F.slot_list_append PySem.F.type_list_append bW (qv 2) (aj (aH ado hr rfl acD adx.kp ac5 .nil pass0 (aj (qv 4) ak)) ak)))))) (aq (bA (aU op_eq (qv 0) (aM (v:=.int 6) rfl Ce u9) `P) (aq (bY (cN PySem.F.plainAttrs_list PySem.F.slot_list_append PySem.F.type_list_append bW (qv 2) (aj (cN PySem.F.plainAttrs_list PySem.F.slot_list_pop PySem.F.type_list_pop Ml (qv 2) (aj (ql j4 aP) ak)) ak)))) aX)))))))))))))),?_⟩
 have hrl:=hrs.length
 rw[List.length_reverse]at hrl
 have hsl:sk.length<=8000010:=by
  have h1:=hb.2
  rw[T.aR]at h1
  have:=T.cM sk
  lia
 refine⟨_,rfl,rfl,_,rfl,ite2 (fun h=>?_) (fun h0=>?_)⟩
 ·have h:k=0:=by have:=V.int.inj (of_decide_eq_true h);lia
  subst h
  refine⟨_,rfl,.inl ⟨rfl,_,SqL.of hS⟩,_,rfl,S,rows,y,rfl,rfl,hS,dY `A,q M _ _ (Go.list g hm hS) upd_same ?_⟩
  show aO _ (l::sk).reverse _
  rw[List.reverse_cons]
  exact aO.append (fH (Kt.lst hS) hrs) (aO.one (.inl (hy.mono (Kt.lst hS))))
 have h0:¬k=0:=fun z=>h0 (decide_eq_true (by rw[z];rfl))
 refine⟨_,rfl,rfl,_,rfl,ite2 (fun h=>?_) (fun h1=>?_)⟩
 ·have h:k=1:=by have:=V.int.inj (of_decide_eq_true h);lia
  subst h
  obtain⟨a,sk0,r0,ya,rfl,rfl,h0,ha⟩:=lQ hrs (by rintro rfl;have h1:1<=sk.length:=hlk;simp at hrl;lia)
  refine⟨_,rfl,.inl ⟨rfl,_,SqL.of hS⟩,S,_,_,rfl,rfl,hS,lA _ _,?_⟩
  rw[lB]
  exact q M _ _ (Go.list g hm hS) upd_same (fH (Kt.lst hS) h0)
 have h1:¬k=1:=fun z=>h1 (decide_eq_true (by rw[z];rfl))
 refine⟨_,rfl,rfl,_,rfl,ite2 (fun h=>?_) (fun h2=>?_)⟩
 ·have h:k=2:=by have:=V.int.inj (of_decide_eq_true h);lia
  subst h
  obtain⟨a,sk0,r0,ya,rfl,rfl,h0,ha⟩:=lQ hrs (by rintro rfl;have h1:1<=sk.length:=hlk;simp at hrl;lia)
  refine⟨_,rfl,.inl ⟨rfl,_,SqL.of hS⟩,_,rfl,1,rfl,S,_,_,_,rfl,rfl,SqL.of hS,kY,S,_,ya,rfl,rfl,hS,dY `A,q M _ _ (Go.list g hm hS) upd_same ?_⟩
  show aO _ (a::a::sk0).reverse _
  rw[List.reverse_cons]
  exact aO.append (fH (Kt.lst hS) hrs) (aO.one (ha.mono (Kt.lst hS) fun _ _ z=>z))
 have h2:¬k=2:=fun z=>h2 (decide_eq_true (by rw[z];rfl))
 refine⟨_,rfl,rfl,_,rfl,ite2 (fun h=>?_) (fun h3=>?_)⟩
 ·have h:k=3:=by have:=V.int.inj (of_decide_eq_true h);lia
  subst h
  obtain⟨a,c,sk0,r0,ya,yc,rfl,rfl,h0,ha,hc⟩:=Iz hrs hlk
  refine⟨_,rfl,.inl ⟨rfl,_,SqL.of hS⟩,_,rfl,.inl ⟨rfl,_,SqL.of hS⟩,2,rfl,S,_,-2,_,_,rfl,rfl,hS,`B,`B,si2 _ _ _,gt2 _ _ _,?_⟩
  rw[er2]
  refine⟨S,_,yc,rfl,rfl,upd_same,dY (by simp only[List.length_append,List.length_singleton]at hrl|-;lia),?_⟩
  rw[jD]
  refine q M _ _ (Go.list g hm hS) upd_same ?_
  have k:=Kt.lst (o:=.lst (r0++[ya]++[yc])) hS
  show aO _ (c::a::sk0).reverse _
  rw[List.reverse_cons,List.reverse_cons]
  exact aO.append (aO.append (fH k h0) (aO.one (ha.mono k fun _ _ z=>z))) (aO.one (hc.mono k fun _ _ z=>z))
 have h3:¬k=3:=fun z=>h3 (decide_eq_true (by rw[z];rfl))
 refine⟨_,rfl,rfl,_,rfl,ite2 (fun h=>?_) (fun h4=>?_)⟩
 ·have h:k=4:=by have:=V.int.inj (of_decide_eq_true h);lia
  subst h
  obtain⟨a,c,sk0,r0,ya,yc,rfl,rfl,h0,ha,hc⟩:=Iz hrs hlk
  refine⟨_,rfl,.inl ⟨rfl,_,SqL.of hS⟩,S,_,_,rfl,rfl,hS,lA _ _,?_⟩
  rw[lB]
  refine⟨_,rfl,.inl ⟨rfl,_,SqL.of upd_same⟩,_,rfl,_,rfl,.inl ⟨rfl,_,SqL.of upd_same⟩,S,_,_,rfl,rfl,upd_same,lA _ _,?_⟩
  rw[lB,jD]
  have G1:=Go.list (ys:=r0) g hm hS
  have k1:=Kt.lst (o:=.lst r0) hS
  have hS1:upd H S (.lst r0) S=some (.lst r0):=upd_same
  have h01:=fH k1 h0
  have ha1:=ha.mono (M':=M) k1 fun _ _ z=>z
  have hc1:=hc.mono (M':=M) k1 fun _ _ z=>z
  generalize upd H S (.lst r0)=H1 at G1 k1 hS1 h01 ha1 hc1
  refine fun o dx ho hd ne=>⟨o,dx,ya,yc,rfl,gQ,⟨rfl,S,r0,_,rfl,rfl,?_,dY (by simp only[List.length_append,List.length_singleton]at hrl;lia),?_⟩⟩
  ·rw[upd_ne (ne_of_none hS1 ho)]
   exact iG (C:=ao) (fs:=[]) ho hd ne _ _ hS1
  rw[aev]
  have S2:=iG (C:=ao) (fs:=fF ya yc) ho hd ne
  have nSo:S≠o:=ne_of_none hS1 ho
  have ro:∀p t,M p=some (.row t)->setM M o (.row (.node (a::c.kids))) p=some (.row t):=fun p t e=>by
   rw[fV (fun z=>by rw[z,G1.gh.fresh ho]at e;cases e)]
   exact e
  have G2:Go K ao aA aB aG (fun a=>a=S) M (setM M o (.row (.node (a::c.kids)))) H₀ H1 (mkO H1 o dx ao (fF ya yc)):=
   Go.role G1.gh S2 ho ⟨_,gQ⟩ (.inl ⟨dx,ya,yc,a,c.kids,gQ,rfl,ha1.mono (.of S2) ro,by cases c;exact hc1.mono (.of S2) ro⟩)
  have hS2:=S2 _ _ hS1
  have h02:=h01.imp fun _ _ z=>z.mono (.of S2) ro
  have hm2:setM M o (.row (.node (a::c.kids))) S=some .mine:=by rw[fV nSo];exact hm
  have hMo:setM M o (.row (.node (a::c.kids))) o=some (.row (.node (a::c.kids))):=dD
  generalize setM M o (.row (.node (a::c.kids)))=M2 at G2 h02 hm2 hMo
  generalize mkO H1 o dx ao (fF ya yc)=H2 at G2 hS2 h02
  refine q M2 _ _ ((G1.trans G2).n8 hm2 rfl (Kt.lst hS2)) upd_same ?_
  show aO _ (T.node (a::c.kids)::sk0).reverse _
  rw[List.reverse_cons]
  exact aO.append (fH (Kt.lst hS2) h02) (aO.one (.inr ⟨o,rfl,hMo⟩))
 have h4:¬k=4:=fun z=>h4 (decide_eq_true (by rw[z];rfl))
 refine⟨_,rfl,rfl,_,rfl,ite2 (fun h=>?_) (fun h5=>?_)⟩
 ·have h:k=5:=by have:=V.int.inj (of_decide_eq_true h);lia
  subst h
  obtain⟨a,sk0,r0,ya,rfl,rfl,h0,ha⟩:=lQ hrs (by rintro rfl;have h1:1<=sk.length:=hlk;simp at hrl;lia)
  have da:a.deep<=400:=by
   have h1:=hb.1
   rw[T.bC,T.bf]at h1
   lia
  have ka:a.kids.length<=8000000:=hkl a `G
  refine⟨_,rfl,.inl ⟨rfl,_,SqL.of hS⟩,S,_,_,rfl,rfl,hS,lA _ _,?_⟩
  rw[lB]
  have G1:=Go.list (ys:=r0) g hm hS
  have k1:=Kt.lst (o:=.lst r0) hS
  have hS1:upd H S (.lst r0) S=some (.lst r0):=upd_same
  have h01:=fH k1 h0
  have ha1:=ha.mono (M':=M) k1 fun _ _ z=>z
  generalize upd H S (.lst r0)=H1 at G1 k1 hS1 h01 ha1
  refine⟨_,rfl,.inl ⟨rfl,_,SqL.of hS1⟩,_,rfl,ya,a,M,H₀,rfl,G1.gh,ha1,da,ka,fun y2 M2 H2 S2 G2 r2=>?_⟩
  have hS2:=S2 _ _ hS1
  have hm2:=G2.ext _ _ hm
  have h02:=h01.imp fun _ _ z=>G2.rv z
  have ha2:=G2.rv ha1
  have G2':=G1.trans (G2.weak fun _ z=>z.elim)
  refine⟨S,r0,y2,rfl,rfl,hS2,dY (by simp only[List.length_append,List.length_singleton]at hrl;lia),?_⟩
  have G3:=G2'.n8 (u:=.lst (r0++[y2])) hm2 rfl (Kt.lst hS2)
  have k3:=Kt.lst (o:=.lst (r0++[y2])) hS2
  have hS3:upd H2 S (.lst (r0++[y2])) S=some (.lst (r0++[y2])):=upd_same
  have h03:=fH k3 h02
  have ha3:=ha2.mono (M':=M2) k3 fun _ _ z=>z
  have r3:=r2.mono (M':=M2) k3 fun _ _ z=>z
  generalize upd H2 S (.lst (r0++[y2]))=H3 at G3 k3 hS3 h03 ha3 r3
  refine⟨_,rfl,.inl ⟨rfl,_,SqL.of hS3⟩,_,rfl,ya,a,M2,H₀,rfl,G3.gh,ha3,da,fun y4 H4 S4 r4=>?_⟩
  have hS4:=S4 _ _ hS3
  refine⟨S,_,y4,rfl,rfl,hS4,dY (by simp only[List.length_append,List.length_singleton]at hrl|-;lia),?_⟩
  have G4:=G3.trans (.grow G3.gh S4)
  have k5:=Kt.lst (o:=.lst (r0++[y2]++[y4])) hS4
  refine q M2 _ _ (G4.n8 hm2 rfl (Kt.lst hS4)) upd_same ?_
  show aO _ (ats a.kids 0::aL a::sk0).reverse _
  rw[List.reverse_cons,List.reverse_cons]
  exact aO.append (aO.append (fH ((Kt.of S4).trans k5) h03) (aO.one (r3.mono ((Kt.of S4).trans k5) fun _ _ z=>z))) (aO.one (r4.mono k5 fun _ _ z=>z))
 have h5:¬k=5:=fun z=>h5 (decide_eq_true (by rw[z];rfl))
 refine⟨_,rfl,rfl,_,rfl,ite2 (fun h=>?_) (fun h6=>?_)⟩
 ·have h:k=6:=by have:=V.int.inj (of_decide_eq_true h);lia
  subst h
  obtain⟨a,c,e,sk0,r0,ya,yc,ye,rfl,rfl,h0,ha,hc,he⟩:=ae2 hrs hlk
  refine⟨_,rfl,.inl ⟨rfl,_,SqL.of hS⟩,_,rfl,.inl ⟨rfl,_,SqL.of hS⟩,3,rfl,S,_,-3,_,_,rfl,rfl,hS,`B,`B,si3 _ _ _ _,gt3 _ _ _ _,?_⟩
  rw[er3]
  refine⟨S,_,ye,rfl,rfl,upd_same,dY (by simp only[List.length_append,List.length_singleton]at hrl|-;lia),?_⟩
  rw[jD]
  refine q M _ _ (Go.list g hm hS) upd_same ?_
  have k:=Kt.lst (o:=.lst (r0++[yc]++[ya]++[ye])) hS
  show aO _ (e::a::c::sk0).reverse _
  rw[List.reverse_cons,List.reverse_cons,List.reverse_cons]
  exact aO.append (aO.append (aO.append (fH k h0) (aO.one (hc.mono k fun _ _ z=>z))) (aO.one (ha.mono k fun _ _ z=>z))) (aO.one (he.mono k fun _ _ z=>z))
 have h6:¬k=6:=fun z=>h6 (decide_eq_true (by rw[z];rfl))
 refine q M H rows (.refl g) hS ?_
 rw[Bu (show 7<=k by lia)]
 exact hrs
end
section
variable{P:Program}{w:World}{K:W.Frag}{mg:`Y}{base:Heap}{f:Addr}{fd:FuncData}{ao aA aB aG aJ aF:Addr}
theorem Rx(O:`j)
  (F:Fun K "at_end" "Walk.at_end" je f fd):FnOk P w K mg base CX0 31 f fd ["self"] (QX K ao aA aB aG aJ aF):=by
 refine okQ F Q9 `S `Q
 ·obtain⟨o,M,H₀,tx,sk,num,b,rfl,_⟩:=h
  rfl
 obtain⟨o,M,H₀,tx,sk,num,b,rfl,w',q⟩:=h
 refine⟨_,(aq (aQ (ail `Z))),?_⟩
 obtain⟨dx,G,S,N,gs,rows,w'⟩:=w'
 have hgl:=w'.gos.length
 rw[List.length_reverse]at hgl
 refine⟨_,rfl,o,aF,dx,_,_,rfl,w'.ob,O.cQ,O.kg,lwG,!gs.isEmpty,.inl ⟨gs,SqL.of w'.hG,rfl⟩,?_⟩
 have e:(!(!gs.isEmpty))=decide (tx=[]):=by
  rw[Bool.not_not]
  cases tx with
  |nil=>
   have:gs=[]:=List.length_eq_zero_iff.mp (by simpa using hgl)
   rw[this]
   rfl
  |cons t r=>
   cases gs with
   |nil=>simp at hgl
   |cons _ _=>rfl
 rw[e]
 exact q
theorem ZV(O:`j)
  (F:Fun K "top" "Walk.top" oY f fd):FnOk P w K mg base CX0 31 f fd ["self"] (abU K ao aA aB aG aJ aF):=by
 refine okQ F Zz `S `Q
 ·obtain⟨o,M,H₀,tx,sk,num,b,rfl,_⟩:=h
  rfl
 obtain⟨o,M,H₀,tx,sk,num,b,rfl,w',q⟩:=h
 refine⟨_,(aq (aQ (nU (xX `Z (fun _=>rfl)) (cW ix_list `Z (ql j4 aP) (fun _ _=>rfl)) (bB ak)))),?_⟩
 obtain⟨dx,G,S,N,gs,rows,w'⟩:=w'
 refine⟨_,rfl,o,aF,dx,_,_,rfl,w'.ob,O.cQ,O.ks,lwS,!rows.isEmpty,.inl ⟨rows,SqL.of w'.hS,rfl⟩,ite2 (fun h=>?_) (fun h=>?_)⟩
 ·have hne:rows≠[]:=by rintro rfl;exact absurd h `B
  obtain⟨a,sk0,r0,ya,rfl,rfl,h0,ha⟩:=lQ w'.sts hne
  exact⟨_,rfl,o,aF,dx,_,_,rfl,w'.ob,O.cQ,O.ks,lwS,1,rfl,S,_,_,_,rfl,rfl,SqL.of w'.hS,kY,q _ _ (Same.refl _) ha⟩
 ·have hr:rows=[]:=by
   cases rows with
   |nil=>rfl
   |cons _ _=>exact absurd rfl h
  subst hr
  have:=all_nil w'.sts
  subst this
  refine⟨`W,fun p1 g1=>?_⟩
  obtain⟨S1,t1⟩:=dJ (K:=K) (ts:=[]) g1 (bH.mpr rfl)
  exact q _ _ S1 (.inl t1)
theorem Ve(O:`j)(cA:mg "tuple"=none)
  (F:Fun K "tally" "Walk.tally" j7 f fd):FnOk P w K mg base CX0 31 f fd ["self"] (QM K ao aA aB aG aJ aF):=by
 refine okQ F U8 `S `Q
 ·obtain⟨o,M,H₀,tx,sk,num,b,rfl,_⟩:=h
  rfl
 obtain⟨o,M,H₀,tx,sk,num,b,rfl,w',q⟩:=h
 refine⟨_,(aq (aQ (lu dW rfl cA jU (aj `Z ak)))),?_⟩
 obtain⟨dx,G,S,N,gs,rows,w'⟩:=w'
 exact⟨_,rfl,o,aF,dx,_,_,rfl,w'.ob,O.cQ,O.kn,lwN,N,_,rfl,.inl ⟨SqL.of w'.hN,fun l hl=>q _ _ (same_new hl _) (SqT.of upd_same)⟩⟩
end
section
variable{P:Program}{w:World}{K:W.Frag}{mg:`Y}{base:Heap}{f:Addr}{fd:FuncData}{ao aA aB aG aJ aF:Addr}
theorem Lz(O:`j)(cX:mg "reversed"=none)(pU:mg "list"=none){xJ:Value}(Mu:mg "PLACES"=some xJ)(xV:RelV (.int 15) xJ)
  (qZ:mg "Going"=some (.ref aJ))
  (vo:mg "Text"=some (.ref aG))
  {cR:Addr}{iV:FuncData}(oO:Mk K aJ cR)(iZ:FnOk P w K mg base CX0 31 cR iV ["self","text"] (K4 aJ))(dI:Binds K iV ["self","text"] [])
  {cZ:Addr}{jB:FuncData}(rE:Mk K aG cZ)(jC:FnOk P w K mg base CX0 31 cZ jB ["self","tree"] (K3 aG))(dU:Binds K jB ["self","tree"] [])
  (F:Fun K "__init__" "Walk.__init__" eU f fd):FnOk P w K mg base CX0 33 f fd ["self","stand","budget"] (VL K ao aA aB aG aJ aF):=by
 refine okQ F K_ `S `Q
 ·obtain⟨o,dx,x,tx,sk,b,M,H₀,rfl,_⟩:=h
  rfl
 obtain⟨o,dx,x,tx,sk,b,M,H₀,rfl,g,hm,ho,hx,bx,bs,q⟩:=h
 refine⟨_,(au (cP (qv 0) (Ow rfl (wU (fr:=[]) (js:=[]) (sc:=defScope eU) rfl rfl rfl `C `C `C `C (by exact trivial) `C (fun y hy=>cell_has hy)) (aii rfl cX (cW gY (qv 1) aP (fun _ _=>rfl))) (fun _ _ _ _ _=>(jf oO iZ hr rfl qZ dI .nil pass0 (aj (jf rE jC hr rfl vo dU .nil pass0 (aj (qv 0) ak)) ak)))) rfl)
   (au (cP (qv 0) (Dl rfl rfl pU cX rfl (cW gY (qv 1) aP (fun _ _=>rfl))) rfl)
   (au (cP (qv 0) (aV aj8 (iM (aj aP ak)) (aM (v:=.int 15) rfl Mu xV)) rfl)
   (aq (cP (qv 0) (qv 2) rfl))))),?_⟩
 obtain⟨ax,xs,rfl,hax,hxs⟩:=cB.mp hx
 obtain⟨x0,r0,rfl,t0,hr⟩:=cD.mp hxs
 obtain⟨x1,r1,rfl,t1,hr1⟩:=cD.mp hr
 obtain⟨a0,ys0,rfl,h0,hy0⟩:=cB.mp t0
 obtain⟨a1,ys1,rfl,h1,hy1⟩:=cB.mp t1
 have l0:=hy0.length
 have l1:=hy1.length
 have hsl:sk.length<=8000000:=by
  have h1:=bs.2
  rw[T.aR]at h1
  have:=T.cM sk
  lia
 refine⟨_,rfl,ax,_,0,_,rfl,rfl,hax,atI_nat (j:=0) rfl,a0,ys0,rfl,h0,aiU (fun D i ys H'=>H D=none/\∃M',Go K ao aA aB aG (fun _=>False) M M' H₀ H H'/\M' D=some .mine/\H' D=some (.lst ys)/\ys.length=i/\aO (oU aJ M' H') (tx.reverse.take i) ys/\ys.Nodup) (xO (by have:=bx.1;lia)) (fun D hD=>⟨hD,setM M D .mine,Go.RJ g hD,dD,upd_same,rfl,by rw[List.take_zero];exact .nil,List.nodup_nil⟩) (fun D i ys H' j=>⟨j.2.choose_spec.2.2.1,j.2.choose_spec.2.2.2.1,cO j.2.choose_spec.1.kt h0⟩) (fun D i x ys H1 R hxi j hR=>?_) (fun D gs H1 j=>?_)⟩
 ·obtain⟨hD,M1,G1,mD,h1D,hyl,hgo,nd⟩:=j
  obtain⟨t,et,ht⟩:=ah9 hy0 hxi
  have hbt:B 389 8000000 t:=bx.2 t (by have:=List.mem_of_getElem? et;rw[List.mem_reverse]at this;exact this)
  refine⟨_,rfl,fun a da ha hda ne=>⟨a,da,x,rfl,gQ,fun W hW=>⟨rfl,fun gg dg hg hdg ne2=>⟨gg,dg,a,rfl,gQ,⟨rfl,?_⟩⟩⟩⟩⟩
  obtain⟨G2,S2,tx2⟩:=Go.newText (X:=fun _=>False) G1.gh (ht.mono G1.kt) ha hda ne hW
  generalize setM (setM M1 W (.words t)) a (.text t W)=M2 at G2 tx2
  generalize upd (upd (mkO H1 a da aG []) W (.lst [])) a (.ins aG da (fT x W))=H2 at G2 S2 hg hdg
  rw[jD,<-(show mkO H2 gg dg aJ (fG a 0)=upd (upd H2 dg (.own gg)) gg (.ins aJ dg (fG a 0))from rfl)]
  have G3:Go K ao aA aB aG (fun _=>False) M2 (setM M2 gg .mine) H₀ H2 (mkO H2 gg dg aJ (fG a 0)):=Go.made G2.gh hg hdg ne2
  have S3:=iG (C:=aJ) (fs:=fG a 0) hg hdg ne2
  have gn:=oU.new (CG:=aJ) G2.gh tx2 hbt hg hdg ne2
  have hD3:=S3 _ _ (S2 _ _ h1D)
  have mD3:=G3.ext _ _ (G2.ext _ _ mD)
  have hnew:(.ref gg:V)∉ys:=fun z=>by
   obtain⟨k,hk⟩:=List.mem_iff_getElem?.mp z
   obtain⟨t',_,g',_,_,_,_,_,e,_,h2,_⟩:=hgo.get hk
   cases e
   have:=S2 _ _ h2
   rw[hg]at this
   cases this
  generalize mkO H2 gg dg aJ (fG a 0)=H3 at G3 S3 gn hD3
  generalize setM M2 gg .mine=M3 at G3 gn mD3
  have Gl:Go K ao aA aB aG (fun c=>c=D) M3 M3 H₀ H3 (upd H3 D (.lst (ys++[.ref gg]))):=.list G3.gh mD3 hD3
  have Gs:Go K ao aA aB aG (fun c=>c=D) M1 M3 H₀ H1 (upd H3 D (.lst (ys++[.ref gg]))):=((G2.trans G3).weak fun _ z=>z.elim).trans Gl
  refine hR _ _ hD3 ⟨hD,M3,((G1.trans G2).trans G3).apA mD3 (by rw[g.fresh hD];simp) (Kt.lst hD3),mD3,upd_same,by rw[List.length_append,hyl];rfl,?_,?_⟩
  ·rw[afz et]
   exact aO.append (hgo.imp fun _ _ z=>z.go Gs (z.nl h1D) G1.gh) (aO.one (gn.go Gl (gn.nl hD3) G3.gh))
  ·refine List.nodup_append.mpr ⟨nd,`G,fun c hc e he=>?_⟩
   rw[List.mem_singleton.mp he]
   exact fun z=>hnew (z▸hc)
 obtain⟨hD,M1,G1,mD,h1D,hyl,hgo,nd⟩:=j
 rw[List.take_of_length_le (by rw[List.length_reverse];lia)]at hgo
 have ho1:H1 o=some (.ins aF dx []):=(G1.mine o hm id).trans ho
 have noD:o≠D:=ne_of_none ho hD
 have kt{u:HO}{Ha:Hp}{fs:`c}(h:Ha o=some (.ins aF dx fs)):Kt Ha (upd Ha o u):=Kt.ins h
 refine⟨_,rfl,o,aF,dx,[],rfl,ho1,O.cQ,O.kg,by show 0<1000;decide,?_⟩
 rw[pw1]
 have G2:=(G1.weak (Y:=fun c=>c=o) fun _ z=>z.elim).n8 (u:=.ins aF dx (w1 D)) (G1.ext _ _ hm) rfl (kt ho1)
 have Gq:Go K ao aA aB aG (fun c=>c=o) M1 M1 H₀ H1 (upd H1 o (.ins aF dx (w1 D))):=Go.n8 (.refl G1.gh) (G1.ext _ _ hm) rfl (kt ho1)
 have akH:=hgo.imp fun t x z=>z.go Gq (fun gx e z2=>by
  obtain⟨g',_,_,_,_,_,e',_,h2,_⟩:=z
  rw[e]at e'
  cases e'
  rw[z2,ho1]at h2
  have h3:=(HO.ins.inj (Option.some.inj h2)).2.2
  exact absurd (congrArg List.length h3) (by simp[fG])) G1.gh
 have h2D:upd H1 o (.ins aF dx (w1 D)) D=some (.lst gs):=by rw[upd_ne (Ne.symm noD)];exact h1D
 have h2o:upd H1 o (.ins aF dx (w1 D)) o=some (.ins aF dx (w1 D)):=upd_same
 generalize upd H1 o (.ins aF dx (w1 D))=H2 at G2 akH h2D h2o
 have hm1:=G1.ext _ _ hm
 refine⟨_,rfl,ax,_,1,_,rfl,rfl,cO G2.kt hax,atI_nat (j:=1) rfl,a1,ys1,rfl,cO G2.kt h1,fun l hl=>⟨_,rfl,o,aF,dx,w1 D,rfl,?_,O.cQ,O.ks,by show 1<1000;decide,?_⟩⟩
 ·rw[upd_ne (ne_of_none h2o hl)];exact h2o
 rw[pw2]
 have aqo:aO (RV K M1 H2) sk.reverse ys1.reverse:=(QF (hy1.mono G2.kt)).rev
 have G3a:Go K ao aA aB aG (fun c=>c=o) M1 (setM M1 l .mine) H₀ H2 (upd H2 l (.lst ys1.reverse)):=Go.RJ G2.gh hl
 have h3o:upd H2 l (.lst ys1.reverse) o=some (.ins aF dx (w1 D)):=by rw[upd_ne (ne_of_none h2o hl)];exact h2o
 have h3D:upd H2 l (.lst ys1.reverse) D=some (.lst gs):=by rw[upd_ne (ne_of_none h2D hl)];exact h2D
 have nDl:D≠l:=ne_of_none h2D hl
 have h3l:upd H2 l (.lst ys1.reverse) l=some (.lst ys1.reverse):=upd_same
 have m3l:setM M1 l .mine l=some .mine:=dD
 generalize upd H2 l (.lst ys1.reverse)=H3 at G3a h3o h3D h3l
 generalize setM M1 l .mine=M3 at G3a m3l
 have hm3:=G3a.ext _ _ hm1
 have G3:=G3a.n8 (u:=.ins aF dx (w2 D l)) hm3 rfl (kt h3o)
 have nlo:l≠o:=fun z=>by rw[z,h3o]at h3l;cases h3l
 have nog:∀{Ma:Mp}{Ha:Hp}{fs:`c}{t:T}{x:V},Ha o=some (.ins aF dx fs)->(∀a p,fs≠fG a p)->oU aJ Ma Ha t x->∀gx,x=.ref gx->¬gx=o:=fun hh hne z gx e z2=>by
  obtain⟨g',_,_,_,_,_,e',_,h2,_⟩:=z
  rw[e]at e'
  cases e'
  rw[z2,hh]at h2
  exact hne _ _ (HO.ins.inj (Option.some.inj h2)).2.2
 have n1:∀a p,w1 D≠fG a p:=fun a p z=>absurd (congrArg List.length z) (by simp[fG,w1])
 have akG:=akH.imp fun t x z=>z.go G3 (nog h2o n1 z) G2.gh
 have ahO:=aqo.imp fun _ _ z=>G3.rv z
 have h4D:upd H3 o (.ins aF dx (w2 D l)) D=some (.lst gs):=by rw[upd_ne (Ne.symm noD)];exact h3D
 have h4l:upd H3 o (.ins aF dx (w2 D l)) l=some (.lst ys1.reverse):=by rw[upd_ne nlo];exact h3l
 have h4o:upd H3 o (.ins aF dx (w2 D l)) o=some (.ins aF dx (w2 D l)):=upd_same
 generalize upd H3 o (.ins aF dx (w2 D l))=H4 at G3 akG ahO h4D h4l h4o
 have z63:(2:Int)^63=9223372036854775808:=`B
 refine⟨`e,fun p5 g5=>⟨p5,15,[`H],rfl,rfl,upd_same,`A,`A,(by show 1*15<=sizeLine;decide),fun n g6=>?_⟩⟩
 have e0:(List.replicate (15:Int).toNat [V.int 0]).flatten=fQ.map nv:=rfl
 rw[e0]
 have S5:=same_new g5 (.lst [V.int 0])
 have G5:Go K ao aA aB aG (fun c=>c=o) M3 M3 H₀ H4 (upd H4 p5 (.lst [V.int 0])):=.grow G3.gh S5
 have G6a:Go K ao aA aB aG (fun c=>c=o) M3 (setM M3 n .mine) H₀ (upd H4 p5 (.lst [V.int 0])) (upd (upd H4 p5 (.lst [V.int 0])) n (.lst (fQ.map nv))):=Go.RJ G5.gh g6
 have S6:=S5.trans (same_new g6 (.lst (fQ.map nv)))
 have h6n:upd (upd H4 p5 (.lst [V.int 0])) n (.lst (fQ.map nv)) n=some (.lst (fQ.map nv)):=upd_same
 have m6n:setM M3 n .mine n=some .mine:=dD
 have n4:H4 n=none:=S5.free g6
 have G6:=G5.trans G6a
 generalize upd (upd H4 p5 (.lst [V.int 0])) n (.lst (fQ.map nv))=H6 at G6 G6a S6 h6n
 generalize setM M3 n .mine=M6 at G6 G6a m6n
 have h6o:=S6 _ _ h4o
 refine⟨_,rfl,o,aF,dx,w2 D l,rfl,h6o,O.cQ,O.kn,by show 2<1000;decide,?_⟩
 rw[pw3]
 refine⟨_,rfl,_,rfl,o,aF,dx,w3 D l n,rfl,upd_same,O.cQ,O.kl,by show 3<1000;decide,?_⟩
 rw[pw4,jD]
 have hm6:=G6.ext _ _ hm3
 have G7:=G6.n8 (u:=.ins aF dx (fW D l n b)) hm6 rfl (kt h6o)
 have n2:∀a p,w2 D l≠fG a p:=fun a p z=>by
  have h1:((Str.ofString "goings",V.ref D):Str×V)=(Str.ofString "text",V.ref a):=(List.cons.inj z).1
  have h2:Str.ofString "goings"=Str.ofString "text":=congrArg Prod.fst h1
  exact absurd h2 `C
 have aqq:=akG.imp fun t x z=>z.go G7 (nog h4o n2 z) G3.gh
 have al_:=ahO.imp fun _ _ z=>G7.rv z
 have nno:n≠o:=fun z=>by rw[z,h6o]at h6n;cases h6n
 have mD6:=G6.ext _ _ (G3a.ext _ _ mD)
 exact q M6 _ ⟨dx,D,l,n,gs,ys1.reverse,G7.gh,upd_same,hm6,mD6,G6.ext _ _ m3l,m6n,by rw[upd_ne (Ne.symm noD)];exact S6 _ _ h4D,by rw[upd_ne nlo];exact S6 _ _ h4l,by rw[upd_ne nno];exact h6n,aqq,al_,rfl,nDl,ne_of_none h4D n4,ne_of_none h4l n4,nd⟩
end
section
variable{P:Program}{w:World}{K:W.Frag}{mg:`Y}{base:Heap}{f:Addr}{fd:FuncData}{ao aA aB aG aJ aF:Addr}
theorem Xh(O:`j){uU:Value}(Cg:mg "SHUT"=some uU)(u_:RelV (.int 12) uU){gA:Value}(kj:mg "WHILE_INTO"=some gA)(gC:RelV (.int 9) gA){xM:Value}(Mv:mg "BODIES"=some xM)(xW:RelV (.int 14) xM){jm:Value}(o8:mg "FORK_YES"=some jm)(jw:RelV (.int 7) jm){lg:Value}(q_:mg "FORK_NO"=some lg)(lq:RelV (.int 8) lg)
  {Y4:Addr}{Yq:FuncData}(alJ:Fun K "work" "work" xR Y4 Yq)(alG:FnOk P w K mg base CX0 36 Y4 Yq ["step","load","stack"] (adQ K ao aA aB aG))(alB:Binds K Yq ["step","load","stack"] [])(akr:mg "work"=some (.ref Y4))
  (qZ:mg "Going"=some (.ref aJ))
  {fJ:Addr}{vV:FuncData}(pL:Meth K aB "body_parts" fJ)(Ke:FnOk P w K mg base CX0 36 fJ vV ["self"] (aa1 K ao aA aB aG))(pK:Binds K vV ["self"] [])
  {cR:Addr}{iV:FuncData}(oO:Mk K aJ cR)(iZ:FnOk P w K mg base CX0 35 cR iV ["self","text"] (K4 aJ))(dI:Binds K iV ["self","text"] [])
  (F:Fun K "move" "Walk.move" mj f fd):FnOk P w K mg base CX0 37 f fd ["self","step","going","word"] (adT K ao aA aB aG aJ aF):=by
 refine okQ F Wq `S `Q
 ·obtain⟨o,dx,G,S,N,gs0,g,rows,p,rest,sp,num,b,k,wv,M,H₀,rfl,_⟩:=h
  rfl
 obtain⟨o,dx,G,S,N,gs0,g,rows,p,rest,sp,num,b,k,wv,M,H₀,rfl,w0,hlk,hb,hkl,hrest,h⟩:=h
 refine⟨_,(au (bA (aU op_eq (qv 1) (aM (v:=.int 12) rfl Cg u_) `P) (au (bY (j_ PySem.F.plainAttrs_list PySem.F.slot_list_pop PySem.F.type_list_pop jx `Z))
   (aq aa8)) aX)
   (au (bA (aU op_eq (qv 1) (aM (v:=.int 9) rfl kj gC) `P) (au (Rg `Z (aM (v:=.int 14) rfl Mv xW) Nb (eX (qv 3) O.eF pL Ke hr pK .nil pass0) Hv set_list)
   (au (bY (cN PySem.F.plainAttrs_list PySem.F.slot_list_append PySem.F.type_list_append bW `Z (aj (jf oO iZ hr rfl qZ dI .nil pass0 (aj (aW (qv 3) rfl) ak)) ak)))
   (aq aa8))) aX)
   (au (Uk (qv 2) aP akz)
   (aq (bA (aU op_eq (qv 1) (aM (v:=.int 7) rfl o8 jw) `P) (aq (bY (cN PySem.F.plainAttrs_list PySem.F.slot_list_append PySem.F.type_list_append bW `Z (aj (jf oO iZ hr rfl qZ dI .nil pass0 (aj (aW (qv 3) rfl) ak)) ak)))) (aq (bA (aU op_eq (qv 1) (aM (v:=.int 8) rfl q_ lq) `P) (aq (bY (cN PySem.F.plainAttrs_list PySem.F.slot_list_append PySem.F.type_list_append bW `Z (aj (jf oO iZ hr rfl qZ dI .nil pass0 (aj (aW (qv 3) rfl) ak)) ak)))) (aq (bY (aH alG hr rfl akr alJ.kp alB .nil pass0 (aj (qv 1) (aj (aW (qv 3) rfl) (aj `Z ak))))))))))))),?_⟩
 have hgl:=w0.gos.length
 rw[List.length_reverse,List.length_cons,List.length_append,List.length_singleton]at hgl
 rcases h with⟨rfl,q⟩|⟨w',ws,bw,tx',s',kh,rfl,rfl,hbw,rdy,mv,bx',hz,q⟩
 ·refine⟨_,rfl,rfl,_,rfl,ite2 (fun _=>?_) (fun h=>absurd `B h)⟩
  have hgo:=w0.gos
  rw[List.reverse_cons]at hgo
  obtain⟨gs1,y,e1,hg0,_⟩:=aO.snoc hgo
  obtain⟨rfl,_⟩:=List.append_inj' e1 rfl
  refine⟨_,rfl,o,aF,dx,_,_,rfl,w0.ob,O.cQ,O.kg,lwG,.inl ⟨rfl,_,SqL.of w0.hG⟩,G,_,_,rfl,rfl,w0.hG,lA _ _,?_⟩
  rw[lB]
  exact q M _ ⟨dx,G,S,N,gs0,rows,w0.setG hg0 (List.nodup_append.mp w0.nd).1⟩
 have hw:=w0.gh.ok bw _ hbw
 have n12:¬k=12:=fun z=>by
  rcases mv with⟨h,_⟩|⟨h,_⟩|⟨h,_⟩|⟨h,_⟩<;>lia
 refine⟨_,rfl,rfl,_,rfl,ite2 (fun h=>absurd (by have:=V.int.inj (of_decide_eq_true h);lia) n12) (fun _=>?_)⟩
 dsimp only[tNext]
 rcases mv with⟨rfl,s8,rfl,rfl,rfl⟩|mv
 ·refine⟨_,rfl,rfl,_,rfl,ite2 (fun _=>?_) (fun h=>absurd `B h)⟩
  obtain⟨dw,v,y,n,bd,sz,hw1,tv,c7,c8,hs⟩:=hw
  refine⟨_,rfl,o,aF,dx,_,_,rfl,w0.ob,O.cQ,O.kn,lwN,N,_,_,_,rfl,rfl,SqL.of w0.hN,ac6 (k:=14) w0.n15 `A,_,rfl,bw,dw,_,rfl,hw1,apC `C `C `C `C `C `C,bw,w',M,H₀,rfl,w0.gh,hbw,hz,fun H1 G1=>⟨_,_,rfl,rfl,N,_,_,14,rfl,rfl,(w0.go G1).hN,R5 (j:=14) (by rw[List.length_map,w0.n15];lia),?_⟩⟩
  rw[Q6]
  have w1:=(w0.go G1).afN (kh:=num.set 14 (num.getD 14 0+(aL w').parts)) (by rw[List.length_set];exact w0.n15)
  generalize upd H1 N (.lst ((num.set 14 (num.getD 14 0+(aL w').parts)).map nv))=H2 at w1
  obtain⟨dw,v,y,n,bd,sz,hw1,tv,c7,c8,hs⟩:=w1.gh.ok bw _ hbw
  obtain⟨ab,rfl,htx⟩:=c8 s8
  refine⟨_,rfl,o,aF,dx,_,_,rfl,w1.ob,O.cQ,O.kg,lwG,.inl ⟨rfl,_,SqL.of w1.hG⟩,_,rfl,bw,aB,dw,_,_,rfl,hw1,O.eF,O.wb,ldB,fun gg dg hg hdg ne=>⟨gg,dg,ab,rfl,gQ,⟨rfl,G,gs0++[.ref g],_,rfl,rfl,?_,?_,?_⟩⟩⟩
  ·rw[jD]
   exact iG (C:=aJ) (fs:=fG ab 0) hg hdg ne _ _ w1.hG
  ·exact dY (by simp only[List.length_append,List.length_singleton];lia)
  rw[jD,<-(show mkO H2 gg dg aJ (fG ab 0)=upd (upd H2 dg (.own gg)) gg (.ins aJ dg (fG ab 0))from rfl)]
  obtain⟨k1,k2,k3⟩:=w1.newG htx (bx'.2 _ `G) hg hdg ne
  exact q _ _ ⟨dx,G,S,N,_,rows,k1.push k2 k3⟩
 have n9:¬k=9:=fun z=>by
  rcases mv with⟨h,_⟩|⟨h,_⟩|⟨h,_⟩<;>lia
 refine⟨_,rfl,rfl,_,rfl,ite2 (fun h=>absurd (by have:=V.int.inj (of_decide_eq_true h);lia) n9) (fun _=>?_)⟩
 dsimp only[tNext]
 obtain⟨dg,a,W,j,tt,wl,mg,hg,ma,hW,hj,hdr,hbt⟩:=rdy
 refine⟨_,rfl,g,aJ,dg,_,_,rfl,hg,O.Ir,O.gp,lgP,_,_,rfl,rfl,dg,_,hg,by show 2<1000;decide,?_⟩
 rw[show putF "place" (.int ((j:Int)+1)) (fG a j)=fG a (j+1)from pgP (q:=j+1)]
 have w1:=w0.onto mg hg ma hW hj hdr hbt
 generalize upd H g (.ins aJ dg (fG a (j+1)))=H1 at w1
 obtain⟨dw,v,y,n,bd,sz,hw1,tv,c7,c8,hs⟩:=w1.gh.ok bw _ hbw
 rcases mv with⟨rfl,s7,rfl,rfl,rfl⟩|⟨rfl,s7,rfl,rfl,rfl⟩|⟨hk,rfl,rfl,rfl⟩
 ·refine⟨_,rfl,rfl,_,rfl,ite2 (fun _=>?_) (fun h=>absurd `B h)⟩
  obtain⟨ay,an,rfl,rfl,hty,htn⟩:=c7 s7
  refine⟨_,rfl,o,aF,dx,_,_,rfl,w1.ob,O.cQ,O.kg,lwG,.inl ⟨rfl,_,SqL.of w1.hG⟩,_,rfl,bw,aB,dw,_,_,rfl,hw1,O.eF,O.wy,ldY,fun gg dg hg hdg ne=>⟨gg,dg,ay,rfl,gQ,⟨rfl,G,gs0++[.ref g],_,rfl,rfl,?_,?_,?_⟩⟩⟩
  ·rw[jD]
   exact iG (C:=aJ) (fs:=fG ay 0) hg hdg ne _ _ w1.hG
  ·exact dY (by simp only[List.length_append,List.length_singleton];lia)
  rw[jD,<-(show mkO H1 gg dg aJ (fG ay 0)=upd (upd H1 dg (.own gg)) gg (.ins aJ dg (fG ay 0))from rfl)]
  obtain⟨k1,k2,k3⟩:=w1.newG hty (bx'.2 _ `G) hg hdg ne
  exact q _ _ ⟨dx,G,S,N,_,rows,k1.push k2 k3⟩
 ·refine⟨_,rfl,rfl,_,rfl,ite2 (fun h=>absurd h `B) (fun _=>?_)⟩
  refine⟨_,rfl,rfl,_,rfl,ite2 (fun _=>?_) (fun h=>absurd `B h)⟩
  obtain⟨ay,an,rfl,rfl,hty,htn⟩:=c7 s7
  refine⟨_,rfl,o,aF,dx,_,_,rfl,w1.ob,O.cQ,O.kg,lwG,.inl ⟨rfl,_,SqL.of w1.hG⟩,_,rfl,bw,aB,dw,_,_,rfl,hw1,O.eF,O.wn,ldN,fun gg dg hg hdg ne=>⟨gg,dg,an,rfl,gQ,⟨rfl,G,gs0++[.ref g],_,rfl,rfl,?_,?_,?_⟩⟩⟩
  ·rw[jD]
   exact iG (C:=aJ) (fs:=fG an 0) hg hdg ne _ _ w1.hG
  ·exact dY (by simp only[List.length_append,List.length_singleton];lia)
  rw[jD,<-(show mkO H1 gg dg aJ (fG an 0)=upd (upd H1 dg (.own gg)) gg (.ins aJ dg (fG an 0))from rfl)]
  obtain⟨k1,k2,k3⟩:=w1.newG htn (bx'.2 _ `G) hg hdg ne
  exact q _ _ ⟨dx,G,S,N,_,rows,k1.push k2 k3⟩
 ·refine⟨_,rfl,rfl,_,rfl,ite2 (fun h=>absurd (show k=7 by have:=V.int.inj (of_decide_eq_true h);lia) `A) (fun _=>?_)⟩
  refine⟨_,rfl,rfl,_,rfl,ite2 (fun h=>absurd (show k=8 by have:=V.int.inj (of_decide_eq_true h);lia) `A) (fun _=>?_)⟩
  exact⟨_,rfl,_,rfl,bw,aB,dw,_,_,rfl,hw1,O.eF,O.wl,ldL,_,rfl,o,aF,dx,_,_,rfl,w1.ob,O.cQ,O.ks,lwS,k,v,S,aL w',sp,rows,M,H₀,rfl,w1.gh,w1.mS,w1.hS,w1.sts,tv,hlk,hb,hkl,fun M' H' rows' G' hS' hr'=>q M' H' ⟨dx,G,S,N,_,rows',w1.ajI G' hS' hr'⟩⟩
end
section
variable{P:Program}{w:World}{K:W.Frag}{mg:`Y}{base:Heap}{f:Addr}{fd:FuncData}{ao aA aB aG aJ aF:Addr}
theorem Xg(O:`j)(cY:mg "len"=none){uU:Value}(Cg:mg "SHUT"=some uU)(u_:RelV (.int 12) uU){mV:Value}(pX:mg "TWIN"=some mV)(lU:RelV (.int 2) mV){mW:Value}(qz:mg "COPIED"=some mW)(lK:RelV (.int 13) mW){uI:Addr}(RM:mg "LOOKS"=some (.ref uI))(Rj:∀H,SqT K H uI [`H,.int 1,.int 1,.int 2,.int 2,.int 1,.int 3,.int 1,.int 1,.int 1,.int 1,`H,`H])
  {Fb:Addr}{Eo:FuncData}(adu:Fun K "place_of" "place_of" jt Fb Eo)(adk:FnOk P w K mg base CX0 37 Fb Eo ["sort","top"] (aaW K ao aA aB aG))(ac2:Binds K Eo ["sort","top"] [])(acA:mg "place_of"=some (.ref Fb))
  {uG:Addr}{uy:FuncData}(T7:Fun K "parts_within" "parts_within" fX uG uy)(T3:FnOk P w K mg base CX0 37 uG uy ["row","most"] (V3 K ao aA aB aG))(Ti:Binds K uy ["row","most"] [])(RK:mg "parts_within"=some (.ref uG))
  {iI:Addr}{Cq:FuncData}(uK:Meth K aG "word_at" iI)(T6:FnOk P w K mg base CX0 37 iI Cq ["self","place"] (VJ K ao aA aB aG))(uF:Binds K Cq ["self","place"] [])
  {iw:Addr}{sY:FuncData}(lR:Meth K aF "top" iw)(wF:FnOk P w K mg base CX0 37 iw sY ["self"] (abU K ao aA aB aG aJ aF))(lN:Binds K sY ["self"] [])
  {mH:Addr}{Ko:FuncData}(Bo:Meth K aF "move" mH)(aaD:FnOk P w K mg base CX0 37 mH Ko ["self","step","going","word"] (adT K ao aA aB aG aJ aF))(Ba:Binds K Ko ["self","step","going","word"] [])
  (F:Fun K "step" "Walk.step" lZ f fd):FnOk P w K mg base CX0 38 f fd ["self"] (aaR K ao aA aB aG aJ aF):=by
 refine okQ F mZ `S `Q
 ·obtain⟨o,M,H₀,tx,sk,num,b,rfl,_⟩:=h
  rfl
 obtain⟨o,M,H₀,tx,sk,num,b,rfl,w0,hne,bx,bs,hnx,qf,qt⟩:=h
 refine⟨_,(au (aZ (i:=1) mZ.nd rfl `O (cW ix_list `Z (ql j4 aP) (fun _ _=>rfl)))
   (au (aZ (i:=2) mZ.nd rfl `O (ud (aW (qv 1) rfl) O.cText uK T6 hr uF .nil pass0 (aj (aW (qv 1) rfl) ak)))
   (au (aZ (i:=3) mZ.nd rfl `O (nU (aU W0 (qv 2) xZ `P) (aM (v:=.int 12) rfl Cg u_) (aH adk hr rfl acA adu.kp ac2 .nil pass0 (aj (aW (qv 2) rfl) (aj (eX (qv 0) O.cQ lR wF hr lN .nil pass0) ak)))))
   (au (aZ (i:=4) mZ.nd rfl `O (nU (aU op_eq (qv 3) (aM (v:=.int 2) rfl pX lU) `P) (aH T3 hr rfl RK T7.kp Ti .nil pass0 (aj (eX (qv 0) O.cQ lR wF hr lN .nil pass0) (aj `Z ak))) aP))
   (au (bA (aU Jx (qv 4) `Z `P) (aq (aQ Ox)) aX)
   (au (Uk (qv 0) (qv 4) akx)
   (au (Rg `Z (qv 3) Nb aP Hv set_list)
   (au (bA (aU op_eq (qv 3) (aM (v:=.int 2) rfl pX lU) `P) (aq (Rg `Z (aM (v:=.int 13) rfl qz lK) Nb (qv 4) Hv set_list)) aX)
   (au (tZ PassesOwn.never (aU ahI (cJ call_len_seq rfl cY kO (aj `Z ak)) (cW gY (aM (v:=.ref uI) rfl RM rfl) (qv 3) (fun _ _=>rfl)) `P) (aq (bY (cN PySem.F.plainAttrs_list PySem.F.slot_list_insert PySem.F.type_list_insert acs `Z (aj aP (aj (bB ak) ak))))))
   (au (bY (ud (qv 0) O.cQ Bo aaD hr Ba .nil pass0 (aj (qv 3) (aj (qv 1) (aj (qv 2) ak)))))
   (aq (aQ Ox)))))))))))),?_⟩
 obtain⟨dx,G,S,N,gs,rows,w0⟩:=w0
 obtain⟨p,rest,rfl⟩:∃p rest,tx=p::rest:=by
  cases tx with
  |nil=>exact absurd rfl hne
  |cons p rest=>exact⟨p,rest,rfl⟩
 have hgo:=w0.gos
 rw[List.reverse_cons]at hgo
 obtain⟨gs0,y,rfl,hg0,hgp⟩:=aO.snoc hgo
 obtain⟨g,dg,a,W,j,tt,rfl,mg,hg,ma,hjk,⟨wl,hW,hjw⟩,rfl,hbt⟩:=hgp
 have h12:=QL (tx:=`k) (s:=sk)
 have htl:tt.kids.length<=8000000:=by
  have h1:=hbt.2
  have h2:=T.eY tt
  have h3:=T.cM tt.kids
  lia
 have hsp:T.aN sk<=7999999:=by
  have h1:=bs.2
  rw[T.aR]at h1
  lia
 have hsl:=T.cM sk
 have asZ:rest.length+1<=8000000:=bx.1
 have bt0:=Qt bs 0
 refine lE (fun v=>[some (.ref o),some v,none,none,none]) (fun _=>rfl) (fun v H'=>v=.ref g/\H'=H) (fun R r=>⟨_,rfl,o,aF,dx,_,_,rfl,w0.ob,O.cQ,O.kg,lwG,1,rfl,G,_,_,_,rfl,rfl,SqL.of w0.hG,kY,r _ _ ⟨rfl,rfl⟩⟩) (fun v1 H1 h1=>?_)
 obtain⟨rfl,rfl⟩:=h1
 refine lE (fun v=>[some (.ref o),some (.ref g),some v,none,none]) (fun _=>rfl) (fun v H'=>∃M',WkX K ao aA aB aG aJ aF M' H₀ H' o dx G S N (gs0++[.ref g]) rows `k sk num b/\((v=.non/\tt.kids.drop j=[])\/∃w' ws' bw,v=.ref bw/\M' bw=some (.word w')/\Rdy aJ M' H' g w' ws'/\tt.kids.drop j=w'::ws')) (fun R r=>?_) (fun v2 H2 h2=>?_)
 ·obtain⟨da,va,ha,_,_⟩:=w0.gh.ok a _ ma
  refine⟨_,rfl,g,aJ,dg,_,_,rfl,hg,O.Ir,O.gt,lgT,a,da,_,rfl,ha,apB `C `C,_,rfl,g,aJ,dg,_,_,rfl,hg,O.Ir,O.gp,lgP,a,tt,W,j,M,H₀,wl,rfl,w0.gh,ma,hW,hjw,hjk,by have:=hbt.1;lia,htl,fun e=>r _ _ ⟨M,w0,.inl ⟨rfl,by rw[e];exact List.drop_length⟩⟩,fun w' ew bw M' H' G' hb' hl'=>?_⟩
  obtain⟨_,_,_,_,hMW⟩:=w0.gh.ok a _ ma
  obtain⟨wl',e1,e2⟩:=G'.wds W _ wl hMW hW
  exact r _ _ ⟨M',w0.go G',.inr ⟨w',tt.kids.drop (j+1),bw,rfl,hb',⟨dg,a,W,j,tt,wl',G'.ext _ _ mg,(G'.mine g mg id).trans hg,G'.ext _ _ ma,e1,hl' wl' e1,drop_cons ew,hbt⟩,drop_cons ew⟩⟩
 obtain⟨M2,w2,hv⟩:=h2
 refine lE (fun v=>[some (.ref o),some (.ref g),some v2,some v,none]) (fun _=>rfl) (fun v H'=>v=.int (stepT `k sk:Nat)/\Same H2 H') (fun R r=>?_) (fun v3 H3 h3=>?_)
 ·rcases hv with⟨rfl,he⟩|⟨w',ws',bw,rfl,hbw,rdy,he⟩
  ·refine⟨_,rfl,rfl,_,rfl,iteT (r _ _ ⟨?_,Same.refl _⟩)⟩
   rw[VG (show(ats `k 0).kids=[]from he)]
   rfl
  ·obtain⟨dw,v,y,n,bd,sz,hw1,tv,c7,c8,hs⟩:=w2.gh.ok bw _ hbw
   refine⟨_,rfl,rfl,_,rfl,iteF ⟨_,rfl,bw,aB,dw,_,_,rfl,hw1,O.eF,O.wk,ldK,_,rfl,o,dx,_,rfl,w2.ob,DP `C `C `C `C,o,M2,H₀,_,_,_,_,rfl,⟨dx,G,S,N,_,_,w2⟩,fun x H3 S3 hx=>⟨_,x,ats sk 0,M2,H₀,rfl,w2.gh.grow S3,hx,by have:=bt0.1;lia,fun H4 S4=>r _ _ ⟨?_,S3.trans S4⟩⟩⟩⟩
   rw[abS (show(T.node (tt.kids.drop j)).kids=w'::ws' from he)]
 obtain⟨rfl,S3⟩:=h3
 have w3:=w2.grow S3
 have hv3:(v2=.non/\tt.kids.drop j=[])\/∃w' ws' bw,v2=.ref bw/\M2 bw=some (.word w')/\Rdy aJ M2 H3 g w' ws'/\tt.kids.drop j=w'::ws':=by
  rcases hv with hv|⟨w',ws',bw,e1,e2,e3,e4⟩
  ·exact .inl hv
  ·exact .inr ⟨w',ws',bw,e1,e2,e3.go (.grow w2.gh S3:Go K ao aA aB aG (fun _=>False) M2 M2 H₀ H2 H3) id w2.gh,e4⟩
 refine lE (fun v=>[some (.ref o),some (.ref g),some v2,some (.int (stepT `k sk:Nat)),some v]) (fun _=>rfl) (fun v H'=>Same H3 H'/\∃c:Nat,v=.int (c:Int)/\(bD `k sk<=b->c=bD `k sk)/\(b<bD `k sk->b<c)) (fun R r=>?_) (fun v4 H4 h4=>?_)
 ·refine⟨_,rfl,rfl,_,rfl,ite2 (fun h=>?_) (fun h=>?_)⟩
  ·have h2:stepT `k sk=2:=by have:=V.int.inj (of_decide_eq_true h);lia
   have hc:bD `k sk=(ats sk 0).parts:=by unfold bD;rw[if_pos h2]
   refine⟨_,rfl,o,dx,_,rfl,w3.ob,DP `C `C `C `C,o,M2,H₀,_,_,_,_,rfl,⟨dx,G,S,N,_,_,w3⟩,fun x H4 S4 hx=>⟨_,rfl,o,aF,dx,_,_,rfl,(w3.grow S4).ob,O.cQ,O.kl,lwL,x,ats sk 0,M2,H₀,b,rfl,w3.gh.grow S4,hx,by have:=bt0.2;lia,fun c H5 S5 c1 c2=>r _ _ ⟨S4.trans S5,c,rfl,by rw[hc];exact c1,by rw[hc];exact c2⟩⟩⟩
  ·have h2:¬stepT `k sk=2:=fun z=>h (decide_eq_true (by rw[z];rfl))
   have hc:bD `k sk=1:=by unfold bD;rw[if_neg h2]
   exact r _ _ ⟨Same.refl _,1,rfl,fun _=>hc.symm,fun z=>by rw[hc]at z;exact z⟩
 obtain⟨S4,c,rfl,c1,c2⟩:=h4
 have w4:=w3.grow S4
 have hv4:(v2=.non/\tt.kids.drop j=[])\/∃w' ws' bw,v2=.ref bw/\M2 bw=some (.word w')/\Rdy aJ M2 H4 g w' ws'/\tt.kids.drop j=w'::ws':=by
  rcases hv3 with hv|⟨w',ws',bw,e1,e2,e3,e4⟩
  ·exact .inl hv
  ·exact .inr ⟨w',ws',bw,e1,e2,e3.go (.grow w3.gh S4:Go K ao aA aB aG (fun _=>False) M2 M2 H₀ H3 H4) id w3.gh,e4⟩
 refine⟨_,rfl,_,rfl,o,aF,dx,_,_,rfl,w4.ob,O.cQ,O.kl,lwL,_,_,rfl,rfl,_,rfl,ite2 (fun h=>?_) (fun h=>?_)⟩
 ·have hbc:b<c:=by have:=of_decide_eq_true h;lia
  have hb:b<bD `k sk:=by
   rcases Nat.lt_or_ge b (bD `k sk)with z|z
   ·exact z
   ·have:=c1 z;lia
  exact qf hb M2 H4 ⟨dx,G,S,N,_,_,w4⟩
 have hcb:c<=b:=by
  have:¬((b:Int)<(c:Int)):=fun z=>h (decide_eq_true z)
  lia
 have acI:bD `k sk<=b:=by
  rcases Nat.lt_or_ge b (bD `k sk)with z|z
  ·have:=c2 z;lia
  ·exact z
 have hc:=c1 acI
 obtain⟨bx2,bs2⟩:=hnx acI
 have q:=qt acI
 have agT:∀{Ma:Mp}{Ha:Hp}{kh:`F}{rows':`E}{s':`D}{b':Nat},WkX K ao aA aB aG aJ aF Ma H₀ Ha o dx G S N (gs0++[.ref g]) rows' `k s' kh b'->oU aJ Ma Ha (T.node (tt.kids.drop j)) (.ref g):=fun wa=>by
  have hgo:=wa.gos
  rw[List.reverse_cons]at hgo
  obtain⟨gs1,y,e1,_,hy⟩:=aO.snoc hgo
  have:=(List.append_inj' e1 rfl).2
  cases this
  exact hy
 dsimp only[tNext]
 refine⟨_,rfl,o,aF,dx,_,_,rfl,w4.ob,O.cQ,O.kl,lwL,_,rfl,_,_,rfl,rfl,dx,_,w4.ob,by show 4<1000;decide,?_⟩
 rw[show(V.int ((b:Int)-(c:Int)):V)=.int ((b-c:Nat):Int)by congr 1;lia,pwL]
 have w5:=w4.am7 (b-c)
 have G5:Go K ao aA aB aG (fun a=>a=o) M2 M2 H₀ H4 (upd H4 o (.ins aF dx (fW G S N (b-c)))):=Go.n8 (.refl w4.gh) w4.mo rfl (Kt.ins w4.ob)
 have ngo:¬g=o:=by
  obtain⟨g',_,_,_,_,_,e,_,h2,_⟩:=agT w4
  cases e
  intro z
  rw[z,w4.ob]at h2
  have h3:=(HO.ins.inj (Option.some.inj h2)).2.2
  exact absurd (congrArg List.length h3) (by simp[fG,fW])
 have hv5:(v2=.non/\tt.kids.drop j=[])\/∃w' ws' bw,v2=.ref bw/\M2 bw=some (.word w')/\Rdy aJ M2 (upd H4 o (.ins aF dx (fW G S N (b-c)))) g w' ws'/\tt.kids.drop j=w'::ws':=by
  rcases hv4 with hv|⟨w',ws',bw,e1,e2,e3,e4⟩
  ·exact .inl hv
  ·exact .inr ⟨w',ws',bw,e1,e2,e3.go G5 ngo w4.gh,e4⟩
 generalize upd H4 o (.ins aF dx (fW G S N (b-c)))=H5 at w5 hv5
 have mgg:M2 g=some .mine:=by
  obtain⟨g',_,_,_,_,_,e,h2,_⟩:=agT w4
  cases e
  exact h2
 have gnl:∀{Ha:Hp}{kh:`F}{rows':`E}{s':`D}{b':Nat}{q:Addr}{l:`E},WkX K ao aA aB aG aJ aF M2 H₀ Ha o dx G S N (gs0++[.ref g]) rows' `k s' kh b'->Ha q=some (.lst l)->¬g=q:=fun wa hq z=>by
  obtain⟨g',_,_,_,_,_,e,_,h2,_⟩:=agT wa
  cases e
  rw[z,hq]at h2
  cases h2
 generalize hK:stepT `k sk=k at*
 refine⟨_,rfl,o,aF,dx,_,_,rfl,w5.ob,O.cQ,O.kn,lwN,_,rfl,N,_,_,_,rfl,rfl,SqL.of w5.hN,ac6 (k:=k) w5.n15 `A,_,_,rfl,rfl,N,_,_,k,rfl,rfl,w5.hN,R5 (j:=k) (by rw[List.length_map,w5.n15];lia),?_⟩
 rw[show(V.int ((num.getD k 0:Int)+1):V)=V.int ((num.getD k 0:Int)+((1:Nat):Int))from rfl,Q6]
 have w6:=w5.afN (kh:=num.set k (num.getD k 0+1)) (by rw[List.length_set];exact w5.n15)
 have G6:Go K ao aA aB aG (fun a=>a=N) M2 M2 H₀ H5 (upd H5 N (.lst ((num.set k (num.getD k 0+1)).map nv))):=.list w5.gh w5.mN w5.hN
 have hv6:(v2=.non/\tt.kids.drop j=[])\/∃w' ws' bw,v2=.ref bw/\M2 bw=some (.word w')/\Rdy aJ M2 (upd H5 N (.lst ((num.set k (num.getD k 0+1)).map nv))) g w' ws'/\tt.kids.drop j=w'::ws':=by
  rcases hv5 with hv|⟨w',ws',bw,e1,e2,e3,e4⟩
  ·exact .inl hv
  ·exact .inr ⟨w',ws',bw,e1,e2,e3.go G6 (gnl w5 w5.hN) w5.gh,e4⟩
 generalize upd H5 N (.lst ((num.set k (num.getD k 0+1)).map nv))=H6 at w6 hv6
 dsimp only
 refine acH (fun σ' H'=>σ'=[some (.ref o),some (.ref g),some v2,some (.int (k:Int)),some (.int (c:Int))]/\WkX K ao aA aB aG aJ aF M2 H₀ H' o dx G S N (gs0++[.ref g]) rows `k sk (Dy k c num) (b-c)/\((v2=.non/\tt.kids.drop j=[])\/∃w' ws' bw,v2=.ref bw/\M2 bw=some (.word w')/\Rdy aJ M2 H' g w' ws'/\tt.kids.drop j=w'::ws')) (fun σ' H7 h7=>?_) (fun A' B' hA hB=>⟨_,rfl,rfl,_,rfl,ite2 (fun h=>hA _ fun N' hN'=>?_) (fun h=>hB _ ⟨rfl,?_,hv6⟩)⟩)
 rotate_left
 ·have h2:k=2:=by have:=V.int.inj (of_decide_eq_true h);lia
  subst h2
  refine⟨_,rfl,o,aF,dx,_,_,rfl,w6.ob,O.cQ,O.kn,lwN,N,_,_,_,rfl,rfl,SqL.of w6.hN,ac6 (k:=13) w6.n15 `A,_,rfl,_,_,rfl,rfl,N,_,_,13,rfl,rfl,w6.hN,R5 (j:=13) (by rw[List.length_map,w6.n15];lia),?_⟩
  rw[Q6]
  have w7:=w6.afN (kh:=(num.set 2 (num.getD 2 0+1)).set 13 ((num.set 2 (num.getD 2 0+1)).getD 13 0+c)) (by rw[List.length_set];exact w6.n15)
  have G7:Go K ao aA aB aG (fun a=>a=N) M2 M2 H₀ H6 (upd H6 N (.lst (((num.set 2 (num.getD 2 0+1)).set 13 ((num.set 2 (num.getD 2 0+1)).getD 13 0+c)).map nv))):=.list w6.gh w6.mN w6.hN
  refine hN' _ _ ⟨rfl,by unfold Dy;rw[if_pos rfl];exact w7,?_⟩
  rcases hv6 with hv|⟨w',ws',bw,e1,e2,e3,e4⟩
  ·exact .inl hv
  ·exact .inr ⟨w',ws',bw,e1,e2,e3.go G7 (gnl w6 w6.hN) w6.gh,e4⟩
 ·have h2:¬k=2:=fun z=>h (decide_eq_true (by rw[z];rfl))
  unfold Dy
  rw[if_neg h2]
  exact w6
 obtain⟨rfl,w7,hv7⟩:=h7
 have lk3:=XJ k
 refine⟨fun μ σ H'=>∃(i:Nat)(rows':`E),σ=[some (.ref o),some (.ref g),some v2,some (.int (k:Int)),some (.int (c:Int))]/\WkX K ao aA aB aG aJ aF M2 H₀ H' o dx G S N (gs0++[.ref g]) rows' `k (sk++List.replicate i leaf) (Dy k c num) (b-c)/\((v2=.non/\tt.kids.drop j=[])\/∃w' ws' bw,v2=.ref bw/\M2 bw=some (.word w')/\Rdy aJ M2 H' g w' ws'/\tt.kids.drop j=w'::ws')/\sk.length+i<=max (looks k) sk.length/\μ=3-i,⟨_,0,rows,rfl,by rw[List.replicate_zero,List.append_nil];exact w7,hv7,`A,rfl⟩,?_⟩
 rintro μ σ H8⟨i,rows',rfl,w8,hv8,hi,rfl⟩
 have hrl:=w8.sts.length
 rw[List.length_reverse,List.length_append,List.length_replicate]at hrl
 refine⟨_,rfl,o,aF,dx,_,_,rfl,w8.ob,O.cQ,O.ks,lwS,S,rows',rfl,.inl (SqL.of w8.hS),_,rfl,uI,_,_,_,rfl,rfl,Rj _,agF h12,_,_,rfl,rfl,_,rfl,ite2 (fun h=>?_) (fun h=>?_)⟩
 ·have hlt:rows'.length<looks k:=by have:=of_decide_eq_true h;lia
  refine⟨fun σ' H'=>∃m',m'<3-i/\∃(i:Nat)(rows':`E),σ'=[some (.ref o),some (.ref g),some v2,some (.int (k:Int)),some (.int (c:Int))]/\WkX K ao aA aB aG aJ aF M2 H₀ H' o dx G S N (gs0++[.ref g]) rows' `k (sk++List.replicate i leaf) (Dy k c num) (b-c)/\((v2=.non/\tt.kids.drop j=[])\/∃w' ws' bw,v2=.ref bw/\M2 bw=some (.word w')/\Rdy aJ M2 H' g w' ws'/\tt.kids.drop j=w'::ws')/\sk.length+i<=max (looks k) sk.length/\m'=3-i,fun _ _ h=>h,?_⟩
  refine⟨_,rfl,o,aF,dx,_,_,rfl,w8.ob,O.cQ,O.ks,lwS,.inl ⟨rfl,_,SqL.of w8.hS⟩,`W,fun p9 g9=>?_⟩
  obtain⟨S9,t9⟩:=dJ (K:=K) (ts:=[]) g9 (bH.mpr rfl)
  have w9:=w8.grow S9
  have hS9:=w9.hS
  refine⟨S,rows',_,rfl,rfl,hS9,dY `A,?_⟩
  have Gx:Go K ao aA aB aG (fun a=>a=S) M2 M2 H₀ (upd H8 p9 (.tup [])) (upd (upd H8 p9 (.tup [])) S (.lst (.ref p9::rows'))):=.list w9.gh w9.mS hS9
  have w10:=w9.ajI (s':=sk++List.replicate (i+1) leaf) Gx upd_same (by
   rw[List.replicate_succ',<-List.append_assoc,List.reverse_append]
   exact aO.cons (.inl (t9.mono (Kt.lst hS9))) (w9.sts.imp fun _ _ z=>Gx.rv z))
  refine⟨_,?_,i+1,_,rfl,w10,?_,`A,rfl⟩
  ·lia
  ·rcases hv8 with hv|⟨w',ws',bw,e1,e2,e3,e4⟩
   ·exact .inl hv
   ·exact .inr ⟨w',ws',bw,e1,e2,(e3.go (.grow w8.gh S9:Go K ao aA aB aG (fun _=>False) M2 M2 H₀ H8 _) id w8.gh).go Gx (gnl w9 hS9) w9.gh,e4⟩
 have hge:looks k<=rows'.length:=by
  have:¬((rows'.length:Int)<((looks k:Nat):Int)):=fun z=>h (decide_eq_true z)
  lia
 have aqp:sk++List.replicate i leaf=pad sk (looks k):=aj7 hi `A
 rw[aqp]at w8
 have hpl:looks k<=(pad sk (looks k)).length:=Jw sk (looks k)
 have hB:=(amg (looks k) `A `A bs).le (a':=395) (b':=8000010) `A `A
 have hkd:∀t∈pad sk (looks k),t.kids.length<=8000000:=aiB (aiW `A)
 refine⟨_,rfl,o,dx,_,rfl,w8.ob,DP `C `C `C `C,_,rfl,_,rfl,_,rfl,o,dx,G,S,N,gs0,g,rows',_,rest,pad sk (looks k),Dy k c num,b-c,k,v2,M2,H₀,rfl,w8,hpl,hB,hkd,`A,?_⟩
 rw[<-hc]at q
 rcases hv8 with⟨rfl,he⟩|⟨w',ws',bw,rfl,hbw,rdy,he⟩
 ·have akF:k=12:=by rw[<-hK];exact VG (show(ats `k 0).kids=[]from he)
  refine .inl ⟨akF,fun M' H' wf=>q M' H' ?_⟩
  have on:=aej (s:=sk) (show(ats `k 0).kids=[]from he)
  rw[on,wY w0.n15 (by rw[hK];lia),hK,<-hc]
  rw[akF]at wf|-
  rw[show pad sk (looks 12)=sk from aei `W]at wf
  exact wf
 ·have mv:=al7 (p:=T.node (tt.kids.drop j)) (rest:=rest) (s:=sk) (num:=num) (congrArg T.node he) w0.n15
  rw[hK,<-hc]at mv
  have hlp:(aL w').parts<=8000000:=by
   have h1:=hbt.2
   have h2:=T.eY tt
   have h3:=T.Lw j tt.kids
   rw[he,T.aK]at h3
   have h4:=Pu w'
   lia
  exact .inr ⟨w',ws',bw,_,_,_,congrArg T.node he,rfl,hbw,rdy,mv,bx2,hlp,fun M' H' wf=>q M' H' wf⟩
end
section
variable{P:Program}{w:World}{K:W.Frag}{mg:`Y}{base:Heap}{f:Addr}{fd:FuncData}{ao aA aB aG aJ aF:Addr}
theorem ael(O:`j)
  (Xz:mg "Walk"=some (.ref aF))
  {gU:Addr}{zE:FuncData}(TY:Mk K aF gU)(Qm:FnOk P w K mg base CX0 37 gU zE ["self","stand","budget"] (VL K ao aA aB aG aJ aF))(tL:Binds K zE ["self","stand","budget"] [])
  {mF:Addr}{Km:FuncData}(Bm:Meth K aF "step" mF)(aaC:FnOk P w K mg base CX0 38 mF Km ["self"] (aaR K ao aA aB aG aJ aF))(A_:Binds K Km ["self"] [])
  {dX:Addr}{lX:FuncData}(jk:Meth K aF "at_end" dX)(vU:FnOk P w K mg base CX0 38 dX lX ["self"] (QX K ao aA aB aG aJ aF))(jj:Binds K lX ["self"] [])
  (F:Fun K "walked" "walked" ni f fd):FnOk P w K mg base CX0 39 f fd ["stand","budget"] (K1 K ao aA aB aG aJ aF):=by
 refine okQ F Ui `S `Q
 ·obtain⟨x,tx,sk,b,rfl,_⟩:=h
  rfl
 obtain⟨x,tx,sk,b,rfl,hx,hsn,q⟩:=h
 refine⟨_,(au (aZ (i:=2) Ui.nd rfl `O (jf TY Qm hr rfl Xz tL .nil pass0 (aj (qv 0) (aj (qv 1) ak))))
   (au (tZ PassesOwn.never (QW.pt (Ov (Wx (fU (eX (qv 2) O.cQ jk vU hr jj .nil pass0))) (Jv (fU (eX (qv 2) O.cQ Bm aaC hr A_ .nil pass0))))) (aq aif))
   (aq (aQ (qv 2))))),?_⟩
 refine lE (fun v=>[some x,some (.int (b:Int)),some v]) (fun _=>rfl) (fun v H'=>∃o M,v=.ref o/\Wk K ao aA aB aG aJ aF M H H' o tx sk fQ b) (fun R r=>⟨_,rfl,_,rfl,fun o dx ho hd ne=>⟨o,dx,x,tx,sk,b,setM (fun _=>none) o .mine,H,rfl,(Go.made (X:=fun _=>False) (C:=aF) (fs:=[]) (Gh.nil H) ho hd ne).gh,dD,gQ,hx.mono (.of (iG (C:=aF) (fs:=[]) ho hd ne)),hsn.bx,hsn.bs,fun M' H' wf=>⟨rfl,r _ _ ⟨o,M',rfl,wf⟩⟩⟩⟩) (fun v1 H1 h1=>?_)
 obtain⟨o,M1,rfl,w1⟩:=h1
 refine⟨fun μ σ H'=>∃(M:Mp)(tx' s':`D)(num:`F)(b':Nat),σ=[some x,some (.int (b:Int)),some (.ref o)]/\Wk K ao aA aB aG aJ aF M H H' o tx' s' num b'/\Sane b' tx' s'/\num.length=15/\goT b tx sk=((goT b' tx' s').1,(goT b' tx' s').2.1,eG num (goT b' tx' s').2.2)/\spT b tx sk+b'=b+spT b' tx' s'/\μ=b'+1,⟨_,M1,tx,sk,fQ,b,rfl,w1,hsn,rfl,by rw[ae3 (X6 _ _ _)],Nat.add_comm _ _,rfl⟩,?_⟩
 rintro μ σ H2⟨M,tx',s',num,b',rfl,w2,hs2,hn2,hgo,hsp,rfl⟩
 have stop:(tx'=[]\/b'<bD tx' s')->∀M' H',Wk K ao aA aB aG aJ aF M' H H' o tx' s' num b'->Q (.ref o) H':=fun hst M' H' wf=>by
  refine q o M' H' b' ?_
  rw[wW hst,aaO hst]at*
  rw[hgo]
  show Wk _ _ _ _ _ _ _ _ _ _ _ tx' s' (eG num fQ) b'
  rw[ac8 hn2]
  exact wf
 refine⟨_,rfl,o,?_⟩
 obtain⟨dx,G,S,N,gs,rows,wx⟩:=id w2
 refine⟨dx,_,rfl,wx.ob,DP `C `C `C `C,o,M,H,tx',s',num,b',rfl,w2,_,rfl,?_⟩
 by_cases he:tx'=[]
 ·rw[decide_eq_true he]
  refine iteF (iteF ⟨_,rfl,stop (.inl he) M H2 w2⟩)
 rw[decide_eq_false he]
 refine iteT ⟨_,rfl,o,dx,_,rfl,wx.ob,DP `C `C `C `C,o,M,H,tx',s',num,b',rfl,w2,he,hs2.bx,hs2.bs,fun hc=>⟨(hs2.next he hc).bx,(hs2.next he hc).bs⟩,fun hc M' H' wf=>⟨_,rfl,iteF ⟨_,rfl,stop (.inr hc) M' H' wf⟩⟩,fun hc M' H' wf=>⟨_,rfl,iteT ?_⟩⟩
 have hcp:=yJ tx' s'
 refine⟨fun σ' H''=>σ'=[some x,some (.int (b:Int)),some (.ref o)]/\H''=H',fun σ' H'' h=>⟨b'-bD tx' s'+1,`A,?_⟩,rfl,rfl⟩
 obtain⟨rfl,rfl⟩:=h
 refine⟨M',_,_,_,_,rfl,wf,hs2.next he hc,Y0 hn2 (Yc _ _),?_,?_,rfl⟩
 ·rw[hgo,wX he hc]
  show(_,_,eG num (eG _ _))=(_,_,eG (eG num _) _)
  rw[ac9]
 ·rw[aaP he hc]at hsp
  lia
end
section
variable{P:Program}{w:World}{K:W.Frag}{mg:`Y}{base:Heap}{f:Addr}{fd:FuncData}{ao aA aB aG aJ aF:Addr}
theorem agr
  (F:Fun K "begin" "begin" qR f fd):FnOk P w K mg base CX0 31 f fd ["text","tree"] (QV K):=by
 refine okQ F afU `S `Q
 ·obtain⟨x,t,y,u,rfl,_⟩:=h
  rfl
 obtain⟨x,t,y,u,rfl,hx,hy,q⟩:=h
 refine⟨_,(aq (aQ (bB (aj (bB (aj (qv 0) ak)) (aj (bB (aj (qv 1) ak)) ak))))),?_⟩
 refine⟨_,rfl,`e,fun p1 g1=>⟨_,rfl,`e,fun p2 g2=>⟨(by show 2<=sizeLine;decide),fun p3 g3=>?_⟩⟩⟩
 obtain⟨S1,t1⟩:=dJ (K:=K) g1 (jE hx)
 obtain⟨S2,t2⟩:=dJ (K:=K) g2 (jE (hy.mono (.of S1)))
 obtain⟨S3,t3⟩:=dJ (K:=K) g3 (afx (t1.mono (.of S2)) t2)
 exact q _ _ (S1.trans (S2.trans S3)) t3
theorem ok_put{qP:Value}(wQ:mg "FRONT"=some qP)(qU:RelV (.int 4) qP)
  {kZ:Addr}{kJ:FuncData}(CJ:Fun K "plain" "plain" oV kZ kJ)(Cz:FnOk P w K mg base CX0 32 kZ kJ ["sort"] (Js K))(Cu:Binds K kJ ["sort"] [])(Cd:mg "plain"=some (.ref kZ))
  {iu:Addr}{h_:FuncData}(wG:Fun K "lay" "lay" rQ iu h_)(wD:FnOk P w K mg base CX0 32 iu h_ ["tree"] (Jt K))(wz:Binds K h_ ["tree"] [])(v9:mg "lay"=some (.ref iu))
  (F:Fun K "put" "put" Dk f fd):FnOk P w K mg base CX0 33 f fd ["text","tree"] (ahz K):=by
 refine okQ F ajJ `S `Q
 ·obtain⟨x,p,y,d,rfl,_⟩:=h
  rfl
 obtain⟨x,p,y,d,rfl,hx,hy,hp,hd,q⟩:=h
 refine⟨_,(aq (aQ (aV bO (bB (aj (aH wD hr rfl v9 wG.kp wz .nil pass0 (aj (qv 1) ak)) (aj (aH Cz hr rfl Cd CJ.kp Cu .nil pass0 (aj (aM (v:=.int 4) rfl wQ qU) ak)) ak))) (qv 0)))),?_⟩
 have hpl:=hp.len
 refine⟨_,rfl,y,d,rfl,hy,by have:=hd.1;lia,by have:=hd.2;lia,fun z1 H1 S1 t1=>?_⟩
 refine⟨4,rfl,`A,`A,fun z2 H2 S2 t2=>⟨(by show 2<=sizeLine;decide),fun p3 g3=>?_⟩⟩
 obtain⟨S3,t3⟩:=dJ (K:=K) g3 (afx (t1.mono (.of S2)) t2)
 have S13:=S1.trans (S2.trans S3)
 refine⟨_,rfl,cU t3 (hx.mono (.of S13)) (xO (by show 2+_<=_;lia)) (fun z4 H4 S4 t4=>q _ _ (S13.trans S4) t4)⟩
theorem akc(O:`j)
  {qN:Addr}{qJ:FuncData}(Oe:Fun K "walked" "walked" ni qN qJ)(Oc:FnOk P w K mg base CX0 39 qN qJ ["stand","budget"] (K1 K ao aA aB aG aJ aF))(NQ:Binds K qJ ["stand","budget"] [])(Ms:mg "walked"=some (.ref qN))
  {uH:Addr}{uz:FuncData}(T9:Fun K "begin" "begin" qR uH uz)(T5:FnOk P w K mg base CX0 39 uH uz ["text","tree"] (QV K))(Tj:Binds K uz ["text","tree"] [])(RL:mg "begin"=some (.ref uH))
  {yU:Addr}{yG:FuncData}(Zj:Fun K "cost" "cost" u6 yU yG)(Ze:FnOk P w K mg base CX0 39 yU yG ["tally"] (V_ K))(YT:Binds K yG ["tally"] [])(Xx:mg "cost"=some (.ref yU))
  {Je:Addr}{Ih:FuncData}(afp:Fun K "as_tree" "as_tree" nQ Je Ih)(afd:FnOk P w K mg base CX0 39 Je Ih ["row"] (Wa K ao aA aB aG))(aeZ:Binds K Ih ["row"] [])(aeF:mg "as_tree"=some (.ref Je))
  {fB:Addr}{oG:FuncData}(k_:Meth K aF "tally" fB)(yX:FnOk P w K mg base CX0 39 fB oG ["self"] (QM K ao aA aB aG aJ aF))(kW:Binds K oG ["self"] [])
  {dX:Addr}{lX:FuncData}(jk:Meth K aF "at_end" dX)(vU:FnOk P w K mg base CX0 39 dX lX ["self"] (QX K ao aA aB aG aJ aF))(jj:Binds K lX ["self"] [])
  {iw:Addr}{sY:FuncData}(lR:Meth K aF "top" iw)(wF:FnOk P w K mg base CX0 39 iw sY ["self"] (abU K ao aA aB aG aJ aF))(lN:Binds K sY ["self"] [])
  (F:Fun K "run" "run" Dj f fd):FnOk P w K mg base CX0 40 f fd ["text","tree","budget"] (ahy K):=by
 refine okQ F Wj `S `Q
 ·obtain⟨x,y,t,u,b,rfl,_⟩:=h
  rfl
 obtain⟨x,y,t,u,b,rfl,hx,hy,hsn,q⟩:=h
 refine⟨_,(au (aZ (i:=3) Wj.nd rfl `O (aH Oc hr rfl Ms Oe.kp NQ .nil pass0 (aj (aH T5 hr rfl RL T9.kp Tj .nil pass0 (aj (qv 0) (aj (qv 1) ak))) (aj (qv 2) ak))))
   (au (aZ (i:=4) Wj.nd rfl `O (aH Ze hr rfl Xx Zj.kp YT .nil pass0 (aj (eX (qv 3) O.cQ k_ yX hr kW .nil pass0) ak)))
   (au (bA (fU (eX (qv 3) O.cQ jk vU hr jj .nil pass0)) (aq (aQ (bB (aj bM (aj (aH afd hr rfl aeF afp.kp aeZ .nil pass0 (aj (eX (qv 3) O.cQ lR wF hr lN .nil pass0) ak)) (aj (qv 4) ak)))))) aX)
   (aq (aQ (bB (aj bM (aj (bB ak) (aj (qv 4) ak))))))))),?_⟩
 refine lE (fun v=>[some x,some y,some (.int (b:Int)),some v,none]) (fun _=>rfl) (fun v H'=>∃o M b' H0,v=.ref o/\Same H H0/\Wk K ao aA aB aG aJ aF M H0 H' o (goT b [t] [u]).1 (goT b [t] [u]).2.1 (goT b [t] [u]).2.2 b') (fun R r=>⟨_,rfl,_,rfl,x,t,y,u,rfl,hx,hy,fun z H1 S1 tz=>⟨_,rfl,z,[t],[u],b,rfl,tz,hsn,fun o M' H' b' wf=>r _ _ ⟨o,M',b',H1,rfl,S1,wf⟩⟩⟩) (fun v1 H1 h1=>?_)
 obtain⟨o,M1,b1,H0,rfl,S0,w1⟩:=h1
 obtain⟨dx,G,S,N,gs,rows,wx⟩:=id w1
 obtain⟨bl,sl⟩:=Sane.last b [t] [u] hsn
 have aqs:=X6 b [t] [u]
 refine lE (fun v=>[some x,some y,some (.int (b:Int)),some (.ref o),some v]) (fun _=>rfl) (fun v H'=>Same H1 H'/\v=nv (spT b [t] [u])) (fun R r=>⟨_,rfl,o,dx,_,rfl,wx.ob,DP `C `C `C `C,o,M1,H0,_,_,_,_,rfl,w1,fun c H2 S2 hc=>⟨c,_,rfl,hc,aqs,fun H3 S3=>r _ _ ⟨S2.trans S3,by rw[ai0]⟩⟩⟩) (fun v2 H2 h2=>?_)
 obtain⟨S2,rfl⟩:=h2
 have w2:=wx.grow S2
 have e1:decide ((goT b [t] [u]).1=[])=true\/decide ((goT b [t] [u]).1=[])=false:=by cases decide ((goT b [t] [u]).1=[])<;>simp
 refine⟨_,rfl,o,dx,_,rfl,w2.ob,DP `C `C `C `C,o,M1,H0,_,_,_,_,rfl,⟨dx,G,S,N,gs,rows,w2⟩,_,rfl,ite2 (fun he=>?_) (fun he=>?_)⟩
 ·have he:=of_decide_eq_true he
  have hp:(ats (goT b [t] [u]).2.1 0).parts<=8000000:=(Qt sl 0).2
  refine⟨_,rfl,o,dx,_,rfl,w2.ob,DP `C `C `C `C,o,M1,H0,_,_,_,_,rfl,⟨dx,G,S,N,gs,rows,w2⟩,fun x3 H3 S3 hx3=>⟨x3,_,M1,H0,rfl,w2.gh.grow S3,hx3,hp,fun y4 H4 S4 t4=>⟨_,rfl,(by show 3<=sizeLine;decide),fun p5 g5=>?_⟩⟩⟩
  have S5:=same_new g5 (.tup [.str (PySem.Str.ofString "told"),y4,nv (spT b [t] [u])])
  refine q p5 y4 _ (S0.trans (wx.gh.same.trans (S2.trans (S3.trans (S4.trans S5))))) (SqT.of (upd_same.trans ?_)) ?_
  ·unfold Vm
   rw[if_pos he]
   rfl
  ·unfold Vn
   rw[if_pos he]
   exact t4.mono (.of S5)
 ·have he:¬(goT b [t] [u]).1=[]:=fun z=>he (decide_eq_true z)
  refine⟨`W,fun p4 g4=>⟨_,rfl,(by show 3<=sizeLine;decide),fun p5 g5=>?_⟩⟩
  obtain⟨S4,t4⟩:=dJ (K:=K) (ts:=[]) g4 (bH.mpr rfl)
  have S5:=same_new g5 (.tup [.str (PySem.Str.ofString "out"),.ref p4,nv (spT b [t] [u])])
  refine q p5 (.ref p4) _ (S0.trans (wx.gh.same.trans (S2.trans (S4.trans S5)))) (SqT.of (upd_same.trans ?_)) ?_
  ·unfold Vm
   rw[if_neg he]
   rfl
  ·unfold Vn
   rw[if_neg he]
   exact t4.mono (.of S5)
theorem ZK(O:`j)
  {qN:Addr}{qJ:FuncData}(Oe:Fun K "walked" "walked" ni qN qJ)(Oc:FnOk P w K mg base CX0 39 qN qJ ["stand","budget"] (K1 K ao aA aB aG aJ aF))(NQ:Binds K qJ ["stand","budget"] [])(Ms:mg "walked"=some (.ref qN))
  {uH:Addr}{uz:FuncData}(T9:Fun K "begin" "begin" qR uH uz)(T5:FnOk P w K mg base CX0 39 uH uz ["text","tree"] (QV K))(Tj:Binds K uz ["text","tree"] [])(RL:mg "begin"=some (.ref uH))
  {fB:Addr}{oG:FuncData}(k_:Meth K aF "tally" fB)(yX:FnOk P w K mg base CX0 39 fB oG ["self"] (QM K ao aA aB aG aJ aF))(kW:Binds K oG ["self"] [])
  (F:Fun K "tally_of" "tally_of" lF f fd):FnOk P w K mg base CX0 40 f fd ["text","tree","budget"] (Uc K):=by
 refine okQ F Zr `S `Q
 ·obtain⟨x,y,t,u,b,rfl,_⟩:=h
  rfl
 obtain⟨x,y,t,u,b,rfl,hx,hy,hsn,q⟩:=h
 refine⟨_,(aq (aQ (eX (aH Oc hr rfl Ms Oe.kp NQ .nil pass0 (aj (aH T5 hr rfl RL T9.kp Tj .nil pass0 (aj (qv 0) (aj (qv 1) ak))) (aj (qv 2) ak))) O.cQ k_ yX hr kW .nil pass0))),?_⟩
 refine⟨_,rfl,_,rfl,x,t,y,u,rfl,hx,hy,fun z H1 S1 tz=>⟨_,rfl,z,[t],[u],b,rfl,tz,hsn,fun o M' H' b' wf=>?_⟩⟩
 obtain⟨dx,G,S,N,gs,rows,wx⟩:=id wf
 exact⟨o,dx,_,rfl,wx.ob,DP `C `C `C `C,o,M',H1,_,_,_,_,rfl,wf,fun c H2 S2 hc=>q c _ (S1.trans (wx.gh.same.trans S2)) hc⟩
end
section
variable{P:Program}{w:World}{K:W.Frag}{mg:`Y}{base:Heap}{f:Addr}{fd:FuncData}
theorem agp
  (F:Fun K "first" "first" jd f fd):FnOk P w K mg base CX0 31 f fd ["tree"] (wK K):=by
 refine okQ F afS `S `Q
 ·obtain⟨x,t,rfl,_⟩:=h
  rfl
 obtain⟨x,t,rfl,ht,hd,q⟩:=h
 have hE:=hr.un
 have hE:(A.deeper (envOfC "first" (defScope jd) s.heap.objs.size f cdv)).units+401<cLine:=`A
 refine⟨_,(au (bA (aU (B_ hE) (qv 0) (bB ak) `P) (aq (aQ (bB ak))) aX)
   (aq (aQ (cW gY (qv 0) aP (fun _ _=>rfl))))),?_⟩
 refine⟨_,rfl,`W,fun p1 g1=>⟨t,leaf,ht.mono (.new g1),rA upd_same,`A,_,rfl,ite2 (fun hb=>?_) (fun hb=>?_)⟩⟩
 ·have e:=(T.beq_iff _ _).mp hb
  rw[e]at q
  exact⟨`W,fun p2 g2=>q _ _ ((same_new g1 _).trans (same_new g2 _)) (rA upd_same)⟩
 ·cases t with
  |node ts=>
   cases ts with
   |nil=>exact absurd ((T.beq_iff _ _).mpr rfl) hb
   |cons u us=>exact⟨_,rfl,apz (ht.mono (.new g1)) 0 rfl (fun z tz=>q _ _ (same_new g1 _) tz)⟩
theorem aiG
  (F:Fun K "rest" "rest" rP f fd):FnOk P w K mg base CX0 31 f fd ["tree"] (uY K):=by
 refine okQ F ah3 `S `Q
 ·obtain⟨x,t,rfl,_⟩:=h
  rfl
 obtain⟨x,t,rfl,ht,q⟩:=h
 refine⟨_,(aq (aQ (lM Bx (qv 0) (j9 aP) uc))),?_⟩
 cases t with
 |node ts=>exact⟨_,rfl,1,rfl,akq ht 1 (fun z H' S tz=>q z H' S tz)⟩
theorem ace(JC:mg "min"=none)(cY:mg "len"=none){eN:Value}(g_:mg "NAMELESS"=some eN)(eV:RelV (.int 9) eN)
  {dO:Addr}{dN:FuncData}(pF:Fun K "first" "first" jd dO dN)(pD:FnOk P w K mg base CX0 31 dO dN ["tree"] (wK K))(o_:Binds K dN ["tree"] [])(o7:mg "first"=some (.ref dO))
  (F:Fun K "sort_of" "sort_of" jr f fd):FnOk P w K mg base CX0 32 f fd ["word"] (Jr K):=by
 refine okQ F abX `S `Q
 ·obtain⟨x,t,rfl,_⟩:=h
  rfl
 obtain⟨x,t,rfl,ht,h1,q⟩:=h
 refine⟨_,(aq (aQ (cJ (UJ rfl) rfl JC aeO (aj (cJ call_len_seq rfl cY kO (aj (aH pD hr rfl o7 pF.kp o_ .nil pass0 (aj (qv 0) ak)) ak)) (aj (aM (v:=.int 9) rfl g_ eV) ak))))),?_⟩
 refine⟨_,rfl,x,t,rfl,ht,h1,fun y H1 S1 t1=>?_⟩
 obtain⟨b,ys,rfl,hb',rb⟩:=cB.mp (mJ t1)
 refine⟨b,ys,rfl,.inr hb',_,_,rfl,?_⟩
 rw[rb.length,show(if(9:Int)<((ats t.kids 0).kids.length:Int)then(9:Int)else((ats t.kids 0).kids.length:Int))=((aD t:Nat):Int)by rw[afI];split<;>lia]
 exact q _ S1
theorem ach
  {oM:Addr}{oF:FuncData}(Jk:Fun K "rest" "rest" rP oM oF)(Ji:FnOk P w K mg base CX0 31 oM oF ["tree"] (uY K))(Iu:Binds K oF ["tree"] [])(Ho:mg "rest"=some (.ref oM))
  (F:Fun K "load_of" "load_of" ju f fd):FnOk P w K mg base CX0 32 f fd ["word"] (uY K):=by
 refine okQ F abZ `S `Q
 ·obtain⟨x,t,rfl,_⟩:=h
  rfl
 obtain⟨x,t,rfl,ht,q⟩:=h
 refine⟨_,(aq (aQ (aH Ji hr rfl Ho Jk.kp Iu .nil pass0 (aj (qv 0) ak)))),?_⟩
 exact⟨_,rfl,x,t,rfl,ht,fun y H' S ty=>q _ _ S ty⟩
theorem ake
  (F:Fun K "lay" "lay" rQ f fd):FnOk P w K mg base CX0 31 f fd ["tree"] (Jt K):=by
 refine okQ F ajK `S `Q
 ·obtain⟨x,t,rfl,_⟩:=h
  rfl
 obtain⟨x,t,rfl,ht,h1,h2,q⟩:=h
 refine⟨_,(aq (aQ (aV bO (bB (aj (bB ak) ak)) (qv 0)))),?_⟩
 have hl:=(show B 400 1000000 t from⟨h1,h2⟩)
 rw[<-vq t]at hl
 have hl:=hl.len
 refine⟨`W,fun p1 g1=>⟨`e,fun p2 g2=>?_⟩⟩
 obtain⟨S1,t1⟩:=dJ (K:=K) (ts:=[]) g1 (bH.mpr rfl)
 obtain⟨S2,t2⟩:=dJ (K:=K) g2 (jE t1)
 exact⟨_,rfl,cU t2 (mJ (ht.mono (.of (S1.trans S2)))) (small (by rw[List.length_singleton];lia)) (fun z H' S tz=>q _ _ (S1.trans (S2.trans S)) tz)⟩
theorem agl
  (F:Fun K "plain" "plain" oV f fd):FnOk P w K mg base CX0 31 f fd ["sort"] (Js K):=by
 refine okQ F afP `S `Q
 ·obtain⟨n,rfl,_⟩:=h
  rfl
 obtain⟨n,rfl,h1,h6,q⟩:=h
 refine⟨_,(aq (aQ (bB (aj (aV ug (bB (aj (bB ak) ak)) (qv 0)) ak)))),?_⟩
 refine⟨`W,fun p1 g1=>⟨`e,fun p2 g2=>?_⟩⟩
 obtain⟨S1,t1⟩:=dJ (K:=K) (ts:=[]) g1 (bH.mpr rfl)
 obtain⟨S2,t2⟩:=dJ (K:=K) g2 (jE t1)
 refine⟨_,rfl,akp n t2 rfl `A `A `A (fun z H' S tz=>⟨`e,fun p3 g3=>?_⟩)⟩
 obtain⟨S3,t3⟩:=dJ (K:=K) g3 (jE tz)
 exact q _ _ (S1.trans (S2.trans (S.trans S3))) t3
theorem aiJ{dj:Value}(dH:mg "FORK"=some dj)(cT:RelV (.int 7) dj)
  (F:Fun K "fork" "fork" nJ f fd):FnOk P w K mg base CX0 31 f fd ["yes","no"] (Bw K):=by
 refine okQ F ah5 `S `Q
 ·obtain⟨x,t,y,u,rfl,_⟩:=h
  rfl
 obtain⟨x,t,y,u,rfl,ht,hu,⟨h1,h2⟩,⟨h3,h4⟩,q⟩:=h
 refine⟨_,(aq (aQ (aV bO (bB (aj (aV ug (bB (aj (bB ak) ak)) (aM (v:=.int 7) rfl dH cT)) (aj (qv 0) ak))) (qv 1)))),?_⟩
 have hl:=(show B 400 1000000 u from⟨h3,h4⟩)
 rw[<-vq u]at hl
 have hl:=hl.len
 refine⟨`W,fun p1 g1=>⟨`e,fun p2 g2=>?_⟩⟩
 obtain⟨S1,t1⟩:=dJ (K:=K) (ts:=[]) g1 (bH.mpr rfl)
 obtain⟨S2,t2⟩:=dJ (K:=K) g2 (jE t1)
 refine ahK (k:=7) 7 t2 rfl rfl `B `B (fun z H' S tz=>⟨_,rfl,(by show 2<=sizeLine;decide),fun p3 g3=>?_⟩)
 obtain⟨S3,t3⟩:=dJ (K:=K) g3 (afx tz (ht.mono (.of (S1.trans (S2.trans S)))))
 exact⟨_,rfl,cU t3 (mJ (hu.mono (.of (S1.trans (S2.trans (S.trans S3)))))) (xO (by show 2+_<=_;lia)) (fun z4 H4 S4 t4=>q _ _ (S1.trans (S2.trans (S.trans (S3.trans S4)))) t4)⟩
theorem aiI{cF:Value}(cI:mg "WHILE"=some cF)(cu:RelV (.int 8) cF)
  (F:Fun K "loop" "loop" u5 f fd):FnOk P w K mg base CX0 31 f fd ["body"] (V6 K):=by
 refine okQ F ah4 `S `Q
 ·obtain⟨x,t,rfl,_⟩:=h
  rfl
 obtain⟨x,t,rfl,ht,h1,h2,q⟩:=h
 refine⟨_,(aq (aQ (aV bO (bB (aj (aV ug (bB (aj (bB ak) ak)) (aM (v:=.int 8) rfl cI cu)) ak)) (qv 0)))),?_⟩
 have hl:=(show B 400 1000000 t from⟨h1,h2⟩)
 rw[<-vq t]at hl
 have hl:=hl.len
 refine⟨`W,fun p1 g1=>⟨`e,fun p2 g2=>?_⟩⟩
 obtain⟨S1,t1⟩:=dJ (K:=K) (ts:=[]) g1 (bH.mpr rfl)
 obtain⟨S2,t2⟩:=dJ (K:=K) g2 (jE t1)
 refine ahK (k:=8) 8 t2 rfl rfl `B `B (fun z H' S tz=>⟨`e,fun p3 g3=>?_⟩)
 obtain⟨S3,t3⟩:=dJ (K:=K) g3 (jE tz)
 exact⟨_,rfl,cU t3 (mJ (ht.mono (.of (S1.trans (S2.trans (S.trans S3)))))) (small (by show 1+_<=_;lia)) (fun z4 H4 S4 t4=>q _ _ (S1.trans (S2.trans (S.trans (S3.trans S4)))) t4)⟩
theorem agm
  (F:Fun K "parts" "parts" tW f fd):FnOk P w K mg base CX0 31 f fd ["tree"] (V4 K):=by
 refine okQ F xQ `S `Q
 ·obtain⟨x,t,rfl,_⟩:=h
  rfl
 obtain⟨x,t,rfl,ht,hz,q⟩:=h
 refine⟨_,(au (aZ (i:=1) xQ.nd rfl `O (iM (aj (qv 0) ak)))
   (au (aZ (i:=2) xQ.nd rfl `O aP)
   (au (tZ PassesOwn.never (xX (qv 1) (fun _=>rfl)) (au (aZ (i:=3) xQ.nd rfl `O (j_ PySem.F.plainAttrs_list PySem.F.slot_list_pop PySem.F.type_list_pop jx (qv 1)))
   (au (ad6 (i:=2) xQ.nd rfl `O aP Hv)
   (aq (bY (cN PySem.F.plainAttrs_list PySem.F.slot_list_extend PySem.F.type_list_extend abg (qv 1) (aj (qv 3) ak)))))))
   (aq (aQ (qv 2)))))),?_⟩
 refine⟨_,rfl,`e,fun p hp=>?_⟩
 refine⟨abw K H x t.parts p,⟨_,[x],[t],0,none,rfl,same_new hp _,upd_same,cD.mpr ⟨x,[],rfl,ht.mono (Kt.new hp),bH.mpr rfl⟩,by rw[T.aK,T.cg];lia,rfl⟩,?_⟩
 rintro m σ H'⟨ys,ts,c,o,rfl,S,hl,htr,hc,rfl⟩
 refine⟨_,rfl,!ys.isEmpty,.inl ⟨ys,SqL.of hl,rfl⟩,?_⟩
 refine ite2 (fun hb=>?_) (fun hb=>?_)
 ·have hne:ys≠[]:=by rintro rfl;exact absurd hb `B
  obtain⟨y,hy⟩:=RP hne
  obtain⟨u,hu,hyu⟩:=htr.get hy
  rw[htr.length]at hu
  obtain⟨a,zs,rfl,h1,h2⟩:=wB hyu
  have hpl:=T.Pb hu
  refine⟨fun σ' H'=>∃m',m'<T.aN ts/\abw K H x t.parts p m' σ' H',fun _ _ h=>h,?_⟩
  refine⟨_,rfl,.inl ⟨rfl,_,SqL.of hl⟩,p,ys,_,rfl,rfl,hl,hy,?_⟩
  refine⟨_,rfl,_,_,rfl,rfl,?_⟩
  have hk:=T.eY u
  have asV:=T.cM ts.dropLast
  have hlen2:=T.cM u.kids
  have e1:=htr.dropLast.length
  have e2:=h2.length
  refine⟨_,rfl,.inl ⟨rfl,_,SqL.of upd_same⟩,_,rfl,p,a,ys.dropLast,zs,rfl,rfl,upd_same,cO (Kt.lst hl) h1,xO `A,?_⟩
  refine⟨_,?_,ys.dropLast++zs,ts.dropLast++u.kids,c+1,_,rfl,?_,upd_same,?_,?_,rfl⟩
  ·rw[T.bZ]
   lia
  ·rw[aaL]
   exact bN S hp
  ·rw[aaL]
   exact(htr.dropLast.append h2).mono (Kt.lst hl)
  ·rw[T.bZ]
   lia
 ·have hys:ys=[]:=by
   cases ys with
   |nil=>rfl
   |cons _ _=>exact absurd rfl hb
  subst hys
  have hts:ts=[]:=List.length_eq_zero_iff.mp htr.length.symm
  subst hts
  rw[T.cg]at hc
  refine⟨_,rfl,?_⟩
  have:(c:Int)=(t.parts:Int):=`A
  rw[this]
  exact q _ S
theorem aiK(acy:mg "sum"=none){mW:Value}(qz:mg "COPIED"=some mW)(lK:RelV (.int 13) mW){mV:Value}(pX:mg "TWIN"=some mV)(lU:RelV (.int 2) mV)
  (F:Fun K "cost" "cost" u6 f fd):FnOk P w K mg base CX0 31 f fd ["tally"] (V_ K):=by
 refine okQ F ah6 `S `Q
 ·obtain⟨a,ns,rfl,_⟩:=h
  rfl
 obtain⟨a,ns,rfl,ha,hn,q⟩:=h
 refine⟨_,(aq (aQ (aV op_add (aV op_sub (cJ (aeM rfl) rfl acy alx (aj (lM Bx (qv 0) uc (j9 (aM (v:=.int 13) rfl qz lK))) ak)) (cW gY (qv 0) (aM (v:=.int 2) rfl pX lU) (fun _ _=>rfl))) (cW gY (qv 0) (aM (v:=.int 13) rfl qz lK) (fun _ _=>rfl))))),?_⟩
 refine⟨_,rfl,13,rfl,a,_,rfl,ha,fun p H1 S1 h1=>?_⟩
 rw[show(some (13:Int))=some ((13:Nat):Int)from rfl,aeK,aiN]at h1
 have ha1:=cO (.of S1) ha
 refine⟨p,_,rfl,h1,_,rfl,a,_,_,_,rfl,rfl,ha1,ahJ (k:=2) `A,_,_,rfl,rfl,_,rfl,a,_,_,_,rfl,rfl,ha1,ahJ (k:=13) `A,_,_,rfl,rfl,q _ S1⟩
end
theorem all_mk{l:W.OpenLaw}{w:World}{K:W.Frag}{h:Heap}{mg:`Y}{fa f1 f2 f3 f4 f5 f6 f7 f8 f9 f10 f11 f12 f13 f14 f15 f16 f17 f18 f19 f20 f21 f22 f23 f24 f25 f26 f27 f28 f29 f30 f31 f32 f33 f34 f35 f36 f37 f38 f39 f40 f41 f42 f43 f44 f45 f46 f47 f48 f49 f50 f51 f52:Addr}(X:K.In h)(G:h.Ns mainGlobals mg)(hfa:mg "law"=some (.ref fa)){ao:Addr}{aA:Addr}{aB:Addr}{aG:Addr}{aJ:Addr}{aF:Addr}{gF:Addr}{FQ Ge:Option Addr}{Fy:`f}{FW FZ Gb FJ tU Gd:Value}{iR:Addr}{J0 Ka:Option Addr}{JN:`f}{J2 J4 J7 JV vW J9:Value}{jy:Addr}{LK NT:Option Addr}{K5:`f}{L_ MN Nq Lj yK Nv:Value}{gZ:Addr}{Hg Iw:Option Addr}{Gv:`f}{Hh Hu HS GZ vB Ii:Value}{jA:Addr}{LR N5:Option Addr}{K7:`f}{Mg M4 Nt Ln yM Ny:Value}{kI:Addr}{Pk Qf:Option Addr}{Om:`f}{Pn Py P0 OJ zF Qc:Value}{iT:Addr}{J1 Kc:Option Addr}{JQ:`f}{J3 J5 J8 JW vX J_:Value}{jz:Addr}{LQ NZ:Option Addr}{K6:`f}{Mf MP Nr Lk yL Nx:Value}{lV:Addr}{Ry Tp:Option Addr}{Q5:`f}{Rz R4 Sy Ro Cr SX:Value}{sW:Addr}{Z0 aas:Option Addr}{Zq:`f}{Z4 aad aah ZJ Ks aak:Value}{oA:Addr}{Vf Vl:Option Addr}{U5:`f}{Vg Vh Vi U_ Fv Vj:Value}{pZ:Addr}{Xl YX:Option Addr}{Wc:`f}{Xo XS Yo WM Im Yw:Value}{p8:Addr}{Xm YZ:Option Addr}{Wd:`f}{Xp X3 Yp WQ Io Yx:Value}{C:Addr}{sV:Addr}{ZX aar:Option Addr}{Zo:`f}{Z2 aac aag ZG Kr aaj:Value}{Hz:Addr}{aiL ajk:Option Addr}{ahZ:`f}{aiM aiX ai8 ais abt ai_:Value}{Cp:Addr}{agw ahl:Option Addr}{afL:`f}{agz agO ag3 af_ YB ag7:Value}{Cm:Addr}{agv ahk:Option Addr}{afK:`f}{agy agN ag2 af9 Yz ag6:Value}{pY:Addr}{Xk YW:Option Addr}{Wb:`f}{Xn XR Yn WL Il Yv:Value}{sU:Addr}{ZW aaq:Option Addr}{Zn:`f}{Z1 Z_ aaf ZF Kq aai:Value}{Ck:Addr}{agu ahj:Option Addr}{afJ:`f}{agx agM ag1 af8 Yy ag5:Value}{uX:Value}{uT:Value}{lg:Value}{jm:Value}{mU:Value}{gA:Value}{uV:Value}{Gf:Value}{qP:Value}{Gg:Value}{xJ:Value}{uU:Value}{xM:Value}{uI:Addr}{abf:Obj}{bh:Addr}{Jy:Obj}{bE0 bE1 bE2 bE3 bE4 bE5 bE6 bE7 bE8 bE9 ahi ahh ahg ahf ahe:Addr}{oE0 oE1 oE2 oE3 oE4 oE5 oE6 oE7 oE8 oE9 akj aki akh akg akf:Obj}{eN:Value}{dj:Value}{cF:Value}{mL:Value}{Gi:Value}{fK:Value}{uW:Value}{rK:Value}{j5:Value}{gW:Addr}{Xq:Obj}{pO:Value}{pP:Value}{mW:Value}{mV:Value}{oN:Addr}{Xr:Obj}{vD:Addr}{aeo:Obj}
  {od1 an1 od2 an2 od3 an3 od4 an4 od5 an5 od6 an6 od7 an7 od8 an8 od9 an9 aoP asS aoO asR aoN asQ aoM asO aoL asN aoK asM aoJ asL aoI asK aoH asJ aoG asI aoF asH aoE asG aoD asF aoC asD aoB asC aoA asB aoz asA aoy asz aox asy aow asx aov asw aou asv aot asu aos asr aor asq aoq asp aop aso aoo asn aon asl aom asj aol asi aok ash aoj asf aoi ase aoh asd aog asb aof asa aoe ar_ aod ar9 aoc ar8 aob ar7 aoa ar6 an_ alD:Option Addr}{sl1 sl2 sl3 sl4 sl5 sl6 sl7 sl8 sl9 am5 am4 am3 am2 am1 am0 amZ amY amX amW amV amU amT amS amR amQ amP amO amN amM amL amK amJ amI amH amG amF amE amD amC amB amA amy amx amw amv amu amt ams amr amq amo amn:`f}{oc1 kV1 dc1 pm1 cd1 ct1 oc2 kV2 dc2 pm2 cd2 ct2 oc3 kV3 dc3 pm3 cd3 ct3 oc4 kV4 dc4 pm4 cd4 ct4 oc5 kV5 dc5 pm5 cd5 ct5 oc6 kV6 dc6 pm6 cd6 ct6 oc7 kV7 dc7 pm7 cd7 ct7 oc8 kV8 dc8 pm8 cd8 ct8 oc9 kV9 dc9 pm9 cd9 ct9 apx aqj aq9 anZ alv arV apw aqi aq8 anY alu arU apv aqh aq7 anW als arT apu aqg aq6 anV alr arS apt aqf aq5 anU alq arR aps aqe aq4 anT alp arQ apr aqd aq3 anS alo arP apq aqc aq2 anR aln arO apo aqb aq1 anQ alm arN apn aqa aq0 anP alk arM apm ap_ aqZ anO alj arL apl ap9 aqY anN ali arK apk ap8 aqX anM alh arJ apj ap7 aqW anL alg arI aph ap6 aqV anK alf arH apg ap5 aqU anJ ale arG apf ap4 aqT anI ald arF ape ap3 aqS anH alc arE apd ap2 aqR anG alb arD apc ap1 aqQ anF ala arC apb ap0 aqP anE ak_ arB apa apZ aqO anD ak9 arA ao_ apY aqN anC ak8 arz ao9 apW aqM anB ak7 arx ao8 apV aqL anA ak6 arw ao7 apU aqK anz ak5 arv ao6 apT aqJ anx ak4 aru ao5 apS aqI anw ak3 ars ao4 apR aqH anv ak2 arq ao3 apQ aqG anu ak1 arp ao2 apP aqF ant ak0 aro ao1 apO aqE anr akZ arn ao0 apM aqD anq akY arl aoZ apL aqC anp akX ark aoY apK aqB ano akW arj aoX apJ aqA anm akV ari aoW apI aqz anl akU arh aoV apH aqy ank akT arf aoU apG aqx anj akS ard aoT apF aqw ani akR arb aoS apE aqv anh akQ ara aoR apD aqu ang akP aq_ aoQ akv akN ajY ag8 akO:Value}
  (a1:W.nsIn K mainGlobals "first"=some (some (.ref f1)))(l1:K.lookup f1=some ⟨oc1,od1,.func (W.fnOf "first" "first" (defArgs jd) (defBody jd) (defScope jd) .none kV1 dc1 pm1 an1 cd1 ct1),sl1⟩)(c1:W.codeIn K cd1 "first"=true)(k1:W.keepIn K (.ref f1)=true)
  (a2:W.nsIn K mainGlobals "rest"=some (some (.ref f2)))(l2:K.lookup f2=some ⟨oc2,od2,.func (W.fnOf "rest" "rest" (defArgs rP) (defBody rP) (defScope rP) .none kV2 dc2 pm2 an2 cd2 ct2),sl2⟩)(c2:W.codeIn K cd2 "rest"=true)(k2:W.keepIn K (.ref f2)=true)
  (a3:W.nsIn K mainGlobals "parts"=some (some (.ref f3)))(l3:K.lookup f3=some ⟨oc3,od3,.func (W.fnOf "parts" "parts" (defArgs tW) (defBody tW) (defScope tW) .none kV3 dc3 pm3 an3 cd3 ct3),sl3⟩)(c3:W.codeIn K cd3 "parts"=true)(k3:W.keepIn K (.ref f3)=true)
  (a4:W.nsIn K mainGlobals "sort_of"=some (some (.ref f4)))(l4:K.lookup f4=some ⟨oc4,od4,.func (W.fnOf "sort_of" "sort_of" (defArgs jr) (defBody jr) (defScope jr) .none kV4 dc4 pm4 an4 cd4 ct4),sl4⟩)(c4:W.codeIn K cd4 "sort_of"=true)(k4:W.keepIn K (.ref f4)=true)
  (a5:W.nsIn K mainGlobals "load_of"=some (some (.ref f5)))(l5:K.lookup f5=some ⟨oc5,od5,.func (W.fnOf "load_of" "load_of" (defArgs ju) (defBody ju) (defScope ju) .none kV5 dc5 pm5 an5 cd5 ct5),sl5⟩)(c5:W.codeIn K cd5 "load_of"=true)(k5:W.keepIn K (.ref f5)=true)
  (a6:W.nsIn K mainGlobals "lay"=some (some (.ref f6)))(l6:K.lookup f6=some ⟨oc6,od6,.func (W.fnOf "lay" "lay" (defArgs rQ) (defBody rQ) (defScope rQ) .none kV6 dc6 pm6 an6 cd6 ct6),sl6⟩)(c6:W.codeIn K cd6 "lay"=true)(k6:W.keepIn K (.ref f6)=true)
  (a7:W.nsIn K mainGlobals "plain"=some (some (.ref f7)))(l7:K.lookup f7=some ⟨oc7,od7,.func (W.fnOf "plain" "plain" (defArgs oV) (defBody oV) (defScope oV) .none kV7 dc7 pm7 an7 cd7 ct7),sl7⟩)(c7:W.codeIn K cd7 "plain"=true)(k7:W.keepIn K (.ref f7)=true)
  (a8:W.nsIn K mainGlobals "fork"=some (some (.ref f8)))(l8:K.lookup f8=some ⟨oc8,od8,.func (W.fnOf "fork" "fork" (defArgs nJ) (defBody nJ) (defScope nJ) .none kV8 dc8 pm8 an8 cd8 ct8),sl8⟩)(c8:W.codeIn K cd8 "fork"=true)(k8:W.keepIn K (.ref f8)=true)
  (a9:W.nsIn K mainGlobals "loop"=some (some (.ref f9)))(l9:K.lookup f9=some ⟨oc9,od9,.func (W.fnOf "loop" "loop" (defArgs u5) (defBody u5) (defScope u5) .none kV9 dc9 pm9 an9 cd9 ct9),sl9⟩)(c9:W.codeIn K cd9 "loop"=true)(k9:W.keepIn K (.ref f9)=true)
  (a10:W.nsIn K mainGlobals "plains"=some (some (.ref f10)))(l10:K.lookup f10=some ⟨apx,aoP,.func (W.fnOf "plains" "plains" (defArgs dR) (defBody dR) (defScope dR) .none aqj aq9 anZ asS alv arV),am5⟩)(c10:W.codeIn K alv "plains"=true)(k10:W.keepIn K (.ref f10)=true)
  (a11:W.nsIn K mainGlobals "put"=some (some (.ref f11)))(l11:K.lookup f11=some ⟨apw,aoO,.func (W.fnOf "put" "put" (defArgs Dk) (defBody Dk) (defScope Dk) .none aqi aq8 anY asR alu arU),am4⟩)(c11:W.codeIn K alu "put"=true)(k11:W.keepIn K (.ref f11)=true)
  (a12:W.nsIn K mainGlobals "selfrunner"=some (some (.ref f12)))(l12:K.lookup f12=some ⟨apv,aoN,.func (W.fnOf "selfrunner" "selfrunner" (defArgs gB) (defBody gB) (defScope gB) .none aqh aq7 anW asQ als arT),am3⟩)(c12:W.codeIn K als "selfrunner"=true)(k12:W.keepIn K (.ref f12)=true)
  (a13:W.nsIn K mainGlobals "opening"=some (some (.ref f13)))(l13:K.lookup f13=some ⟨apu,aoM,.func (W.fnOf "opening" "opening" (defArgs nF) (defBody nF) (defScope nF) .none aqg aq6 anV asO alr arS),am2⟩)(c13:W.codeIn K alr "opening"=true)(k13:W.keepIn K (.ref f13)=true)
  (a14:W.nsIn K mainGlobals "from_head"=some (some (.ref f14)))(l14:K.lookup f14=some ⟨apt,aoL,.func (W.fnOf "from_head" "from_head" (defArgs jL) (defBody jL) (defScope jL) .none aqf aq5 anU asN alq arR),am1⟩)(c14:W.codeIn K alq "from_head"=true)(k14:W.keepIn K (.ref f14)=true)
  (a15:W.nsIn K mainGlobals "stepped"=some (some (.ref f15)))(l15:K.lookup f15=some ⟨aps,aoK,.func (W.fnOf "stepped" "stepped" (defArgs nu) (defBody nu) (defScope nu) .none aqe aq4 anT asM alp arQ),am0⟩)(c15:W.codeIn K alp "stepped"=true)(k15:W.keepIn K (.ref f15)=true)
  (a16:W.nsIn K mainGlobals "by_sort"=some (some (.ref f16)))(l16:K.lookup f16=some ⟨apr,aoJ,.func (W.fnOf "by_sort" "by_sort" (defArgs nO) (defBody nO) (defScope nO) .none aqd aq3 anS asL alo arP),amZ⟩)(c16:W.codeIn K alo "by_sort"=true)(k16:W.keepIn K (.ref f16)=true)
  (a17:W.nsIn K mainGlobals "gone_of"=some (some (.ref f17)))(l17:K.lookup f17=some ⟨apq,aoI,.func (W.fnOf "gone_of" "gone_of" (defArgs nH) (defBody nH) (defScope nH) .none aqc aq2 anR asK aln arO),amY⟩)(c17:W.codeIn K aln "gone_of"=true)(k17:W.keepIn K (.ref f17)=true)
  (a18:W.nsIn K mainGlobals "while_gone"=some (some (.ref f18)))(l18:K.lookup f18=some ⟨apo,aoH,.func (W.fnOf "while_gone" "while_gone" (defArgs iJ) (defBody iJ) (defScope iJ) .none aqb aq1 anQ asJ alm arN),amX⟩)(c18:W.codeIn K alm "while_gone"=true)(k18:W.keepIn K (.ref f18)=true)
  (a19:W.nsIn K mainGlobals "nameless_gone"=some (some (.ref f19)))(l19:K.lookup f19=some ⟨apn,aoG,.func (W.fnOf "nameless_gone" "nameless_gone" (defArgs eO) (defBody eO) (defScope eO) .none aqa aq0 anP asI alk arM),amW⟩)(c19:W.codeIn K alk "nameless_gone"=true)(k19:W.keepIn K (.ref f19)=true)
  (a20:W.nsIn K mainGlobals "begin"=some (some (.ref f20)))(l20:K.lookup f20=some ⟨apm,aoF,.func (W.fnOf "begin" "begin" (defArgs qR) (defBody qR) (defScope qR) .none ap_ aqZ anO asH alj arL),amV⟩)(c20:W.codeIn K alj "begin"=true)(k20:W.keepIn K (.ref f20)=true)
  (a21:W.nsIn K mainGlobals "place_of"=some (some (.ref f21)))(l21:K.lookup f21=some ⟨apl,aoE,.func (W.fnOf "place_of" "place_of" (defArgs jt) (defBody jt) (defScope jt) .none ap9 aqY anN asG ali arK),amU⟩)(c21:W.codeIn K ali "place_of"=true)(k21:W.keepIn K (.ref f21)=true)
  (a22:W.nsIn K mainGlobals "cost"=some (some (.ref f22)))(l22:K.lookup f22=some ⟨apk,aoD,.func (W.fnOf "cost" "cost" (defArgs u6) (defBody u6) (defScope u6) .none ap8 aqX anM asF alh arJ),amT⟩)(c22:W.codeIn K alh "cost"=true)(k22:W.keepIn K (.ref f22)=true)
  (a23:W.nsIn K mainGlobals "added"=some (some (.ref f23)))(l23:K.lookup f23=some ⟨apj,aoC,.func (W.fnOf "added" "added" (defArgs qT) (defBody qT) (defScope qT) .none ap7 aqW anL asD alg arI),amS⟩)(c23:W.codeIn K alg "added"=true)(k23:W.keepIn K (.ref f23)=true)
  (a24:W.nsIn K mainGlobals "turned"=some (some (.ref f24)))(l24:K.lookup f24=some ⟨aph,aoB,.func (W.fnOf "turned" "turned" (defArgs nj) (defBody nj) (defScope nj) .none ap6 aqV anK asC alf arH),amR⟩)(c24:W.codeIn K alf "turned"=true)(k24:W.keepIn K (.ref f24)=true)
  (a25:W.nsIn K mainGlobals "tower"=some (some (.ref f25)))(l25:K.lookup f25=some ⟨apg,aoA,.func (W.fnOf "tower" "tower" (defArgs tV) (defBody tV) (defScope tV) .none ap5 aqU anJ asB ale arG),amQ⟩)(c25:W.codeIn K ale "tower"=true)(k25:W.keepIn K (.ref f25)=true)
  (a26:W.nsIn K mainGlobals "selfmade"=some (some (.ref f26)))(l26:K.lookup f26=some ⟨apf,aoz,.func (W.fnOf "selfmade" "selfmade" (defArgs lG) (defBody lG) (defScope lG) .none ap4 aqT anI asA ald arF),amP⟩)(c26:W.codeIn K ald "selfmade"=true)(k26:W.keepIn K (.ref f26)=true)
  (a27:W.nsIn K mainGlobals "selfmaker"=some (some (.ref f27)))(l27:K.lookup f27=some ⟨ape,aoy,.func (W.fnOf "selfmaker" "selfmaker" (defArgs jH) (defBody jH) (defScope jH) .none ap3 aqS anH asz alc arE),amO⟩)(c27:W.codeIn K alc "selfmaker"=true)(k27:W.keepIn K (.ref f27)=true)
  (a28:W.nsIn K mainGlobals "lay_made"=some (some (.ref f28)))(l28:K.lookup f28=some ⟨apd,aox,.func (W.fnOf "lay_made" "lay_made" (defArgs lH) (defBody lH) (defScope lH) .none ap2 aqR anG asy alb arD),amN⟩)(c28:W.codeIn K alb "lay_made"=true)(k28:W.keepIn K (.ref f28)=true)
  (a29:W.nsIn K mainGlobals "selfteller"=some (some (.ref f29)))(l29:K.lookup f29=some ⟨apc,aow,.func (W.fnOf "selfteller" "selfteller" (defArgs iK) (defBody iK) (defScope iK) .none ap1 aqQ anF asx ala arC),amM⟩)(c29:W.codeIn K ala "selfteller"=true)(k29:W.keepIn K (.ref f29)=true)
  (a30:W.nsIn K mainGlobals "show_tree"=some (some (.ref f30)))(l30:K.lookup f30=some ⟨apb,aov,.func (W.fnOf "show_tree" "show_tree" (defArgs jG) (defBody jG) (defScope jG) .none ap0 aqP anE asw ak_ arB),amL⟩)(c30:W.codeIn K ak_ "show_tree"=true)(k30:W.keepIn K (.ref f30)=true)
  (a31:W.nsIn K mainGlobals "read_tree"=some (some (.ref f31)))(l31:K.lookup f31=some ⟨apa,aou,.func (W.fnOf "read_tree" "read_tree" (defArgs jJ) (defBody jJ) (defScope jJ) .none apZ aqO anD asv ak9 arA),amK⟩)(c31:W.codeIn K ak9 "read_tree"=true)(k31:W.keepIn K (.ref f31)=true)
  (a32:W.nsIn K mainGlobals "show"=some (some (.ref f32)))(l32:K.lookup f32=some ⟨ao_,aot,.func (W.fnOf "show" "show" (defArgs xT) (defBody xT) (defScope xT) .none apY aqN anC asu ak8 arz),amJ⟩)(c32:W.codeIn K ak8 "show"=true)(k32:W.keepIn K (.ref f32)=true)
  (a33:W.nsIn K mainGlobals "spelled"=some (some (.ref f33)))(l33:K.lookup f33=some ⟨ao9,aos,.func (W.fnOf "spelled" "spelled" (defArgs nA) (defBody nA) (defScope nA) .none apW aqM anB asr ak7 arx),amI⟩)(c33:W.codeIn K ak7 "spelled"=true)(k33:W.keepIn K (.ref f33)=true)
  (a34:W.nsIn K mainGlobals "odd"=some (some (.ref f34)))(l34:K.lookup f34=some ⟨ao8,aor,.func (W.fnOf "odd" "odd" (defArgs uL) (defBody uL) (defScope uL) .none apV aqL anA asq ak6 arw),amH⟩)(c34:W.codeIn K ak6 "odd"=true)(k34:W.keepIn K (.ref f34)=true)
  (a35:W.nsIn K mainGlobals "read"=some (some (.ref f35)))(l35:K.lookup f35=some ⟨ao7,aoq,.func (W.fnOf "read" "read" (defArgs xU) (defBody xU) (defScope xU) .none apU aqK anz asp ak5 arv),amG⟩)(c35:W.codeIn K ak5 "read"=true)(k35:W.keepIn K (.ref f35)=true)
  (a36:W.nsIn K mainGlobals "pieces_of"=some (some (.ref f36)))(l36:K.lookup f36=some ⟨ao6,aop,.func (W.fnOf "pieces_of" "pieces_of" (defArgs jK) (defBody jK) (defScope jK) .none apT aqJ anx aso ak4 aru),amF⟩)(c36:W.codeIn K ak4 "pieces_of"=true)(k36:W.keepIn K (.ref f36)=true)
  (a37:W.nsIn K mainGlobals "word_of"=some (some (.ref f37)))(l37:K.lookup f37=some ⟨ao5,aoo,.func (W.fnOf "word_of" "word_of" (defArgs m_) (defBody m_) (defScope m_) .none apS aqI anw asn ak3 ars),amE⟩)(c37:W.codeIn K ak3 "word_of"=true)(k37:W.keepIn K (.ref f37)=true)
  (a38:W.nsIn K mainGlobals "tree_of"=some (some (.ref f38)))(l38:K.lookup f38=some ⟨ao4,aon,.func (W.fnOf "tree_of" "tree_of" (defArgs nq) (defBody nq) (defScope nq) .none apR aqH anv asl ak2 arq),amD⟩)(c38:W.codeIn K ak2 "tree_of"=true)(k38:W.keepIn K (.ref f38)=true)
  (a39:W.nsIn K mainGlobals "first_of"=some (some (.ref f39)))(l39:K.lookup f39=some ⟨ao3,aom,.func (W.fnOf "first_of" "first_of" (defArgs lJ) (defBody lJ) (defScope lJ) .none apQ aqG anu asj ak1 arp),amC⟩)(c39:W.codeIn K ak1 "first_of"=true)(k39:W.keepIn K (.ref f39)=true)
  (a40:W.nsIn K mainGlobals "rest_of"=some (some (.ref f40)))(l40:K.lookup f40=some ⟨ao2,aol,.func (W.fnOf "rest_of" "rest_of" (defArgs nD) (defBody nD) (defScope nD) .none apP aqF ant asi ak0 aro),amB⟩)(c40:W.codeIn K ak0 "rest_of"=true)(k40:W.keepIn K (.ref f40)=true)
  (a41:W.nsIn K mainGlobals "later"=some (some (.ref f41)))(l41:K.lookup f41=some ⟨ao1,aok,.func (W.fnOf "later" "later" (defArgs tX) (defBody tX) (defScope tX) .none apO aqE anr ash akZ arn),amA⟩)(c41:W.codeIn K akZ "later"=true)(k41:W.keepIn K (.ref f41)=true)
  (a42:W.nsIn K mainGlobals "unfronted"=some (some (.ref f42)))(l42:K.lookup f42=some ⟨ao0,aoj,.func (W.fnOf "unfronted" "unfronted" (defArgs iy) (defBody iy) (defScope iy) .none apM aqD anq asf akY arl),amy⟩)(c42:W.codeIn K akY "unfronted"=true)(k42:W.keepIn K (.ref f42)=true)
  (a43:W.nsIn K mainGlobals "parts_within"=some (some (.ref f43)))(l43:K.lookup f43=some ⟨aoZ,aoi,.func (W.fnOf "parts_within" "parts_within" (defArgs fX) (defBody fX) (defScope fX) .none apL aqC anp ase akX ark),amx⟩)(c43:W.codeIn K akX "parts_within"=true)(k43:W.keepIn K (.ref f43)=true)
  (a44:W.nsIn K mainGlobals "as_tree"=some (some (.ref f44)))(l44:K.lookup f44=some ⟨aoY,aoh,.func (W.fnOf "as_tree" "as_tree" (defArgs nQ) (defBody nQ) (defScope nQ) .none apK aqB ano asd akW arj),amw⟩)(c44:W.codeIn K akW "as_tree"=true)(k44:W.keepIn K (.ref f44)=true)
  (a45:W.nsIn K mainGlobals "run"=some (some (.ref f45)))(l45:K.lookup f45=some ⟨aoX,aog,.func (W.fnOf "run" "run" (defArgs Dj) (defBody Dj) (defScope Dj) .none apJ aqA anm asb akV ari),amv⟩)(c45:W.codeIn K akV "run"=true)(k45:W.keepIn K (.ref f45)=true)
  (a46:W.nsIn K mainGlobals "tally_of"=some (some (.ref f46)))(l46:K.lookup f46=some ⟨aoW,aof,.func (W.fnOf "tally_of" "tally_of" (defArgs lF) (defBody lF) (defScope lF) .none apI aqz anl asa akU arh),amu⟩)(c46:W.codeIn K akU "tally_of"=true)(k46:W.keepIn K (.ref f46)=true)
  (a47:W.nsIn K mainGlobals "walked"=some (some (.ref f47)))(l47:K.lookup f47=some ⟨aoV,aoe,.func (W.fnOf "walked" "walked" (defArgs ni) (defBody ni) (defScope ni) .none apH aqy ank ar_ akT arf),amt⟩)(c47:W.codeIn K akT "walked"=true)(k47:W.keepIn K (.ref f47)=true)
  (a48:W.nsIn K mainGlobals "work"=some (some (.ref f48)))(l48:K.lookup f48=some ⟨aoU,aod,.func (W.fnOf "work" "work" (defArgs xR) (defBody xR) (defScope xR) .none apG aqx anj ar9 akS ard),ams⟩)(c48:W.codeIn K akS "work"=true)(k48:W.keepIn K (.ref f48)=true)
  (a49:W.nsIn K mainGlobals "_law_deck"=some (some (.ref f49)))(l49:K.lookup f49=some ⟨aoT,aoc,.func (W.fnOf "_law_deck" "_law_deck" (defArgs jM) (defBody jM) (defScope jM) .none apF aqw ani ar8 akR arb),amr⟩)(c49:W.codeIn K akR "_law_deck"=true)(k49:W.keepIn K (.ref f49)=true)
  (a50:W.nsIn K mainGlobals "_law_next"=some (some (.ref f50)))(l50:K.lookup f50=some ⟨aoS,aob,.func (W.fnOf "_law_next" "_law_next" (defArgs iB) (defBody iB) (defScope iB) .none apE aqv anh ar7 akQ ara),amq⟩)(c50:W.codeIn K akQ "_law_next"=true)(k50:W.keepIn K (.ref f50)=true)
  (a51:W.nsIn K mainGlobals "_law_tree"=some (some (.ref f51)))(l51:K.lookup f51=some ⟨aoR,aoa,.func (W.fnOf "_law_tree" "_law_tree" (defArgs iz) (defBody iz) (defScope iz) .none apD aqu ang ar6 akP aq_),amo⟩)(c51:W.codeIn K akP "_law_tree"=true)(k51:W.keepIn K (.ref f51)=true)
  (a52:W.nsIn K mainGlobals "law"=some (some (.ref f52)))(l52:K.lookup f52=some ⟨aoQ,an_,.func (W.fnOf "law" "law" (defArgs uM) (defBody uM) (defScope uM) .none akv akN ajY alD ag8 akO),amn⟩)(c52:W.codeIn K ag8 "law"=true)(k52:W.keepIn K (.ref f52)=true)
  (Fi:W.nsIn K mainGlobals "Fronted"=some (some (.ref ao)))
  (Dq:W.plainGet K ao Str.empty=true)
  (Ed:W.hasDictIn K ao=true)
  (Dn:W.plainOver K ao=true)
  (Di:W.findIn K (.ref ao) "__setattr__"=some (some (.builtin "object.__setattr__")))
  (DK:W.makesIn K ao=true)
  (DY:W.keepIn K (.ref ao)=true)
  (um:W.findIn K (.ref ao) "item"=some none)
  (qy:W.findIn K (.ref ao) "behind"=some none)
  (N7:W.nsIn K mainGlobals "Later"=some (some (.ref aA)))
  (Lq:W.plainGet K aA Str.empty=true)
  (M9:W.hasDictIn K aA=true)
  (Lh:W.plainOver K aA=true)
  (Le:W.findIn K (.ref aA) "__setattr__"=some (some (.builtin "object.__setattr__")))
  (Mq:W.makesIn K aA=true)
  (MF:W.keepIn K (.ref aA)=true)
  (yh:W.findIn K (.ref aA) "tree"=some none)
  (vL:W.findIn K (.ref aA) "place"=some none)
  (Tz:W.nsIn K mainGlobals "Word"=some (some (.ref aB)))
  (Rp:W.plainGet K aB Str.empty=true)
  (R9:W.hasDictIn K aB=true)
  (Rk:W.plainOver K aB=true)
  (Ra:W.findIn K (.ref aB) "__setattr__"=some (some (.builtin "object.__setattr__")))
  (RB:W.makesIn K aB=true)
  (RZ:W.keepIn K (.ref aB)=true)
  (zO:W.findIn K (.ref aB) "kind"=some none)
  (zN:W.findIn K (.ref aB) "load"=some none)
  (DG:W.findIn K (.ref aB) "yes"=some none)
  (Hj:W.findIn K (.ref aB) "no"=some none)
  (zP:W.findIn K (.ref aB) "body"=some none)
  (zM:W.findIn K (.ref aB) "size"=some none)
  (TJ:W.nsIn K mainGlobals "Text"=some (some (.ref aG)))
  (Rr:W.plainGet K aG Str.empty=true)
  (Sd:W.hasDictIn K aG=true)
  (Rn:W.plainOver K aG=true)
  (Rc:W.findIn K (.ref aG) "__setattr__"=some (some (.builtin "object.__setattr__")))
  (RG:W.makesIn K aG=true)
  (R3:W.keepIn K (.ref aG)=true)
  (zR:W.findIn K (.ref aG) "tree"=some none)
  (yg:W.findIn K (.ref aG) "words"=some none)
  (N8:W.nsIn K mainGlobals "Going"=some (some (.ref aJ)))
  (Lr:W.plainGet K aJ Str.empty=true)
  (M_:W.hasDictIn K aJ=true)
  (Li:W.plainOver K aJ=true)
  (Lf:W.findIn K (.ref aJ) "__setattr__"=some (some (.builtin "object.__setattr__")))
  (Mr:W.makesIn K aJ=true)
  (MJ:W.keepIn K (.ref aJ)=true)
  (yj:W.findIn K (.ref aJ) "text"=some none)
  (vM:W.findIn K (.ref aJ) "place"=some none)
  (TF:W.nsIn K mainGlobals "Walk"=some (some (.ref aF)))
  (Rq:W.plainGet K aF Str.empty=true)
  (R_:W.hasDictIn K aF=true)
  (Rm:W.plainOver K aF=true)
  (Rb:W.findIn K (.ref aF) "__setattr__"=some (some (.builtin "object.__setattr__")))
  (RD:W.makesIn K aF=true)
  (R0:W.keepIn K (.ref aF)=true)
  (vK:W.findIn K (.ref aF) "goings"=some none)
  (yd:W.findIn K (.ref aF) "stack"=some none)
  (uh:W.findIn K (.ref aF) "numbers"=some none)
  (zQ:W.findIn K (.ref aF) "left"=some none)
  (Ef:W.findIn K (.ref ao) "__eq__"=some (some (.builtin "object.__eq__")))
  (Dw:W.mroIn K ao (.type "object")=some true)
  (CV:W.mroIn K ao `a=some false)
  (Dg:W.subIn K `a (.ref ao)=some false)
  (Et:W.findIn K (.ref ao) "__class__"=some (some (.builtin "object.__class__")))
  (Nf:W.findIn K (.ref aA) "__eq__"=some (some (.builtin "object.__eq__")))
  (Mh:W.mroIn K aA (.type "object")=some true)
  (KH:W.mroIn K aA `a=some false)
  (Lb:W.subIn K `a (.ref aA)=some false)
  (NP:W.findIn K (.ref aA) "__class__"=some (some (.builtin "object.__class__")))
  (cn:W.specialIn K (.builtin "object.__class__") "__get__"=some (some (.builtin "getset_descriptor.__get__")))
  (ct:W.takesIn K (.builtin "object.__class__")=some true)
  (iTF:W.kitOne K `a (.ref ao)=some false)
  (iTL:W.kitOne K `a (.ref aA)=some false)
  (iFF:W.kitOne K (.ref ao) (.ref ao)=some true)
  (iLF:W.kitOne K (.ref aA) (.ref ao)=some false)
  (iLL:W.kitOne K (.ref aA) (.ref aA)=some true)
  (d8:W.findIn K (.ref ao) "__init__"=some (some (.ref gF)))
  (ou:W.isFn K (.ref gF)=true)
  (n_:K.lookup gF=some ⟨FW,FQ,.func (W.fnOf "__init__" "Fronted.__init__" (defArgs dZ) (defBody dZ) (defScope dZ) .none FZ Gb FJ Ge tU Gd),Fy⟩)
  (oH:W.codeIn K tU "Fronted.__init__"=true)
  (oh:W.keepIn K (.ref gF)=true)
  (gk:W.findIn K (.ref aA) "__init__"=some (some (.ref iR)))
  (qH:W.isFn K (.ref iR)=true)
  (qC:K.lookup iR=some ⟨J2,J0,.func (W.fnOf "__init__" "Later.__init__" (defArgs fY) (defBody fY) (defScope fY) .none J4 J7 JV Ka vW J9),JN⟩)
  (qK:W.codeIn K vW "Later.__init__"=true)
  (qF:W.keepIn K (.ref iR)=true)
  (gR:W.findIn K (.ref aB) "__init__"=some (some (.ref jy)))
  (sJ:W.isFn K (.ref jy)=true)
  (rY:K.lookup jy=some ⟨L_,LK,.func (W.fnOf "__init__" "Word.__init__" (defArgs gO) (defBody gO) (defScope gO) .none MN Nq Lj NT yK Nv),K5⟩)
  (tD:W.codeIn K yK "Word.__init__"=true)
  (sy:W.keepIn K (.ref jy)=true)
  (fJ:W.findIn K (.ref aB) "body_parts"=some (some (.ref gZ)))
  (pI:W.isFn K (.ref gZ)=true)
  (pH:K.lookup gZ=some ⟨Hh,Hg,.func (W.fnOf "body_parts" "Word.body_parts" (defArgs fC) (defBody fC) (defScope fC) .none Hu HS GZ Iw vB Ii),Gv⟩)
  (pJ:W.codeIn K vB "Word.body_parts"=true)
  (jZ:W.keepIn K (.ref gZ)=true)
  (cZ:W.findIn K (.ref aG) "__init__"=some (some (.ref jA)))
  (sS:W.isFn K (.ref jA)=true)
  (su:K.lookup jA=some ⟨Mg,LR,.func (W.fnOf "__init__" "Text.__init__" (defArgs gP) (defBody gP) (defScope gP) .none M4 Nt Ln N5 yM Ny),K7⟩)
  (tG:W.codeIn K yM "Text.__init__"=true)
  (sH:W.keepIn K (.ref jA)=true)
  (iI:W.findIn K (.ref aG) "word_at"=some (some (.ref kI)))
  (ur:W.isFn K (.ref kI)=true)
  (uq:K.lookup kI=some ⟨Pn,Pk,.func (W.fnOf "word_at" "Text.word_at" (defArgs iD) (defBody iD) (defScope iD) .none Py P0 OJ Qf zF Qc),Om⟩)
  (uE:W.codeIn K zF "Text.word_at"=true)
  (o9:W.keepIn K (.ref kI)=true)
  (cR:W.findIn K (.ref aJ) "__init__"=some (some (.ref iT)))
  (qI:W.isFn K (.ref iT)=true)
  (qD:K.lookup iT=some ⟨J3,J1,.func (W.fnOf "__init__" "Going.__init__" (defArgs fZ) (defBody fZ) (defScope fZ) .none J5 J8 JW Kc vX J_),JQ⟩)
  (qL:W.codeIn K vX "Going.__init__"=true)
  (qG:W.keepIn K (.ref iT)=true)
  (gU:W.findIn K (.ref aF) "__init__"=some (some (.ref jz)))
  (sO:W.isFn K (.ref jz)=true)
  (rZ:K.lookup jz=some ⟨Mf,LQ,.func (W.fnOf "__init__" "Walk.__init__" (defArgs eU) (defBody eU) (defScope eU) .none MP Nr Lk NZ yL Nx),K6⟩)
  (tE:W.codeIn K yL "Walk.__init__"=true)
  (sG:W.keepIn K (.ref jz)=true)
  (dX:W.findIn K (.ref aF) "at_end"=some (some (.ref lV)))
  (vO:W.isFn K (.ref lV)=true)
  (vN:K.lookup lV=some ⟨Rz,Ry,.func (W.fnOf "at_end" "Walk.at_end" (defArgs je) (defBody je) (defScope je) .none R4 Sy Ro Tp Cr SX),Q5⟩)
  (vQ:W.codeIn K Cr "Walk.at_end"=true)
  (qp:W.keepIn K (.ref lV)=true)
  (iw:W.findIn K (.ref aF) "top"=some (some (.ref sW)))
  (Ec:W.isFn K (.ref sW)=true)
  (DX:K.lookup sW=some ⟨Z4,Z0,.func (W.fnOf "top" "Walk.top" (defArgs oY) (defBody oY) (defScope oY) .none aad aah ZJ aas Ks aak),Zq⟩)
  (Ey:W.codeIn K Ks "Walk.top"=true)
  (wj:W.keepIn K (.ref sW)=true)
  (fB:W.findIn K (.ref aF) "tally"=some (some (.ref oA)))
  (yw:W.isFn K (.ref oA)=true)
  (yu:K.lookup oA=some ⟨Vg,Vf,.func (W.fnOf "tally" "Walk.tally" (defArgs j7) (defBody j7) (defScope j7) .none Vh Vi U_ Vl Fv Vj),U5⟩)
  (yN:W.codeIn K Fv "Walk.tally"=true)
  (sE:W.keepIn K (.ref oA)=true)
  (mF:W.findIn K (.ref aF) "step"=some (some (.ref pZ)))
  (Ab:W.isFn K (.ref pZ)=true)
  (zZ:K.lookup pZ=some ⟨Xo,Xl,.func (W.fnOf "step" "Walk.step" (defArgs lZ) (defBody lZ) (defScope lZ) .none XS Yo WM YX Im Yw),Wc⟩)
  (Aq:W.codeIn K Im "Walk.step"=true)
  (uO:W.keepIn K (.ref pZ)=true)
  (mH:W.findIn K (.ref aF) "move"=some (some (.ref p8)))
  (Ac:W.isFn K (.ref p8)=true)
  (z_:K.lookup p8=some ⟨Xp,Xm,.func (W.fnOf "move" "Walk.move" (defArgs mj) (defBody mj) (defScope mj) .none X3 Yp WQ YZ Io Yx),Wd⟩)
  (Ar:W.codeIn K Io "Walk.move"=true)
  (uP:W.keepIn K (.ref p8)=true)
  (aC:W.nsIn K mainGlobals "Reading"=some (some (.ref C)))
  (pC:W.findIn K (.ref C) "__init__"=some (some (.ref sV)))
  (Eb:W.isFn K (.ref sV)=true)
  (DW:K.lookup sV=some ⟨Z2,ZX,.func (W.fnOf "__init__" "Reading.__init__" (defArgs oX) (defBody oX) (defScope oX) .none aac aag ZG aar Kr aaj),Zo⟩)
  (Ew:W.codeIn K Kr "Reading.__init__"=true)
  (D_:W.keepIn K (.ref sV)=true)
  (Cw:W.findIn K (.ref C) "take"=some (some (.ref Hz)))
  (X4:W.isFn K (.ref Hz)=true)
  (XM:K.lookup Hz=some ⟨aiM,aiL,.func (W.fnOf "take" "Reading.take" (defArgs BK) (defBody BK) (defScope BK) .none aiX ai8 ais ajk abt ai_),ahZ⟩)
  (YF:W.codeIn K abt "Reading.take"=true)
  (Px:W.keepIn K (.ref Hz)=true)
  (xr:W.findIn K (.ref C) "enter"=some (some (.ref Cp)))
  (R8:W.isFn K (.ref Cp)=true)
  (RW:K.lookup Cp=some ⟨agz,agw,.func (W.fnOf "enter" "Reading.enter" (defArgs wN) (defBody wN) (defScope wN) .none agO ag3 af_ ahl YB ag7),afL⟩)
  (Tf:W.codeIn K YB "Reading.enter"=true)
  (k_enter:W.keepIn K (.ref Cp)=true)
  (xq:W.findIn K (.ref C) "leave"=some (some (.ref Cm)))
  (R7:W.isFn K (.ref Cm)=true)
  (RT:K.lookup Cm=some ⟨agy,agv,.func (W.fnOf "leave" "Reading.leave" (defArgs wM) (defBody wM) (defScope wM) .none agN ag2 af9 ahk Yz ag6),afK⟩)
  (Te:W.codeIn K Yz "Reading.leave"=true)
  (JF:W.keepIn K (.ref Cm)=true)
  (mC:W.findIn K (.ref C) "bracketed"=some (some (.ref pY)))
  (Aa:W.isFn K (.ref pY)=true)
  (zY:K.lookup pY=some ⟨Xn,Xk,.func (W.fnOf "bracketed" "Reading.bracketed" (defArgs lY) (defBody lY) (defScope lY) .none XR Yn WL YW Il Yv),Wb⟩)
  (Ao:W.codeIn K Il "Reading.bracketed"=true)
  (uN:W.keepIn K (.ref pY)=true)
  (pB:W.findIn K (.ref C) "add_word"=some (some (.ref sU)))
  (Ea:W.isFn K (.ref sU)=true)
  (DQ:K.lookup sU=some ⟨Z1,ZW,.func (W.fnOf "add_word" "Reading.add_word" (defArgs oW) (defBody oW) (defScope oW) .none Z_ aaf ZF aaq Kq aai),Zn⟩)
  (Eu:W.codeIn K Kq "Reading.add_word"=true)
  (wg:W.keepIn K (.ref sU)=true)
  (xg:W.findIn K (.ref C) "whole"=some (some (.ref Ck)))
  (R6:W.isFn K (.ref Ck)=true)
  (RQ:K.lookup Ck=some ⟨agx,agu,.func (W.fnOf "whole" "Reading.whole" (defArgs wL) (defBody wL) (defScope wL) .none agM ag1 af8 ahj Yy ag5),afJ⟩)
  (Td:W.codeIn K Yy "Reading.whole"=true)
  (k_whole:W.keepIn K (.ref Ck)=true)
  (pg:W.plainGet K C Str.empty=true)
  (hd:W.hasDictIn K C=true)
  (po:W.plainOver K C=true)
  (sa:W.findIn K (.ref C) "__setattr__"=some (some (.builtin "object.__setattr__")))
  (mk:W.makesIn K C=true)
  (kc:W.keepIn K (.ref C)=true)
  (nR:W.findIn K (.ref C) "rows"=some none)
  (nP:W.findIn K (.ref C) "places"=some none)
  (nN:W.findIn K (.ref C) "named"=some none)
  (Ym:W.nsIn K mainGlobals "DROP"=some (some uX))
  (vg:RelV (.int 1) uX)
  (Ye:W.nsIn K mainGlobals "TURN"=some (some uT))
  (u9:RelV (.int 6) uT)
  (HN:W.nsIn K mainGlobals "FORK_NO"=some (some lg))
  (lq:RelV (.int 8) lg)
  (El:W.nsIn K mainGlobals "FORK_YES"=some (some jm))
  (jw:RelV (.int 7) jm)
  (yx:W.nsIn K mainGlobals "WHILE_PAST"=some (some mU))
  (nT:RelV (.int 10) mU)
  (yC:W.nsIn K mainGlobals "WHILE_INTO"=some (some gA))
  (gC:RelV (.int 9) gA)
  (HF:W.nsIn K mainGlobals "NO_WORD"=some (some uV))
  (vd:RelV (.int 11) uV)
  (Yg:W.nsIn K mainGlobals "SWAP"=some (some Gf))
  (GJ:RelV (.int 3) Gf)
  (Sx:W.nsIn K mainGlobals "FRONT"=some (some qP))
  (qU:RelV (.int 4) qP)
  (Yi:W.nsIn K mainGlobals "PART"=some (some Gg))
  (GK:RelV (.int 5) Gg)
  (Ni:W.nsIn K mainGlobals "PLACES"=some (some xJ))
  (xV:RelV (.int 15) xJ)
  (Yh:W.nsIn K mainGlobals "SHUT"=some (some uU))
  (u_:RelV (.int 12) uU)
  (Nk:W.nsIn K mainGlobals "BODIES"=some (some xM))
  (xW:RelV (.int 14) xM)
  (Sv:W.nsIn K mainGlobals "LOOKS"=some (some (.ref uI)))
  (RX:K.lookup uI=some abf)
  (QH:jc abf [`H,.int 1,.int 1,.int 2,.int 2,.int 1,.int 3,.int 1,.int 1,.int 1,.int 1,`H,`H])
  (Ss:W.nsIn K mainGlobals "NAMES"=some (some (.ref bh)))
  (JD:K.lookup bh=some Jy)
  (Qw:jc Jy [.str (PySem.Str.ofString "lay"),.str (PySem.Str.ofString "drop"),.str (PySem.Str.ofString "twin"),.str (PySem.Str.ofString "swap"),.str (PySem.Str.ofString "front"),.str (PySem.Str.ofString "part"),.str (PySem.Str.ofString "turn"),.str (PySem.Str.ofString "fork"),.str (PySem.Str.ofString "while")])
  (Qx:Jy.cls=`a/\Jy.dict=none)
  (Ej:W.nsIn K mainGlobals "NAMELESS"=some (some eN))
  (eV:RelV (.int 9) eN)
  (Yk:W.nsIn K mainGlobals "FORK"=some (some dj))
  (cT:RelV (.int 7) dj)
  (Sh:W.nsIn K mainGlobals "WHILE"=some (some cF))
  (cu:RelV (.int 8) cF)
  (acO:W.nsIn K mainGlobals "LAY"=some (some mL))
  (mO:RelV `H mL)
  (Yj:W.nsIn K mainGlobals "LAID"=some (some Gi))
  (GQ:RelV (.str (PySem.Str.ofString "turn turn front turn turn front swap")) Gi)
  (vP:W.nsIn K mainGlobals "TOP_REACHED"=some (some fK))
  (fM:RelV (.str (PySem.Str.ofString "turn turn front turn part")) fK)
  (HJ:W.nsIn K mainGlobals "INTO_NO"=some (some uW))
  (vf:RelV (.str (PySem.Str.ofString "front swap turn part drop front")) uW)
  (Ek:W.nsIn K mainGlobals "INTO_YES"=some (some rK))
  (rR:RelV (.str (PySem.Str.ofString "front swap turn part swap drop front")) rK)
  (uw:W.nsIn K mainGlobals "STACK_PARTED"=some (some j5))
  (j8:RelV (.str (PySem.Str.ofString "drop front swap part")) j5)
  (Nh:W.nsIn K mainGlobals "WORKED"=some (some (.ref gW)))
  (Mx:K.lookup gW=some Xq)
  (KQ:jc Xq [.str (PySem.Str.ofString ""),.str (PySem.Str.ofString "drop"),.str (PySem.Str.ofString "twin turn swap front swap front"),.str (PySem.Str.ofString "swap part swap turn front swap front"),.str (PySem.Str.ofString "swap part turn front front"),.str (PySem.Str.ofString "part turn turn front swap front"),.str (PySem.Str.ofString "swap part swap part swap turn front turn front swap front")])
  (Ad:W.nsIn K mainGlobals "PAST_BODY"=some (some pO))
  (pQ:RelV (.str (PySem.Str.ofString "front turn drop swap")) pO)
  (Ae:W.nsIn K mainGlobals "INTO_BODY"=some (some pP))
  (pR:RelV (.str (PySem.Str.ofString "front swap turn part swap twin turn front turn part turn front front swap front")) pP)
  (Nj:W.nsIn K mainGlobals "COPIED"=some (some mW))
  (lK:RelV (.int 13) mW)
  (Yd:W.nsIn K mainGlobals "TWIN"=some (some mV))
  (lU:RelV (.int 2) mV)
  (Nm:W.nsIn K mainGlobals "ALWAYS"=some (some (.ref oN)))
  (Mz:K.lookup oN=some Xr)
  (KR:jc Xr [.int 2,.int 2,`H,.int 1,.int 2,.int 2,.int 2,`H,`H,`H,.int 1,`H,.int 1,`H,`H])
  (Yl:W.nsIn K mainGlobals "EACH"=some (some (.ref vD)))
  (XQ:K.lookup vD=some aeo)
  (VB:jc aeo [.ref bE0,.ref bE1,.ref bE2,.ref bE3,.ref bE4,.ref bE5,.ref bE6,.ref bE7,.ref bE8,.ref bE9,.ref ahi,.ref ahh,.ref ahg,.ref ahf,.ref ahe])
  (lE0:K.lookup bE0=some oE0)(tE0:jc oE0 [`H,.int 1,`H,.int 1,.int 2,.int 3,.int 4,.int 1,.int 1,.int 1,`H,`H,.int 3,`H,.int 1169])
  (lE1:K.lookup bE1=some oE1)(tE1:jc oE1 [`H,.int 4,`H,.int 3,.int 1,.int 5,`H,.int 2,.int 1,.int 1,`H,`H,.int 4,`H,.int 1169])
  (lE2:K.lookup bE2=some oE2)(tE2:jc oE2 [`H,.int 4,.int 1,.int 6,.int 3,.int 6,.int 1,.int 3,.int 1,.int 1,`H,`H,.int 5,`H,.int 1169])
  (lE3:K.lookup bE3=some oE3)(tE3:jc oE3 [`H,.int 5,`H,.int 8,.int 3,.int 8,.int 1,.int 4,.int 1,.int 1,`H,`H,.int 6,`H,.int 1169])
  (lE4:K.lookup bE4=some oE4)(tE4:jc oE4 [`H,.int 6,`H,.int 7,.int 3,.int 9,.int 1,.int 5,.int 1,.int 1,`H,`H,.int 7,`H,.int 1169])
  (lE5:K.lookup bE5=some oE5)(tE5:jc oE5 [`H,.int 7,`H,.int 8,.int 3,.int 10,.int 2,.int 6,.int 1,.int 1,`H,`H,.int 8,`H,.int 1169])
  (lE6:K.lookup bE6=some oE6)(tE6:jc oE6 [`H,.int 8,`H,.int 12,.int 4,.int 12,.int 2,.int 7,.int 1,.int 1,`H,`H,.int 9,`H,.int 1169])
  (lE7:K.lookup bE7=some oE7)(tE7:jc oE7 [`H,.int 9,`H,.int 9,.int 3,.int 12,.int 4,.int 9,.int 1,.int 1,`H,`H,.int 11,`H,.int 1169])
  (lE8:K.lookup bE8=some oE8)(tE8:jc oE8 [`H,.int 9,`H,.int 8,.int 3,.int 12,.int 4,.int 8,.int 2,.int 1,`H,`H,.int 11,`H,.int 1169])
  (lE9:K.lookup bE9=some oE9)(tE9:jc oE9 [`H,`H,.int 1,.int 19,.int 15,.int 14,.int 7,.int 10,.int 1,.int 1,`H,`H,.int 12,`H,.int 1169])
  (agL:K.lookup ahi=some akj)(afE:jc akj [`H,.int 1,`H,.int 17,.int 11,.int 12,.int 4,.int 9,.int 2,.int 1,`H,`H,.int 12,`H,.int 1169])
  (agK:K.lookup ahh=some aki)(afD:jc aki [`H,.int 10,`H,.int 8,.int 1,.int 11,`H,.int 10,`H,.int 1,`H,`H,.int 11,`H,.int 1169])
  (agJ:K.lookup ahg=some akh)(afC:jc akh [`H,.int 1,`H,`H,`H,.int 1,`H,`H,.int 1,.int 1,`H,`H,.int 2,`H,.int 1169])
  (agI:K.lookup ahf=some akg)(afB:jc akg [`H,`H,`H,`H,`H,`H,`H,`H,`H,`H,`H,`H,`H,.int 1,`H])
  (agH:K.lookup ahe=some akf)(afA:jc akf [`H,`H,`H,`H,`H,`H,`H,`H,`H,`H,`H,`H,`H,.int 1,`H])
  (abH:W.nsIn K mainGlobals "min"=some none)(abI:W.nsIn K mainGlobals "len"=some none)(Qu:W.nsIn K mainGlobals "tuple"=some none)(CN:W.nsIn K mainGlobals "reversed"=some none)(Qv:W.nsIn K mainGlobals "range"=some none)(abF:W.nsIn K mainGlobals "sum"=some none)(abE:W.nsIn K mainGlobals "zip"=some none)(Vv:W.nsIn K mainGlobals "list"=some none)(xG:W.nsIn K mainGlobals "isinstance"=some none)(abG:W.nsIn K mainGlobals "str"=some none)(abJ:W.nsIn K mainGlobals "any"=some none):
  ∃fd:FuncData,(∀(s:Shared)(v:Value),BindsTo s fd ⟨[v],[]⟩ [("_law_script",v)])/\∀base:Heap,K.In base->base.Ns mainGlobals mg->FnOk l.prog w K mg base CX0 60 fa fd ["_law_script"] (spLaw K):=by
 have e:=hfa.symm.trans (W.mg_of X G a52)
 cases e
 have F1:=fun_mk (st:=jd) l1 c1 k1
 have F2:=fun_mk (st:=rP) l2 c2 k2
 have F3:=fun_mk (st:=tW) l3 c3 k3
 have F4:=fun_mk (st:=jr) l4 c4 k4
 have F5:=fun_mk (st:=ju) l5 c5 k5
 have F6:=fun_mk (st:=rQ) l6 c6 k6
 have F7:=fun_mk (st:=oV) l7 c7 k7
 have F8:=fun_mk (st:=nJ) l8 c8 k8
 have F9:=fun_mk (st:=u5) l9 c9 k9
 have F10:=fun_mk (st:=dR) l10 c10 k10
 have F11:=fun_mk (st:=Dk) l11 c11 k11
 have F12:=fun_mk (st:=gB) l12 c12 k12
 have F13:=fun_mk (st:=nF) l13 c13 k13
 have F14:=fun_mk (st:=jL) l14 c14 k14
 have F15:=fun_mk (st:=nu) l15 c15 k15
 have F16:=fun_mk (st:=nO) l16 c16 k16
 have F17:=fun_mk (st:=nH) l17 c17 k17
 have F18:=fun_mk (st:=iJ) l18 c18 k18
 have F19:=fun_mk (st:=eO) l19 c19 k19
 have F20:=fun_mk (st:=qR) l20 c20 k20
 have F21:=fun_mk (st:=jt) l21 c21 k21
 have F22:=fun_mk (st:=u6) l22 c22 k22
 have F23:=fun_mk (st:=qT) l23 c23 k23
 have F24:=fun_mk (st:=nj) l24 c24 k24
 have F25:=fun_mk (st:=tV) l25 c25 k25
 have F26:=fun_mk (st:=lG) l26 c26 k26
 have F27:=fun_mk (st:=jH) l27 c27 k27
 have F28:=fun_mk (st:=lH) l28 c28 k28
 have F29:=fun_mk (st:=iK) l29 c29 k29
 have F30:=fun_mk (st:=jG) l30 c30 k30
 have F31:=fun_mk (st:=jJ) l31 c31 k31
 have F32:=fun_mk (st:=xT) l32 c32 k32
 have F33:=fun_mk (st:=nA) l33 c33 k33
 have F34:=fun_mk (st:=uL) l34 c34 k34
 have F35:=fun_mk (st:=xU) l35 c35 k35
 have F36:=fun_mk (st:=jK) l36 c36 k36
 have F37:=fun_mk (st:=m_) l37 c37 k37
 have F38:=fun_mk (st:=nq) l38 c38 k38
 have F39:=fun_mk (st:=lJ) l39 c39 k39
 have F40:=fun_mk (st:=nD) l40 c40 k40
 have F41:=fun_mk (st:=tX) l41 c41 k41
 have F42:=fun_mk (st:=iy) l42 c42 k42
 have F43:=fun_mk (st:=fX) l43 c43 k43
 have F44:=fun_mk (st:=nQ) l44 c44 k44
 have F45:=fun_mk (st:=Dj) l45 c45 k45
 have F46:=fun_mk (st:=lF) l46 c46 k46
 have F47:=fun_mk (st:=ni) l47 c47 k47
 have F48:=fun_mk (st:=xR) l48 c48 k48
 have F49:=fun_mk (st:=jM) l49 c49 k49
 have F50:=fun_mk (st:=iB) l50 c50 k50
 have F51:=fun_mk (st:=iz) l51 c51 k51
 have F52:=fun_mk (st:=uM) l52 c52 k52
 have b1:=F1.binds (ps:=["tree"]) `d
 have m1:=W.mg_of X G a1
 have b2:=F2.binds (ps:=["tree"]) `d
 have m2:=W.mg_of X G a2
 have b3:=F3.binds (ps:=["tree"]) `d
 have m3:=W.mg_of X G a3
 have b4:=F4.binds (ps:=["word"]) `d
 have m4:=W.mg_of X G a4
 have b5:=F5.binds (ps:=["word"]) `d
 have m5:=W.mg_of X G a5
 have b6:=F6.binds (ps:=["tree"]) `d
 have m6:=W.mg_of X G a6
 have b7:=F7.binds (ps:=["sort"]) `d
 have m7:=W.mg_of X G a7
 have b8:=F8.binds (ps:=["yes","no"]) `m
 have m8:=W.mg_of X G a8
 have b9:=F9.binds (ps:=["body"]) `d
 have m9:=W.mg_of X G a9
 have b10:=F10.binds (ps:=["names"]) `d
 have m10:=W.mg_of X G a10
 have b11:=F11.binds (ps:=["text","tree"]) `m
 have m11:=W.mg_of X G a11
 have b12:=F12.binds (ps:=[]) fun _ _ _ _ _ _ us hl=>match us,hl with|[],_=>rfl
 have m12:=W.mg_of X G a12
 have b13:=F13.binds (ps:=[]) fun _ _ _ _ _ _ us hl=>match us,hl with|[],_=>rfl
 have m13:=W.mg_of X G a13
 have b14:=F14.binds (ps:=[]) fun _ _ _ _ _ _ us hl=>match us,hl with|[],_=>rfl
 have m14:=W.mg_of X G a14
 have b15:=F15.binds (ps:=[]) fun _ _ _ _ _ _ us hl=>match us,hl with|[],_=>rfl
 have m15:=W.mg_of X G a15
 have b16:=F16.binds (ps:=[]) fun _ _ _ _ _ _ us hl=>match us,hl with|[],_=>rfl
 have m16:=W.mg_of X G a16
 have b17:=F17.binds (ps:=["sort"]) `d
 have m17:=W.mg_of X G a17
 have b18:=F18.binds (ps:=[]) fun _ _ _ _ _ _ us hl=>match us,hl with|[],_=>rfl
 have m18:=W.mg_of X G a18
 have b19:=F19.binds (ps:=[]) fun _ _ _ _ _ _ us hl=>match us,hl with|[],_=>rfl
 have m19:=W.mg_of X G a19
 have b20:=F20.binds (ps:=["text","tree"]) `m
 have m20:=W.mg_of X G a20
 have b21:=F21.binds (ps:=["sort","top"]) `m
 have m21:=W.mg_of X G a21
 have b22:=F22.binds (ps:=["tally"]) `d
 have m22:=W.mg_of X G a22
 have b23:=F23.binds (ps:=["one","other"]) `m
 have m23:=W.mg_of X G a23
 have b24:=F24.binds (ps:=["tally"]) `d
 have m24:=W.mg_of X G a24
 have b25:=F25.binds (ps:=["height","text"]) `m
 have m25:=W.mg_of X G a25
 have b26:=F26.binds (ps:=["body"]) `d
 have m26:=W.mg_of X G a26
 have b27:=F27.binds (ps:=[]) fun _ _ _ _ _ _ us hl=>match us,hl with|[],_=>rfl
 have m27:=W.mg_of X G a27
 have b28:=F28.binds (ps:=[]) fun _ _ _ _ _ _ us hl=>match us,hl with|[],_=>rfl
 have m28:=W.mg_of X G a28
 have b29:=F29.binds (ps:=[]) fun _ _ _ _ _ _ us hl=>match us,hl with|[],_=>rfl
 have m29:=W.mg_of X G a29
 have b30:=F30.binds (ps:=["tree"]) `d
 have m30:=W.mg_of X G a30
 have b31:=F31.binds (ps:=["text"]) `d
 have m31:=W.mg_of X G a31
 have b32:=F32.binds (ps:=["text"]) `d
 have m32:=W.mg_of X G a32
 have b33:=F33.binds (ps:=["word"]) `d
 have m33:=W.mg_of X G a33
 have b34:=F34.binds (ps:=["word"]) `d
 have m34:=W.mg_of X G a34
 have b35:=F35.binds (ps:=["signs"]) `d
 have m35:=W.mg_of X G a35
 have b36:=F36.binds (ps:=["signs"]) `d
 have m36:=W.mg_of X G a36
 have b37:=F37.binds (ps:=["piece"]) `d
 have m37:=W.mg_of X G a37
 have b38:=F38.binds (ps:=["signs"]) `d
 have m38:=W.mg_of X G a38
 have b39:=F39.binds (ps:=["row"]) `d
 have m39:=W.mg_of X G a39
 have b40:=F40.binds (ps:=["row"]) `d
 have m40:=W.mg_of X G a40
 have b41:=F41.binds (ps:=["tree","place"]) `m
 have m41:=W.mg_of X G a41
 have b42:=F42.binds (ps:=["row"]) `d
 have m42:=W.mg_of X G a42
 have b43:=F43.binds (ps:=["row","most"]) `m
 have m43:=W.mg_of X G a43
 have b44:=F44.binds (ps:=["row"]) `d
 have m44:=W.mg_of X G a44
 have b45:=F45.binds (ps:=["text","tree","budget"]) fun _ _ _ _ _ _ us hl=>match us,hl with|[_,_,_],_=>rfl
 have m45:=W.mg_of X G a45
 have b46:=F46.binds (ps:=["text","tree","budget"]) fun _ _ _ _ _ _ us hl=>match us,hl with|[_,_,_],_=>rfl
 have m46:=W.mg_of X G a46
 have b47:=F47.binds (ps:=["stand","budget"]) `m
 have m47:=W.mg_of X G a47
 have b48:=F48.binds (ps:=["step","load","stack"]) fun _ _ _ _ _ _ us hl=>match us,hl with|[_,_,_],_=>rfl
 have m48:=W.mg_of X G a48
 have b49:=F49.binds (ps:=["_law_script"]) `d
 have m49:=W.mg_of X G a49
 have b50:=F50.binds (ps:=["_law_deck_here","_law_many"]) `m
 have m50:=W.mg_of X G a50
 have b51:=F51.binds (ps:=["_law_deck_here","_law_deep"]) `m
 have m51:=W.mg_of X G a51
 have JC:=W.mg_none_of X G abH
 have cY:=W.mg_none_of X G abI
 have cA:=W.mg_none_of X G Qu
 have cX:=W.mg_none_of X G CN
 have iH:=W.mg_none_of X G Qv
 have acy:=W.mg_none_of X G abF
 have JB:=W.mg_none_of X G abE
 have pU:=W.mg_none_of X G Vv
 have aY:=W.mg_none_of X G xG
 have v8:=W.mg_none_of X G abG
 have acE:=W.mg_none_of X G abJ
 have dG:=W.mg_of X G Fi
 have ji:=W.mg_of X G N7
 have Xy:=W.mg_of X G Tz
 have vo:=W.mg_of X G TJ
 have qZ:=W.mg_of X G N8
 have Xz:=W.mg_of X G TF
 have O:`j:=⟨⟨⟨Dq,Ed,Dn,Di⟩,Ef,Dw,CV,Dg,Et,cn,ct⟩,⟨⟨Lq,M9,Lh,Le⟩,Nf,Mh,KH,Lb,NP,cn,ct⟩,⟨Rp,R9,Rk,Ra⟩,⟨Rr,Sd,Rn,Rc⟩,⟨Lr,M_,Li,Lf⟩,⟨Rq,R_,Rm,Rb⟩,um,qy,yh,vL,zO,zN,DG,Hj,zP,zM,zR,yg,yj,vM,vK,yd,uh,zQ,iTF,iTL,iFF,iLF,iLL⟩
 have vI:=fun_mk (st:=dZ) n_ oH oh
 have oK:=vI.binds (ps:=["self","item","behind"]) fun _ _ _ _ _ _ us hl=>match us,hl with|[_,_,_],_=>rfl
 have Fj:Mk K ao gF:=⟨DK,d8,ou,DY⟩
 have zc:=fun_mk (st:=fY) qC qK qF
 have qM:=zc.binds (ps:=["self","tree","place"]) fun _ _ _ _ _ _ us hl=>match us,hl with|[_,_,_],_=>rfl
 have Ob:Mk K aA iR:=⟨Mq,gk,qH,MF⟩
 have zH:=fun_mk (st:=gO) rY tD sy
 have tK:=zH.binds (ps:=["self","tree"]) `m
 have TX:Mk K aB jy:=⟨RB,gR,sJ,RZ⟩
 have vY:=fun_mk (st:=fC) pH pJ jZ
 have pK:=vY.binds (ps:=["self"]) `d
 have pL:Meth K aB "body_parts" gZ:=⟨fJ,pI,jZ⟩
 have zK:=fun_mk (st:=gP) su tG sH
 have dU:=zK.binds (ps:=["self","tree"]) `m
 have rE:Mk K aG jA:=⟨RG,cZ,sS,R3⟩
 have CK:=fun_mk (st:=iD) uq uE o9
 have uF:=CK.binds (ps:=["self","place"]) `m
 have uK:Meth K aG "word_at" kI:=⟨iI,ur,o9⟩
 have zf:=fun_mk (st:=fZ) qD qL qG
 have dI:=zf.binds (ps:=["self","text"]) `m
 have oO:Mk K aJ iT:=⟨Mr,cR,qI,MJ⟩
 have zJ:=fun_mk (st:=eU) rZ tE sG
 have tL:=zJ.binds (ps:=["self","stand","budget"]) fun _ _ _ _ _ _ us hl=>match us,hl with|[_,_,_],_=>rfl
 have TY:Mk K aF jz:=⟨RD,gU,sO,R0⟩
 have Fx:=fun_mk (st:=je) vN vQ qp
 have jj:=Fx.binds (ps:=["self"]) `d
 have jk:Meth K aF "at_end" lV:=⟨dX,vO,qp⟩
 have Qq:=fun_mk (st:=oY) DX Ey wj
 have lN:=Qq.binds (ps:=["self"]) `d
 have lR:Meth K aF "top" sW:=⟨iw,Ec,wj⟩
 have Jl:=fun_mk (st:=j7) yu yN sE
 have kW:=Jl.binds (ps:=["self"]) `d
 have k_:Meth K aF "tally" oA:=⟨fB,yw,sE⟩
 have Kz:=fun_mk (st:=lZ) zZ Aq uO
 have A_:=Kz.binds (ps:=["self"]) `d
 have Bm:Meth K aF "step" pZ:=⟨mF,Ab,uO⟩
 have KC:=fun_mk (st:=mj) z_ Ar uP
 have Ba:=KC.binds (ps:=["self","step","going","word"]) fun _ _ _ _ _ _ us hl=>match us,hl with|[_,_,_,_],_=>rfl
 have Bo:Meth K aF "move" p8:=⟨mH,Ac,uP⟩
 have Qp:=fun_mk (st:=oX) DW Ew D_
 have Ez:=Qp.binds (ps:=["self"]) `d
 have afg:=fun_mk (st:=BK) XM YF Px
 have YM:=afg.binds (ps:=["self","piece"]) `m
 have Za:Meth K C "take" Hz:=⟨Cw,X4,Px⟩
 have abC:=fun_mk (st:=wN) RW Tf k_enter
 have JH:=abC.binds (ps:=["self","place"]) `m
 have JL:Meth K C "enter" Cp:=⟨xr,R8,k_enter⟩
 have abA:=fun_mk (st:=wM) RT Te JF
 have Cv:=abA.binds (ps:=["self"]) `d
 have Cy:Meth K C "leave" Cm:=⟨xq,R7,JF⟩
 have Ky:=fun_mk (st:=lY) zY Ao uN
 have Ax:=Ky.binds (ps:=["self"]) `d
 have Bl:Meth K C "bracketed" pY:=⟨mC,Aa,uN⟩
 have Qo:=fun_mk (st:=oW) DQ Eu wg
 have wA:=Qo.binds (ps:=["self","word"]) `m
 have wC:Meth K C "add_word" sU:=⟨pB,Ea,wg⟩
 have abz:=fun_mk (st:=wL) RQ Td k_whole
 have Tg:=abz.binds (ps:=["self"]) `d
 have TV:Meth K C "whole" Ck:=⟨xg,R6,k_whole⟩
 have cC:Cls K C:=⟨pg,hd,po,sa⟩
 have MK:Mk K C sV:=⟨mk,pC,Eb,kc⟩
 have Hq:=W.mg_of X G aC
 have Ci:=W.mg_of X G Ym
 have Ce:=W.mg_of X G Ye
 have q_:=W.mg_of X G HN
 have o8:=W.mg_of X G El
 have yt:=W.mg_of X G yx
 have kj:=W.mg_of X G yC
 have Hr:=W.mg_of X G HF
 have XC:=W.mg_of X G Yg
 have wQ:=W.mg_of X G Sx
 have XD:=W.mg_of X G Yi
 have Mu:=W.mg_of X G Ni
 have Cg:=W.mg_of X G Yh
 have Mv:=W.mg_of X G Nk
 have RM:=W.mg_of X G Sv
 have Rj:=fun H=>QH.sq (H:=H) RX
 have d7:=W.mg_of X G Ss
 have jg:=fun H=>Qw.sq (H:=H) JD
 have wI:∃ob,K.lookup bh=some ob/\ob.cls=`a/\ob.dict=none:=⟨_,JD,Qx⟩
 have g_:=W.mg_of X G Ej
 have dH:=W.mg_of X G Yk
 have cI:=W.mg_of X G Sh
 have qm:=W.mg_of X G acO
 have XF:=W.mg_of X G Yj
 have jh:=W.mg_of X G vP
 have Ht:=W.mg_of X G HJ
 have DN:=W.mg_of X G Ek
 have uo:=W.mg_of X G uw
 have Mt:=W.mg_of X G Nh
 have nY:=fun H=>KQ.sq (H:=H) Mx
 have zW:=W.mg_of X G Ad
 have zX:=W.mg_of X G Ae
 have qz:=W.mg_of X G Nj
 have pX:=W.mg_of X G Yd
 have Mw:=W.mg_of X G Nm
 have Lg:=fun H=>KR.sq (H:=H) Mz
 have XH:=W.mg_of X G Yl
 have GX:=fun H=>VB.sq (H:=H) XQ
 have GX:∀H,ahR K H vD Ei:=fun H=>⟨_,GX H,.cons ⟨bE0,rfl,tE0.sq lE0⟩ (.cons ⟨bE1,rfl,tE1.sq lE1⟩ (.cons ⟨bE2,rfl,tE2.sq lE2⟩ (.cons ⟨bE3,rfl,tE3.sq lE3⟩ (.cons ⟨bE4,rfl,tE4.sq lE4⟩ (.cons ⟨bE5,rfl,tE5.sq lE5⟩ (.cons ⟨bE6,rfl,tE6.sq lE6⟩ (.cons ⟨bE7,rfl,tE7.sq lE7⟩ (.cons ⟨bE8,rfl,tE8.sq lE8⟩ (.cons ⟨bE9,rfl,tE9.sq lE9⟩ (.cons ⟨ahi,rfl,afE.sq agL⟩ (.cons ⟨ahh,rfl,afD.sq agK⟩ (.cons ⟨ahg,rfl,afC.sq agJ⟩ (.cons ⟨ahf,rfl,afB.sq agI⟩ (.cons ⟨ahe,rfl,afA.sq agH⟩ (.nil)))))))))))))))⟩
 refine⟨W.fnOf "law" "law" (defArgs uM) (defBody uM) (defScope uM) .none akv akN ajY alD ag8 akO,fun s v=>.of_eq rfl,fun base _ _=>?_⟩
 have O1:=agp (P:=l.prog) (w:=w) (mg:=mg) (base:=base) F1
 have O2:=aiG (P:=l.prog) (w:=w) (mg:=mg) (base:=base) F2
 have O3:=agm (P:=l.prog) (w:=w) (mg:=mg) (base:=base) F3
 have O6:=ake (P:=l.prog) (w:=w) (mg:=mg) (base:=base) F6
 have O7:=agl (P:=l.prog) (w:=w) (mg:=mg) (base:=base) F7
 have O8:=aiJ (P:=l.prog) (w:=w) (mg:=mg) (base:=base) dH cT F8
 have O9:=aiI (P:=l.prog) (w:=w) (mg:=mg) (base:=base) cI cu F9
 have O20:=agr (P:=l.prog) (w:=w) (mg:=mg) (base:=base) F20
 have O21:=ZM (P:=l.prog) (w:=w) (mg:=mg) (base:=base) O dH cT q_ lq o8 jw cI cu yt nT kj gC g_ eV Hr vd F21
 have O22:=aiK (P:=l.prog) (w:=w) (mg:=mg) (base:=base) acy qz lK pX lU F22
 have O23:=ags (P:=l.prog) (w:=w) (mg:=mg) (base:=base) cA JB F23
 have O30:=W_ (P:=l.prog) (w:=w) (mg:=mg) (base:=base) pU cX F30
 have O31:=(Vd (P:=l.prog) (w:=w) (mg:=mg) (base:=base) aY v8 cY cA F31).imp afs
 have O36:=Xb (P:=l.prog) (w:=w) (mg:=mg) (base:=base) F36
 have O42:=W6 (P:=l.prog) (w:=w) (mg:=mg) (base:=base) O aY ji F42
 have O50:=Xe (P:=l.prog) (w:=w) (mg:=mg) (base:=base) cY F50
 have Jg:=FN (P:=l.prog) (w:=w) (mg:=mg) (base:=base) O vI
 have Oa:=JX (P:=l.prog) (w:=w) (mg:=mg) (base:=base) O zc
 have zG:=LC (P:=l.prog) (w:=w) (mg:=mg) (base:=base) O zK
 have yV:=JZ (P:=l.prog) (w:=w) (mg:=mg) (base:=base) O zf
 have Fw:=Rx (P:=l.prog) (w:=w) (mg:=mg) (base:=base) O Fx
 have Qh:=ZV (P:=l.prog) (w:=w) (mg:=mg) (base:=base) O Qq
 have Jf:=Ve (P:=l.prog) (w:=w) (mg:=mg) (base:=base) O cA Jl
 have ade:=ZS (P:=l.prog) (w:=w) (mg:=mg) (base:=base) cC nR nP nN Qp
 have ajn:=agq (P:=l.prog) (w:=w) (mg:=mg) (base:=base) cC nR nP nN abC
 have ajm:=agn (P:=l.prog) (w:=w) (mg:=mg) (base:=base) cC nR nP nN cA abA
 have adb:=ZR (P:=l.prog) (w:=w) (mg:=mg) (base:=base) cC nR nP nN Qo
 have ajl:=agj (P:=l.prog) (w:=w) (mg:=mg) (base:=base) cC nR nP nN cY cA abz
 have O4:=ace (P:=l.prog) (w:=w) (mg:=mg) (base:=base) JC cY g_ eV F1 (O1.mono `B) b1 m1 F4
 have O5:=ach (P:=l.prog) (w:=w) (mg:=mg) (base:=base) F2 (O2.mono `B) b2 m2 F5
 have O10:=aen (P:=l.prog) (w:=w) (mg:=mg) (base:=base) cA d7 jg F7 (O7.mono `B) b7 m7 wI F10
 have O24:=aem (P:=l.prog) (w:=w) (mg:=mg) (base:=base) JB cA Mw Lg XH GX F23 (O23.mono `B) b23 m23 F24
 have O26:=ZL (P:=l.prog) (w:=w) (mg:=mg) (base:=base) F6 (O6.mono `B) b6 m6 F26
 have O38:=ab9 (P:=l.prog) (w:=w) (mg:=mg) (base:=base) F31 (O31.mono `B) b31 m31 F38
 have O39:=ZQ (P:=l.prog) (w:=w) (mg:=mg) (base:=base) O aY F1 (O1.mono `B) b1 m1 dG ji F39
 have O43:=Ph (P:=l.prog) (w:=w) (mg:=mg) (base:=base) O aY F42 (O42.mono `B) b42 m42 dG F43
 have O44:=acn (P:=l.prog) (w:=w) (mg:=mg) (base:=base) O aY cA F42 (O42.mono `B) b42 m42 dG F44
 have O49:=Xf (P:=l.prog) (w:=w) (mg:=mg) (base:=base) cY iH JC F49
 have O11:=ok_put (P:=l.prog) (w:=w) (mg:=mg) (base:=base) wQ qU F7 (O7.mono `B) b7 m7 F6 (O6.mono `B) b6 m6 F11
 have O13:=acg (P:=l.prog) (w:=w) (mg:=mg) (base:=base) F6 (O6.mono `B) b6 m6 F10 (O10.mono `B) b10 m10 F13
 have O18:=Va (P:=l.prog) (w:=w) (mg:=mg) (base:=base) cI cu jh fM zW pQ zX pR F10 (O10.mono `B) b10 m10 F8 (O8.mono `B) b8 m8 F18
 have O19:=Lx (P:=l.prog) (w:=w) (mg:=mg) (base:=base) cI cu F10 (O10.mono `B) b10 m10 F19
 have O28:=ZP (P:=l.prog) (w:=w) (mg:=mg) (base:=base) F6 (O6.mono `B) b6 m6 F10 (O10.mono `B) b10 m10 F28
 have O34:=akd (P:=l.prog) (w:=w) (mg:=mg) (base:=base) acE cI cu qm mO dH cT g_ eV F1 (O1.mono `B) b1 m1 F4 (O4.mono `B) b4 m4 F5 (O5.mono `B) b5 m5 F34
 have O41:=ago (P:=l.prog) (w:=w) (mg:=mg) (base:=base) O cY ji Ob (Oa.mono `B) qM F41
 have Kd:=Hf (P:=l.prog) (w:=w) (mg:=mg) (base:=base) O F3 (O3.mono `B) b3 m3 vY
 have Qi:=Lz (P:=l.prog) (w:=w) (mg:=mg) (base:=base) O cX pU Mu xV qZ vo oO (yV.mono `B) dI rE (zG.mono `B) dU zJ
 have aat:=Xd (P:=l.prog) (w:=w) (mg:=mg) (base:=base) cC nR nP nN F9 (O9.mono `B) b9 m9 F8 (O8.mono `B) b8 m8 Cy (ajm.mono `B) Cv Ky
 have O17:=aci (P:=l.prog) (w:=w) (mg:=mg) (base:=base) qm mO XF GQ dH cT jh fM Ht vf DN rR uo j8 Mt nY F10 (O10.mono `B) b10 m10 F8 (O8.mono `B) b8 m8 F17
 have O27:=Xa (P:=l.prog) (w:=w) (mg:=mg) (base:=base) F10 (O10.mono `B) b10 m10 F28 (O28.mono `B) b28 m28 F27
 have O33:=acd (P:=l.prog) (w:=w) (mg:=mg) (base:=base) qm mO dH cT d7 jg cI cu F34 (O34.mono `B) b34 m34 F30 (O30.mono `B) b30 m30 F4 (O4.mono `B) b4 m4 F5 (O5.mono `B) b5 m5 F1 (O1.mono `B) b1 m1 F2 (O2.mono `B) b2 m2 F33
 have O37:=ab8 (P:=l.prog) (w:=w) (mg:=mg) (base:=base) d7 jg Ci vg Ce u9 F7 (O7.mono `B) b7 m7 F6 (O6.mono `B) b6 m6 F38 (O38.mono `B) b38 m38 F34 (O34.mono `B) b34 m34 wI F37
 have O40:=acf (P:=l.prog) (w:=w) (mg:=mg) (base:=base) O aY F41 (O41.mono `B) b41 m41 dG ji F40
 have Qg:=Ly (P:=l.prog) (w:=w) (mg:=mg) (base:=base) O dH cT cI cu F4 (O4.mono `B) b4 m4 F5 (O5.mono `B) b5 m5 F1 (O1.mono `B) b1 m1 F2 (O2.mono `B) b2 m2 vo rE (zG.mono `B) dU zH
 have O51:=agt (P:=l.prog) (w:=w) (mg:=mg) (base:=base) cA iH F50 (O50.mono `B) b50 m50 F51 b51 m51 3
 have O16:=acj (P:=l.prog) (w:=w) (mg:=mg) (base:=base) iH cX cI cu F8 (O8.mono `B) b8 m8 F18 (O18.mono `B) b18 m18 F19 (O19.mono `B) b19 m19 F17 (O17.mono `B) b17 m17 F10 (O10.mono `B) b10 m10 F16
 have O29:=Vb (P:=l.prog) (w:=w) (mg:=mg) (base:=base) F26 (O26.mono `B) b26 m26 F27 (O27.mono `B) b27 m27 F29
 have O32:=aiF (P:=l.prog) (w:=w) (mg:=mg) (base:=base) pU cX aY v8 F33 (O33.mono `B) b33 m33 F32
 have O15:=ab_ (P:=l.prog) (w:=w) (mg:=mg) (base:=base) F10 (O10.mono `B) b10 m10 F16 (O16.mono `B) b16 m16 F8 (O8.mono `B) b8 m8 F15
 have O48:=aiE (P:=l.prog) (w:=w) (mg:=mg) (base:=base) O qm mO Ci vg pX lU XC GJ wQ qU XD GK Ce u9 F40 (O40.mono `B) b40 m40 F39 (O39.mono `B) b39 m39 dG Fj (Jg.mono `B) oK F48
 have TQ:=Pj (P:=l.prog) (w:=w) (mg:=mg) (base:=base) O cY Xy TX (Qg.mono `B) tK CK
 have O14:=Xc (P:=l.prog) (w:=w) (mg:=mg) (base:=base) F9 (O9.mono `B) b9 m9 F15 (O15.mono `B) b15 m15 F10 (O10.mono `B) b10 m10 F14
 have aav:=Xh (P:=l.prog) (w:=w) (mg:=mg) (base:=base) O Cg u_ kj gC Mv xW o8 jw q_ lq F48 (O48.mono `B) b48 m48 qZ pL (Kd.mono `B) pK oO (yV.mono `B) dI KC
 have O12:=Vc (P:=l.prog) (w:=w) (mg:=mg) (base:=base) F13 (O13.mono `B) b13 m13 F14 (O14.mono `B) b14 m14 F12
 have aau:=Xg (P:=l.prog) (w:=w) (mg:=mg) (base:=base) O cY Cg u_ pX lU qz lK RM Rj F21 (O21.mono `B) b21 m21 F43 (O43.mono `B) b43 m43 uK (TQ.mono `B) uF lR (Qh.mono `B) lN Bo (aav.mono `B) Ba Kz
 have O47:=ael (P:=l.prog) (w:=w) (mg:=mg) (base:=base) O Xz TY (Qi.mono `B) tL Bm (aau.mono `B) A_ jk (Fw.mono `B) jj F47
 have O45:=akc (P:=l.prog) (w:=w) (mg:=mg) (base:=base) O F47 (O47.mono `B) b47 m47 F20 (O20.mono `B) b20 m20 F22 (O22.mono `B) b22 m22 F44 (O44.mono `B) b44 m44 k_ (Jf.mono `B) kW jk (Fw.mono `B) jj lR (Qh.mono `B) lN F45
 have O46:=ZK (P:=l.prog) (w:=w) (mg:=mg) (base:=base) O F47 (O47.mono `B) b47 m47 F20 (O20.mono `B) b20 m20 k_ (Jf.mono `B) kW F46
 have alF:=ok_take (P:=l.prog) (w:=w) (mg:=mg) (base:=base) cC nR nP nN d7 jg dH cT cI cu F37 (O37.mono `B) b37 m37 JL (ajn.mono `B) JH wC (adb.mono `B) wA Bl (aat.mono `B) Ax afg
 have O35:=aiH (P:=l.prog) (w:=w) (mg:=mg) (base:=base) cC nR nP nN aY v8 F36 (O36.mono `B) b36 m36 MK (ade.mono `B) Ez Hq Za (alF.mono `B) YM TV (ajl.mono `B) Tg F35
 have O25:=agk (P:=l.prog) (w:=w) (mg:=mg) (base:=base) iH F11 (O11.mono `B) b11 m11 F12 (O12.mono `B) b12 m12 F25
 exact ok_law (P:=l.prog) (w:=w) (mg:=mg) (base:=base) aY cA F49 (O49.mono `B) b49 m49 F51 (O51.mono `B) b51 m51 F29 (O29.mono `B) b29 m29 F50 (O50.mono `B) b50 m50 F22 (O22.mono `B) b22 m22 F24 (O24.mono `B) b24 m24 F46 (O46.mono `B) b46 m46 F45 (O45.mono `B) b45 m45 F12 (O12.mono `B) b12 m12 F25 (O25.mono `B) b25 m25 F35 (O35.mono `B) b35 m35 F32 (O32.mono `B) b32 m32 F52
theorem walk{l:W.OpenLaw}{q:Program}{loose:List Str}{XP:`Y->Heap->Prop}{YP:World->Heap->Prop}{d:DefRec}{K:Params->W.Frag}(hn:l.most=some 63)(hdf:d.params.defaults=[])
  (hY:∀(w:World)(h:Heap),YP w h->(K w.params).In h)
  (F:∀(w:World)(mg:`Y)(fa:Addr)(h:Heap),(K w.params).In h->h.Ns mainGlobals mg->mg d.name=some (.ref fa)->
   ∃fd:FuncData,(∀(s:Shared)(u:Value),BindsTo s fd ⟨[u],[]⟩ [("_law_script",u)])/\∀base:Heap,(K w.params).In base->base.Ns mainGlobals mg->FnOk l.prog w (K w.params) mg base CX0 60 fa fd ["_law_script"] (spLaw (K w.params))):
  W.WalkO q loose XP YP l.row.toRowW d [] (fun f vs=>PySem.call f vs):=
 L2.walk_of (n:=63) (k:=60) (x:="_law_script") (CX:=fun _=>CX0) (sp:=fun w=>spLaw (K w.params)) hn `B hdf ⟨rfl,`B,`B⟩ hY F (fun _ _ a ns hl _ hS=>⟨a,ns,rfl,hS,hl,fun _=>rfl⟩) fun _ _ _ _ _ z=>z
theorem aft{q:Program}{loose:List Str}{XP:`Y->Heap->Prop}{K:Params->W.Frag}{n t:Nat}{ad:List Addr}{r:W.RowW}{d:DefRec}{kwd:List (Str×Expr)}{run:Value->`L->Sem Value}
  (h:W.WalkO q loose XP (fun w hp=>(K w.params).In hp) r d kwd run)
  (hI:∀(w:World)(s₀ s₁:Shared)(args:List W.WData)(vals:`L)(as:List Addr),W.X.obsZ ad s₀=W.X.valZ K n t w->W.Laid r.records w s₀ s₁ args vals as->(K w.params).In s₁.heap):
  W.WalkX q loose XP (W.X.obsZ ad) (W.X.valZ K n t) r d kwd run:=
 fun w s₀ s₁ mg mb G y a o pm cd doc dV kV ho hd hcd hD hmg hg args vals as L hpre hlay hrd hwl hlo=>h w s₀ s₁ mg mb G (hI w s₀ s₁ args vals as y L) a o pm cd doc dV kV ho hd hcd hD hmg hg args vals as hpre hlay hrd hwl hlo
end cH
namespace PySem.W.Fast
def tw3672498581316762805:=0
def tw16452838197395365273:=0
def tw7653337125003699442:=0
def tw10008203352274253980:=0
def tw14590306417020413049:=0
def tw16417412786969199051:=0
def tw7506836076409288949:=0
def tw13042783518280352466:=0
def tw14180484941213715269:=0
def tw4984183682307719162:=0
def tw10418016592461023028:=0
def tw5221754103520458482:=0
def tw2984120399449289421:=0
def tw4305736535392885074:=0
def tw15484277433031282100:=0
def tw7434172590144429577:=0
def tw15369658836099304109:=0
def tw14672222210786728067:=0
def tw18215733531545836821:=0
def tw2868883075985540707:=0
def tw390106052328077543:=0
def tw12428349883579957354:=0
def tw16070311718034499265:=0
def tw18342676802640507793:=0
def tw6221193508907350067:=0
def tw17868674872484763134:=0
def tw1223776176378570051:=0
def tw9335414119829028849:=0
def tw15274893367595641668:=0
def tw12077497230321670961:=0
def tw13070541417092389060:=0
def tw10890179585887567675:=0
def tw8644159127733838993:=0
def tw11782298858349054342:=0
def tw17613598645057083019:=0
def tw3381880948088387402:=0
def tw3787585401058622447:=0
def tw13437690320050452290:=0
def tw17200548593369531502:=0
def tw6100127529708260826:=0
def tw16338247468211223232:=0
def tw11921660702999956189:=0
def tw6370488527628990384:=0
def tw17229815595323059442:=0
def tw14965541126866682362:=0
def tw767464555682236783:=0
def tw14241852807193308646:=0
def tw1883620032906162263:=0
def tw12697282151441654598:=0
def tw1728598072759784511:=0
def tw3924989556511016074:=0
def tw4138559430928799832:=0
def tw7947364407656279008:=0
def tw18429393937270371394:=0
def tw11458845614899270185:=0
def tw4082962806267675716:=0
def tw7503655126569642539:=0
def tw4917118690457484986:=0
def tw16905630051392264814:=0
def tw14780428184730885883:=0
def tw15986055503822540612:=0
def tw9836162712072083165:=0
def tw347774353151708923:=0
def tw8077932786283755564:=0
def tw16858681887238555651:=0
def tw16284275801506966037:=0
def tw7638164768276125113:=0
def tw5468575452729134278:=0
def tw3269047219835415863:=0
def tw11786793998583016181:=0
def tw15036254153348990520:=0
def tw4873622642306626184:=0
def tw838453279404530291:=0
def tw4232654868673819929:=0
def tw903877973317677403:=0
def tw314878935512103769:=0
def tw356413055278095822:=0
def tw5604880373229725036:=0
def tw5841347384234029425:=0
def tw7718583193872521649:=0
def tw9337009887926427587:=0
def tw11902066450810373781:=0
def tw15484302167647530758:=0
def tw11514794856700339166:=0
def tw13066438415610193563:=0
def tw2181214317063329573:=0
def tw7386961487021427839:=0
def tw11527533820222289145:=0
def tw15060138717711130872:=0
def tw9828414158008486914:=0
def tw10345120910256971357:=0
def tw14613806662711751447:=0
def tw16423555954056125855:=0
def tw16175016323013260779:=0
def tw2918685370277669530:=0
def tw1962429023744825109:=0
def tw14441724195955518327:=0
def tw16462958764922017177:=0
def tw8268619195838942225:=0
def tw5801216059682853579:=0
def tw3598606319030590652:=0
def tw892936233498084170:=0
def tw10855965442408401846:=0
def tw14343499874158310014:=0
def tw12846552389266956596:=0
def tw10494376048528984374:=0
def tw15267244858596466750:=0
def tw1973152905939566194:=0
def tw9318532885152741474:=0
def tw15650796880489619141:=0
def tw3614093702030523958:=0
def tw6892259956662814674:=0
def tw2473802731290677769:=0
def tw772493920451024602:=0
def tw11788102851898871429:=0
def tw8782016569886323463:=0
def tw3145135394734135087:=0
def tw13218435631922462538:=0
def tw7307440397282326813:=0
def tw16969945376678534955:=0
def tw11598846099722844586:=0
def tw9511607014815790480:=0
def tw10482483666720559323:=0
def tw18142914340510817923:=0
def tw5112849135560335238:=0
def tw760444356634998127:=0
def tw17717114659844887691:=0
def tw7024940239567913940:=0
def tw7730498644933860362:=0
def tw3468334776066116683:=0
def tw2053798151232799812:=0
def tw2464614071900962074:=0
def tw15351771189626934911:=0
def tw18277634161135651347:=0
def tw9984688910295512783:=0
def tw13167338916975820543:=0
def tw7811228838561750357:=0
def tw15291037233658871291:=0
def tw5269953379384190775:=0
def tw9976927772158185468:=0
def tw13772500175249578980:=0
def tw16350353301097967758:=0
def tw13231577703464092656:=0
def tw277845072921300164:=0
def tw2538526779410553327:=0
def tw15079135036194665877:=0
def tw8273206580916172704:=0
def tw5763143255712843972:=0
def tw8329470857925655276:=0
def tw1889753689547518941:=0
def tw14333113471972289468:=0
def tw1856010247328522988:=0
def tw9859889440343871093:=0
def tw6433228553602799172:=0
def tw5579541644049380773:=0
def tw1930033007577083250:=0
def tw9578709065961722904:=0
def tw11822620331041564254:=0
def tw10588394146662847996:=0
def tw14211529857195757471:=0
def tw15629220406718376886:=0
def tw16950707766559988543:=0
def tw16721058154687902365:=0
def tw18230991657207335055:=0
def tw10417679684668904091:=0
def tw7269152420221666889:=0
def tw10666000194197613748:=0
def tw10148839610168137908:=0
def tw3058710146001061143:=0
def tw16434018679123102573:=0
def tw9926081397367171726:=0
def tw18171224620745313287:=0
def tw4947601577334660943:=0
def tw17658709013156772071:=0
def tw7039417640178566049:=0
def tw5038872496840933517:=0
def tw5608087792809531755:=0
def tw4634373500167891398:=0
def tw16748578605582270871:=0
def tw2650419371514133310:=0
def tw16253193765204092742:=0
end PySem.W.Fast
open PySem PySem.W PyProof.Rows
set_option maxRecDepth 100000 in
set_option maxHeartbeats 0 in
theorem PySem.Challenge.cw_selfword_k93_whole_runner_on_the_selftel_holds : PySem.Challenge.rw_selfword_k93_whole_runner_on_the_selftel.Holds := by
 w_on; o_law; z_head; (case hw=>w_witness2)
 k_fill
 refine cH.aft (cH.walk (l:=PySem.Challenge.rw_selfword_k93_whole_runner_on_the_selftel) rfl rfl (fun w h Y=>Y) ?F) ?I
 case I =>
  intro w s₀ s₁ args vals as y L
  z_open y L KX ZH ZN ZT
  exact KX
 case F =>
  intro w mg fa h KX G hmg
  refine' cH.all_mk KX G hmg ?a1 ?l1 ?c1 ?k1 ?a2 ?l2 ?c2 ?k2 ?a3 ?l3 ?c3 ?k3 ?a4 ?l4 ?c4 ?k4 ?a5 ?l5 ?c5 ?k5 ?a6 ?l6 ?c6 ?k6 ?a7 ?l7 ?c7 ?k7 ?a8 ?l8 ?c8 ?k8 ?a9 ?l9 ?c9 ?k9 ?a10 ?l10 ?c10 ?k10 ?a11 ?l11 ?c11 ?k11 ?a12 ?l12 ?c12 ?k12 ?a13 ?l13 ?c13 ?k13 ?a14 ?l14 ?c14 ?k14 ?a15 ?l15 ?c15 ?k15 ?a16 ?l16 ?c16 ?k16 ?a17 ?l17 ?c17 ?k17 ?a18 ?l18 ?c18 ?k18 ?a19 ?l19 ?c19 ?k19 ?a20 ?l20 ?c20 ?k20 ?a21 ?l21 ?c21 ?k21 ?a22 ?l22 ?c22 ?k22 ?a23 ?l23 ?c23 ?k23 ?a24 ?l24 ?c24 ?k24 ?a25 ?l25 ?c25 ?k25 ?a26 ?l26 ?c26 ?k26 ?a27 ?l27 ?c27 ?k27 ?a28 ?l28 ?c28 ?k28 ?a29 ?l29 ?c29 ?k29 ?a30 ?l30 ?c30 ?k30 ?a31 ?l31 ?c31 ?k31 ?a32 ?l32 ?c32 ?k32 ?a33 ?l33 ?c33 ?k33 ?a34 ?l34 ?c34 ?k34 ?a35 ?l35 ?c35 ?k35 ?a36 ?l36 ?c36 ?k36 ?a37 ?l37 ?c37 ?k37 ?a38 ?l38 ?c38 ?k38 ?a39 ?l39 ?c39 ?k39 ?a40 ?l40 ?c40 ?k40 ?a41 ?l41 ?c41 ?k41 ?a42 ?l42 ?c42 ?k42 ?a43 ?l43 ?c43 ?k43 ?a44 ?l44 ?c44 ?k44 ?a45 ?l45 ?c45 ?k45 ?a46 ?l46 ?c46 ?k46 ?a47 ?l47 ?c47 ?k47 ?a48 ?l48 ?c48 ?k48 ?a49 ?l49 ?c49 ?k49 ?a50 ?l50 ?c50 ?k50 ?a51 ?l51 ?c51 ?k51 ?a52 ?l52 ?c52 ?k52 ?Fi ?Dq ?Ed ?Dn ?Di ?DK ?DY ?um ?qy ?N7 ?Lq ?M9 ?Lh ?Le ?Mq ?MF ?yh ?vL ?Tz ?Rp ?R9 ?Rk ?Ra ?RB ?RZ ?zO ?zN ?DG ?Hj ?zP ?zM ?TJ ?Rr ?Sd ?Rn ?Rc ?RG ?R3 ?zR ?yg ?N8 ?Lr ?M_ ?Li ?Lf ?Mr ?MJ ?yj ?vM ?TF ?Rq ?R_ ?Rm ?Rb ?RD ?R0 ?vK ?yd ?uh ?zQ ?Ef ?Dw ?CV ?Dg ?Et ?Nf ?Mh ?KH ?Lb ?NP ?cn ?ct ?iTF ?iTL ?iFF ?iLF ?iLL ?d8 ?ou ?n_ ?oH ?oh ?gk ?qH ?qC ?qK ?qF ?gR ?sJ ?rY ?tD ?sy ?fJ ?pI ?pH ?pJ ?jZ ?cZ ?sS ?su ?tG ?sH ?iI ?ur ?uq ?uE ?o9 ?cR ?qI ?qD ?qL ?qG ?gU ?sO ?rZ ?tE ?sG ?dX ?vO ?vN ?vQ ?qp ?iw ?Ec ?DX ?Ey ?wj ?fB ?yw ?yu ?yN ?sE ?mF ?Ab ?zZ ?Aq ?uO ?mH ?Ac ?z_ ?Ar ?uP ?aC ?pC ?Eb ?DW ?Ew ?D_ ?Cw ?X4 ?XM ?YF ?Px ?xr ?R8 ?RW ?Tf ?k_enter ?xq ?R7 ?RT ?Te ?JF ?mC ?Aa ?zY ?Ao ?uN ?pB ?Ea ?DQ ?Eu ?wg ?xg ?R6 ?RQ ?Td ?k_whole ?pg ?hd ?po ?sa ?mk ?kc ?nR ?nP ?nN ?Ym ?vg ?Ye ?u9 ?HN ?lq ?El ?jw ?yx ?nT ?yC ?gC ?HF ?vd ?Yg ?GJ ?Sx ?qU ?Yi ?GK ?Ni ?xV ?Yh ?u_ ?Nk ?xW ?Sv ?RX ?QH ?Ss ?JD ?Qw ?Qx ?Ej ?eV ?Yk ?cT ?Sh ?cu ?acO ?mO ?Yj ?GQ ?vP ?fM ?HJ ?vf ?Ek ?rR ?uw ?j8 ?Nh ?Mx ?KQ ?Ad ?pQ ?Ae ?pR ?Nj ?lK ?Yd ?lU ?Nm ?Mz ?KR ?Yl ?XQ ?VB ?lE0 ?tE0 ?lE1 ?tE1 ?lE2 ?tE2 ?lE3 ?tE3 ?lE4 ?tE4 ?lE5 ?tE5 ?lE6 ?tE6 ?lE7 ?tE7 ?lE8 ?tE8 ?lE9 ?tE9 ?agL ?afE ?agK ?afD ?agJ ?afC ?agI ?afB ?agH ?afA ?abH ?abI ?Qu ?CN ?Qv ?abF ?abE ?Vv ?xG ?abG ?abJ
  case a1|l1|c1|k1|a2|l2|c2|k2|a3|l3|c3|k3|a4|l4|c4|k4|a5|l5|c5|k5|a6|l6|c6|k6|a7|l7|c7|k7|a8|l8|c8|k8|a9|l9|c9|k9|a10|l10|c10|k10|a11|l11|c11|k11|a12|l12|c12|k12|a13|l13|c13|k13|a14|l14|c14|k14|a15|l15|c15|k15|a16|l16|c16|k16|a17|l17|c17|k17|a18|l18|c18|k18|a19|l19|c19|k19|a20|l20|c20|k20|a21|l21|c21|k21|a22|l22|c22|k22|a23|l23|c23|k23|a24|l24|c24|k24|a25|l25|c25|k25|a26|l26|c26|k26|a27|l27|c27|k27|a28|l28|c28|k28|a29|l29|c29|k29|a30|l30|c30|k30|a31|l31|c31|k31|a32|l32|c32|k32|a33|l33|c33|k33|a34|l34|c34|k34|a35|l35|c35|k35|a36|l36|c36|k36|a37|l37|c37|k37|a38|l38|c38|k38|a39|l39|c39|k39|a40|l40|c40|k40|a41|l41|c41|k41|a42|l42|c42|k42|a43|l43|c43|k43|a44|l44|c44|k44|a45|l45|c45|k45|a46|l46|c46|k46|a47|l47|c47|k47|a48|l48|c48|k48|a49|l49|c49|k49|a50|l50|c50|k50|a51|l51|c51|k51|a52|l52|c52|k52|Fi|Dq|Ed|Dn|Di|DK|DY|um|qy|N7|Lq|M9|Lh|Le|Mq|MF|yh|vL|Tz|Rp|R9|Rk|Ra|RB|RZ|zO|zN|DG|Hj|zP|zM|TJ|Rr|Sd|Rn|Rc|RG|R3|zR|yg|N8|Lr|M_|Li|Lf|Mr|MJ|yj|vM|TF|Rq|R_|Rm|Rb|RD|R0|vK|yd|uh|zQ|Ef|Dw|CV|Dg|Et|Nf|Mh|KH|Lb|NP|cn|ct=>k_is
  (case iTF=>kit_is)
  (case iTL=>kit_is)
  (case iFF=>kit_is)
  (case iLF=>kit_is)
  (case iLL=>kit_is)
  case d8|ou|n_|oH|oh|gk|qH|qC|qK|qF|gR|sJ|rY|tD|sy|fJ|pI|pH|pJ|jZ|cZ|sS|su|tG|sH|iI|ur|uq|uE|o9|cR|qI|qD|qL|qG|gU|sO|rZ|tE|sG|dX|vO|vN|vQ|qp|iw|Ec|DX|Ey|wj|fB|yw|yu|yN|sE|mF|Ab|zZ|Aq|uO|mH|Ac|z_|Ar|uP|aC|pC|Eb|DW|Ew|D_|Cw|X4|XM|YF|Px|xr|R8|RW|Tf|k_enter|xq|R7|RT|Te|JF|mC|Aa|zY|Ao|uN|pB|Ea|DQ|Eu|wg|xg|R6|RQ|Td|k_whole|pg|hd|po|sa|mk|kc|nR|nP|nN|Ym=>k_is
  (case vg=>exact⟨_,rfl⟩)
  case Ye=>k_is
  (case u9=>exact⟨_,rfl⟩)
  case HN=>k_is
  (case lq=>exact⟨_,rfl⟩)
  case El=>k_is
  (case jw=>exact⟨_,rfl⟩)
  case yx=>k_is
  (case nT=>exact⟨_,rfl⟩)
  case yC=>k_is
  (case gC=>exact⟨_,rfl⟩)
  case HF=>k_is
  (case vd=>exact⟨_,rfl⟩)
  case Yg=>k_is
  (case GJ=>exact⟨_,rfl⟩)
  case Sx=>k_is
  (case qU=>exact⟨_,rfl⟩)
  case Yi=>k_is
  (case GK=>exact⟨_,rfl⟩)
  case Ni=>k_is
  (case xV=>exact⟨_,rfl⟩)
  case Yh=>k_is
  (case u_=>exact⟨_,rfl⟩)
  case Nk=>k_is
  (case xW=>exact⟨_,rfl⟩)
  case Sv|RX=>k_is
  (case QH=>exact⟨_,_,rfl,rfl,by decide,by repeat (first | exact .nil | refine .cons ⟨_,rfl⟩ ?_)⟩)
  case Ss|JD=>k_is
  (case Qw=>exact⟨_,_,rfl,rfl,by decide,by repeat (first | exact .nil | refine .cons ⟨_,rfl⟩ ?_)⟩)
  (case Qx=>exact⟨rfl,rfl⟩)
  case Ej=>k_is
  (case eV=>exact⟨_,rfl⟩)
  case Yk=>k_is
  (case cT=>exact⟨_,rfl⟩)
  case Sh=>k_is
  (case cu=>exact⟨_,rfl⟩)
  case acO=>k_is
  (case mO=>exact⟨_,rfl⟩)
  case Yj=>k_is
  (case GQ=>exact⟨_,rfl⟩)
  case vP=>k_is
  (case fM=>exact⟨_,rfl⟩)
  case HJ=>k_is
  (case vf=>exact⟨_,rfl⟩)
  case Ek=>k_is
  (case rR=>exact⟨_,rfl⟩)
  case uw=>k_is
  (case j8=>exact⟨_,rfl⟩)
  case Nh|Mx=>k_is
  (case KQ=>exact⟨_,_,rfl,rfl,by decide,by repeat (first | exact .nil | refine .cons ⟨_,rfl⟩ ?_)⟩)
  case Ad=>k_is
  (case pQ=>exact⟨_,rfl⟩)
  case Ae=>k_is
  (case pR=>exact⟨_,rfl⟩)
  case Nj=>k_is
  (case lK=>exact⟨_,rfl⟩)
  case Yd=>k_is
  (case lU=>exact⟨_,rfl⟩)
  case Nm|Mz=>k_is
  (case KR=>exact⟨_,_,rfl,rfl,by decide,by repeat (first | exact .nil | refine .cons ⟨_,rfl⟩ ?_)⟩)
  case Yl|XQ=>k_is
  (case VB=>exact⟨_,_,rfl,rfl,by decide,by repeat (first | exact .nil | refine .cons rfl ?_)⟩)
  case lE0=>k_is
  (case tE0=>exact⟨_,_,rfl,rfl,by decide,by repeat (first | exact .nil | refine .cons ⟨_,rfl⟩ ?_)⟩)
  case lE1=>k_is
  (case tE1=>exact⟨_,_,rfl,rfl,by decide,by repeat (first | exact .nil | refine .cons ⟨_,rfl⟩ ?_)⟩)
  case lE2=>k_is
  (case tE2=>exact⟨_,_,rfl,rfl,by decide,by repeat (first | exact .nil | refine .cons ⟨_,rfl⟩ ?_)⟩)
  case lE3=>k_is
  (case tE3=>exact⟨_,_,rfl,rfl,by decide,by repeat (first | exact .nil | refine .cons ⟨_,rfl⟩ ?_)⟩)
  case lE4=>k_is
  (case tE4=>exact⟨_,_,rfl,rfl,by decide,by repeat (first | exact .nil | refine .cons ⟨_,rfl⟩ ?_)⟩)
  case lE5=>k_is
  (case tE5=>exact⟨_,_,rfl,rfl,by decide,by repeat (first | exact .nil | refine .cons ⟨_,rfl⟩ ?_)⟩)
  case lE6=>k_is
  (case tE6=>exact⟨_,_,rfl,rfl,by decide,by repeat (first | exact .nil | refine .cons ⟨_,rfl⟩ ?_)⟩)
  case lE7=>k_is
  (case tE7=>exact⟨_,_,rfl,rfl,by decide,by repeat (first | exact .nil | refine .cons ⟨_,rfl⟩ ?_)⟩)
  case lE8=>k_is
  (case tE8=>exact⟨_,_,rfl,rfl,by decide,by repeat (first | exact .nil | refine .cons ⟨_,rfl⟩ ?_)⟩)
  case lE9=>k_is
  (case tE9=>exact⟨_,_,rfl,rfl,by decide,by repeat (first | exact .nil | refine .cons ⟨_,rfl⟩ ?_)⟩)
  case agL=>k_is
  (case afE=>exact⟨_,_,rfl,rfl,by decide,by repeat (first | exact .nil | refine .cons ⟨_,rfl⟩ ?_)⟩)
  case agK=>k_is
  (case afD=>exact⟨_,_,rfl,rfl,by decide,by repeat (first | exact .nil | refine .cons ⟨_,rfl⟩ ?_)⟩)
  case agJ=>k_is
  (case afC=>exact⟨_,_,rfl,rfl,by decide,by repeat (first | exact .nil | refine .cons ⟨_,rfl⟩ ?_)⟩)
  case agI=>k_is
  (case afB=>exact⟨_,_,rfl,rfl,by decide,by repeat (first | exact .nil | refine .cons ⟨_,rfl⟩ ?_)⟩)
  case agH=>k_is
  (case afA=>exact⟨_,_,rfl,rfl,by decide,by repeat (first | exact .nil | refine .cons ⟨_,rfl⟩ ?_)⟩)
  case abH|abI|Qu|CN|Qv|abF|abE|Vv|xG|abG|abJ=>k_is
#print axioms PySem.Challenge.cw_selfword_k93_whole_runner_on_the_selftel_holds
