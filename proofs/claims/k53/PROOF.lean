import PyProof.Rows.All
import Wide.All
import OpenK.AllK
import Wide.FinOn
import PyProof.EqAt
import PyProof.EqKinds
import PyProof.TupleCall
import PySem.Challenge.RW_selfword_k53_whole_the_selfrunner_in_its
set_option Elab.async false
set_option linter.all false
set_option maxRecDepth 100000
/-! THE HAND LAYER, for ints, bools, texts, own classes, LISTS and tuples (index, slices, in, append, pop ..), calls, loops. Paste it whole ahead of your own text; what your proof does not reach may be deleted. -/
namespace L2
open PySem PySem.Spec PyProof.Rows

/-- a key: an int or a str -/
abbrev Key := Sum Int Str
def keyIs : Key → Value → Bool
  | .inl k, v => Value.isInt k v
  | .inr x, v => Value.isStrOf x v
def keyH (w : World) : Key → Int
  | .inl k => hashInt k
  | .inr x => hashStr w x
theorem keyIs_shape : ∀ {k : Key} {v : Value}, keyIs k v = true → (∃ i t, k = Sum.inl i ∧ v = Value.int i t) ∨ (∃ x t, k = Sum.inr x ∧ v = Value.str x t)
  | .inl i, v, h => by
    obtain ⟨t, e⟩ := Value.isInt_shape (k := i) (v := v) h
    exact .inl ⟨i, t, rfl, e⟩
  | .inr x, v, h => by
    obtain ⟨t, e⟩ := Value.isStrOf_shape (x := x) (v := v) h
    exact .inr ⟨x, t, rfl, e⟩
theorem key_ll (a b : Int) : decide ((Sum.inl a : Key) = Sum.inl b) = (a == b) := by
  by_cases e : a = b
  · subst e; simp
  · have h : ¬ (Sum.inl a : Key) = Sum.inl b := fun q => e (Sum.inl.inj q)
    rw [decide_eq_false h]
    exact (beq_eq_false_iff_ne.mpr e).symm
theorem key_rr (a b : Str) : decide ((Sum.inr a : Key) = Sum.inr b) = decide (a = b) := by
  by_cases e : a = b
  · subst e; simp
  · have h : ¬ (Sum.inr a : Key) = Sum.inr b := fun q => e (Sum.inr.inj q)
    rw [decide_eq_false h, decide_eq_false e]
theorem key_lr (a : Int) (b : Str) : decide ((Sum.inl a : Key) = Sum.inr b) = false := decide_eq_false (fun q => nomatch q)
theorem key_rl (a : Str) (b : Int) : decide ((Sum.inr a : Key) = Sum.inl b) = false := decide_eq_false (fun q => nomatch q)

def mixKind (prog : Program) (w : World) : PySem.KeyKind prog w Key where
  is := keyIs
  hash := keyH w
  inj := fun v a b ha hb => by
    rcases keyIs_shape ha with ⟨i, t, rfl, rfl⟩ | ⟨x, t, rfl, rfl⟩
    · rcases keyIs_shape hb with ⟨j, u, rfl, e⟩ | ⟨y, u, rfl, e⟩
      · injection e with e1 _; rw [e1]
      · exact nomatch e
    · rcases keyIs_shape hb with ⟨j, u, rfl, e⟩ | ⟨y, u, rfl, e⟩
      · exact nomatch e
      · injection e with e1 _; rw [e1]
  byValue := fun k v h => by
    rcases keyIs_shape h with ⟨i, t, rfl, rfl⟩ | ⟨x, t, rfl, rfl⟩ <;> rfl
  pyHash := fun hv h => by
    rcases keyIs_shape hv with ⟨i, t, rfl, rfl⟩ | ⟨x, t, rfl, rfl⟩
    · exact wpAny_pyHash_int h
    · exact wpAny_pyHash_str h
  eqBool := fun hu hv h => by
    rcases keyIs_shape hu with ⟨i, t, rfl, rfl⟩ | ⟨x, t, rfl, rfl⟩
    · rcases keyIs_shape hv with ⟨j, u, rfl, rfl⟩ | ⟨y, u, rfl, rfl⟩
      · rw [key_ll] at h; exact wpAny_eqBool_int h
      · rw [key_lr] at h; exact SeqAt.EqAt.int_str i t y u _ _ _ _ h
    · rcases keyIs_shape hv with ⟨j, u, rfl, rfl⟩ | ⟨y, u, rfl, rfl⟩
      · rw [key_rl] at h; exact SeqAt.EqAt.str_int x t j u _ _ _ _ h
      · rw [key_rr] at h; exact wpAny_eqBool_str h
  «strs» := fun k x t v h => by
    rcases keyIs_shape h with ⟨i, u, rfl, e⟩ | ⟨y, u, rfl, e⟩
    · exact nomatch e
    · injection e with e1 _
      subst e1
      cases v <;> rfl

end L2

namespace L2
open PySem PySem.Spec PyProof.Rows

/-- a value, without the heap -/
inductive V where
  | non | bl (b : Bool) | int (i : Int) | str (x : Str) | byt (b : Array UInt8) | flt (b : UInt64) | ref (a : Addr) | ty (n : String)
  deriving DecidableEq

def RelV : V → Value → Prop
  | .non, u => u = Value.none
  | .bl b, u => u = Value.bool b
  | .int i, u => ∃ t, u = Value.int i t
  | .str x, u => ∃ t, u = Value.str x t
  | .byt b, u => ∃ t, u = Value.bytes b t
  | .flt b, u => ∃ t, u = Value.float b t
  | .ref a, u => u = Value.ref a
  | .ty n, u => u = Value.type n

abbrev Vals : List V → List Value → Prop := Paired RelV
theorem Vals.length {xs : List V} {us : List Value} (r : Vals xs us) : xs.length = us.length := Paired.length r
theorem Vals.get : ∀ {xs : List V} {us : List Value} {i : Nat} {x : V}, Vals xs us → xs[i]? = some x → ∃ u, us[i]? = some u ∧ RelV x u
  | _, _, _, _, .nil, e => by simp at e
  | _, _, 0, _, .cons r _, e => by simp at e; subst e; exact ⟨_, rfl, r⟩
  | _, _, i + 1, x, .cons _ t, e => by
    obtain ⟨u, h1, h2⟩ := Vals.get (i := i) (x := x) t (by simpa using e)
    exact ⟨u, by simpa using h1, h2⟩
theorem Vals.append : ∀ {xs ys : List V} {us ws : List Value}, Vals xs us → Vals ys ws → Vals (xs ++ ys) (us ++ ws)
  | _, _, _, _, .nil, s => s
  | _, _, _, _, .cons r t, s => .cons r (Vals.append t s)
theorem Vals.take : ∀ {xs : List V} {us : List Value} (n : Nat), Vals xs us → Vals (xs.take n) (us.take n)
  | _, _, 0, _ => .nil
  | _, _, _ + 1, .nil => .nil
  | _, _, n + 1, .cons r t => .cons r (Vals.take n t)
theorem Vals.drop : ∀ {xs : List V} {us : List Value} (n : Nat), Vals xs us → Vals (xs.drop n) (us.drop n)
  | _, _, 0, r => r
  | _, _, _ + 1, .nil => .nil
  | _, _, n + 1, .cons _ t => Vals.drop n t

def RelO : Option V → Option Value → Prop
  | some v, some u => RelV v u
  | none, none => True
  | _, _ => False
def KV {κ : Type} : List (κ × V) → List (κ × Value) → Prop := Paired fun (p : κ × V) (q : κ × Value) => p.1 = q.1 ∧ RelV p.2 q.2

/-- a key of a dict (00_mix): an int or a text -/
def kV : Key → V
  | .inl i => .int i
  | .inr x => .str x

/-- what stands at a tracked address -/
inductive HO where
  /-- a list -/
  | lst (xs : List V)
  /-- a tuple (never changes) -/
  | tup (xs : List V)
  /-- a dict whose keys are ints and texts; one whose keys are tuples of ints and texts (the empty one is both) -/
  | dK (kvs : List (Key × V)) | dT (kvs : List (List Key × V))
  /-- a set of ints: its members, its size -/
  | set (S : Int → Bool) (n : Nat)
  /-- an instance of the class at C, its dict at dx, its attributes -/
  | ins (C dx : Addr) (fs : List (Str × V))
  /-- the dict of the instance at x -/
  | own (x : Addr)
  /-- the dict of an exception -/
  | xd (fs : List (Str × V))
  /-- a bound method, f of x -/
  | met (f x : Addr)
  /-- a range object lo, lo + 1, .. below hi -/
  | rng (lo hi : Int)
  /-- a thing that is known to the object (the script; a dict while a loop walks it): read, never written while it is so -/
  | frz (o : Obj) (u : HO)
  /-- a code object's table -/
  | tbl (ps : Array Value)
  /-- any other thing, by what is true of its one object (a def of one's own: SetO a S n := HO.ext fun h => ..) -/
  | ext (φ : Heap → Prop)

abbrev Hp := Addr → Option HO
def upd (H : Hp) (a : Addr) (o : HO) : Hp := fun b => if b = a then some o else H b
theorem upd_same {H : Hp} {a : Addr} {o : HO} : upd H a o a = some o := by unfold upd; rw [if_pos rfl]
theorem upd_ne {H : Hp} {a b : Addr} {o : HO} (h : b ≠ a) : upd H a o b = H b := by unfold upd; rw [if_neg h]
/-- two objects of different content stand apart -/
theorem ne_of {H : Hp} {a b : Addr} {o u : HO} (h : H a = some o) (h' : H b = some u) (d : o ≠ u) : a ≠ b := by
  intro e; subst e; rw [h] at h'; exact d (Option.some.inj h')
theorem ne_of_none {H : Hp} {a b : Addr} {o : HO} (h : H a = some o) (h' : H b = none) : a ≠ b := by
  intro e; subst e; rw [h] at h'; cases h'

section
variable (P : Program) (w : World)
def ObjOk (H : Hp) (h : Heap) (a : Addr) : HO → Prop
  | .lst xs => xs.length ≤ sizeLine ∧ ∃ (its : List Value) (n : Nat), Vals xs its ∧ h.get? a = some { cls := .type "list", data := .seq its.toArray n }
  | .tup xs => xs.length ≤ sizeLine ∧ ∃ its : List Value, Vals xs its ∧ IsTup h a its.toArray
  | .dK kvs => kvs.length ≤ sizeLine ∧ (a == sysModules) = false ∧ ∃ vs, KV kvs vs ∧ h.DictOf (mixKind P w) a vs
  | .dT kvs => kvs.length ≤ sizeLine ∧ (a == sysModules) = false ∧ ∃ xs : List (List Key × Addr × Value),
      Paired (fun (p : List Key × V) (q : List Key × Addr × Value) => p.1 = q.1 ∧ H q.2.1 = some (.tup (p.1.map kV)) ∧ RelV p.2 q.2.2) kvs xs ∧
      ∃ o es ep, h.get? a = some o ∧ o.ExactDict ∧ o.data = .dict es ep ∧ es.toList = xs.map (entryOfKey (tupleKind (mixKind P w))) ∧ (xs.map (·.1)).Nodup
  | .set S n => h.SetOf (intKind P w) a S n
  | .ins C dx fs => H dx = some (.own a) ∧ fs.length ≤ 1000 ∧ dx ≠ a ∧ h.get? a = some (PySem.W.instObj C dx) ∧
      ∃ mA, h.Ns1 dx mA ∧ (∀ f, RelO (fs.lookup f) (mA f)) ∧ PySem.Within mA (fs.map (·.1))
  | .own _ => ∃ o, h.get? a = some o
  | .xd fs => ∃ mA, h.Ns1 a mA ∧ ∀ f, RelO (fs.lookup f) (mA f)
  | .rng lo hi => ∃ t u v, h.get? a = some { cls := .type "range", data := .fields #[.int lo t, .int hi u, .int 1 v] }
  | .frz o u => h.get? a = some o ∧ ObjOk H h a u
  | .tbl ps => h.get? a = some { cls := .none, data := .fields ps }
  | .met f x => h.get? a = some (PySem.W.methodObj (.ref f) (.ref x))
  | .ext φ => φ h ∧ (∃ o, h.get? a = some o) ∧ ∀ h1 h2 : Heap, φ h1 → (∀ o, h1.get? a = some o → h2.get? a = some o) → φ h2
/-- the abstract heap is held -/
def HOk (H : Hp) (h : Heap) : Prop := ∀ a o, H a = some o → ObjOk P w H h a o
end

section
variable {P : Program} {w : World} {H H' : Hp} {h h' : Heap} {a : Addr} {o : HO}
theorem ObjOk.lt (x : ObjOk P w H h a o) : a < h.objs.size := by
  cases o with
  | lst xs => obtain ⟨_, _, _, _, e⟩ := x; exact Heap.lt_size e
  | tup xs => obtain ⟨_, _, _, p⟩ := x; exact p.lt
  | dK kvs => obtain ⟨_, _, _, _, o, _, _, e, _⟩ := x; exact Heap.lt_size e
  | dT kvs => obtain ⟨_, _, _, _, o, _, _, e, _⟩ := x; exact Heap.lt_size e
  | set S n => obtain ⟨o, _, _, _, e, _⟩ := x; exact Heap.lt_size e
  | ins C dx fs => obtain ⟨_, _, _, e, _⟩ := x; exact Heap.lt_size e
  | own y => obtain ⟨_, e⟩ := x; exact Heap.lt_size e
  | xd fs => obtain ⟨_, ⟨_, _, _, e, _⟩, _⟩ := x; exact Heap.lt_size e
  | rng lo hi => obtain ⟨_, _, _, e⟩ := x; exact Heap.lt_size e
  | frz ob u => obtain ⟨e, _⟩ := x; exact Heap.lt_size e
  | tbl ps => exact Heap.lt_size (show h.get? a = some _ from x)
  | met f y => exact Heap.lt_size (show h.get? a = some _ from x)
  | ext φ => obtain ⟨_, ⟨_, e⟩, _⟩ := x; exact Heap.lt_size e
theorem Paired.mapP {α β : Type} {F G : α → β → Prop} : ∀ {l₁ : List α} {l₂ : List β}, Paired F l₁ l₂ → (∀ a b, F a b → G a b) → Paired G l₁ l₂
  | _, _, .nil, _ => .nil
  | _, _, .cons r t, f => .cons (f _ _ r) (Paired.mapP t f)
/-- what an object's description leans on: its own object, its own dict, the tuples -/
theorem ObjOk.stay (x : ObjOk P w H h a o) (k : ∀ b u, (b = a ∨ H b = some (.own a)) → h.get? b = some u → h'.get? b = some u)
    (ho : ∀ b, H b = some (.own a) → H' b = some (.own a)) (ht : ∀ b xs, H b = some (.tup xs) → H' b = some (.tup xs)) : ObjOk P w H' h' a o := by
  induction o with
  | lst xs => obtain ⟨z, its, n, r, e⟩ := x; exact ⟨z, its, n, r, k _ _ (.inl rfl) e⟩
  | tup xs => obtain ⟨z, its, r, ob, e, c⟩ := x; exact ⟨z, its, r, ob, k _ _ (.inl rfl) e, c⟩
  | dK kvs => obtain ⟨z, y, vs, r, ob, es, ep, e, c⟩ := x; exact ⟨z, y, vs, r, ob, es, ep, k _ _ (.inl rfl) e, c⟩
  | dT kvs =>
    obtain ⟨z, y, xs, r, ob, es, ep, e, c⟩ := x
    exact ⟨z, y, xs, Paired.mapP r fun p q z => ⟨z.1, ht _ _ z.2.1, z.2.2⟩, ob, es, ep, k _ _ (.inl rfl) e, c⟩
  | set S n => obtain ⟨ob, es, ep, t, e, c⟩ := x; exact ⟨ob, es, ep, t, k _ _ (.inl rfl) e, c⟩
  | ins C dx fs =>
    obtain ⟨d, z, ne, e, mA, ⟨od, es, ep, e2, c⟩, r⟩ := x
    exact ⟨ho _ d, z, ne, k _ _ (.inl rfl) e, mA, ⟨od, es, ep, k _ _ (.inr d) e2, c⟩, r⟩
  | own y => obtain ⟨ob, e⟩ := x; exact ⟨ob, k _ _ (.inl rfl) e⟩
  | xd fs => obtain ⟨mA, ⟨od, es, ep, e, c⟩, r⟩ := x; exact ⟨mA, ⟨od, es, ep, k _ _ (.inl rfl) e, c⟩, r⟩
  | rng lo hi => obtain ⟨t, u, v, e⟩ := x; exact ⟨t, u, v, k _ _ (.inl rfl) e⟩
  | frz ob u ih => obtain ⟨e, q⟩ := x; exact ⟨k _ _ (.inl rfl) e, ih q⟩
  | tbl ps =>
    have e : h.get? a = some { cls := .none, data := .fields ps } := x
    show h'.get? a = some { cls := .none, data := .fields ps }
    exact k a _ (.inl rfl) e
  | met f y =>
    have e : h.get? a = some (PySem.W.methodObj (.ref f) (.ref y)) := x
    show h'.get? a = some (PySem.W.methodObj (.ref f) (.ref y))
    exact k a _ (.inl rfl) e
  | ext φ => obtain ⟨p, ⟨o, e⟩, st⟩ := x; exact ⟨st _ _ p fun o q => k _ _ (.inl rfl) q, ⟨o, k _ _ (.inl rfl) e⟩, st⟩
theorem HOk.lt (x : HOk P w H h) (e : H a = some o) : a < h.objs.size := (x a o e).lt
theorem HOk.fresh (x : HOk P w H h) (e : h.objs.size ≤ a) : H a = none := by
  cases q : H a with
  | none => rfl
  | some u => exact absurd (Nat.lt_of_lt_of_le (x.lt q) e) (Nat.lt_irrefl _)
/-- every object of the heap is kept -/
theorem HOk.kept (x : HOk P w H h) (k : ∀ b u, h.get? b = some u → h'.get? b = some u) : HOk P w H h' := fun a o e =>
  (x a o e).stay (fun b u _ q => k b u q) (fun _ q => q) fun _ _ q => q
/-- a new object is laid and tracked -/
theorem HOk.laid (x : HOk P w H h) (k : ∀ b u, h.get? b = some u → h'.get? b = some u) (hp : h.objs.size ≤ a) (new : ObjOk P w (upd H a o) h' a o) : HOk P w (upd H a o) h' := fun b u e => by
  have hn := x.fresh hp
  by_cases hb : b = a
  · subst hb; rw [upd_same] at e; cases e; exact new
  · rw [upd_ne hb] at e
    exact (x b u e).stay (fun c v _ q => k c v q) (fun c q => by rw [upd_ne (ne_of_none q hn)]; exact q) fun c xs q => by rw [upd_ne (ne_of_none q hn)]; exact q
end

/-- what may be read as u: it is u, or a known u -/
def Rd (H : Hp) (a : Addr) (u : HO) : Prop := H a = some u ∨ ∃ o, H a = some (.frz o u)
theorem Rd.ok {P : Program} {w : World} {H : Hp} {h : Heap} {a : Addr} {u : HO} (r : Rd H a u) (x : HOk P w H h) : ObjOk P w H h a u := by
  rcases r with r | ⟨o, r⟩
  · exact x a u r
  · obtain ⟨_, q⟩ := x a _ r
    exact q
/-- what may be written -/
def Mut : Option HO → Prop
  | some (.lst _) => True
  | some (.dK _) => True
  | some (.dT _) => True
  | some (.set _ _) => True
  | some (.ins _ _ _) => True
  | some (.ext _) => True
  | _ => False
section
variable {P : Program} {w : World} {H : Hp} {h h' : Heap} {x e : Addr} {o' : HO}
/-- the object at e is changed: x itself, or the dict of the instance x -/
theorem HOk.write (ok : HOk P w H h) (mu : Mut (H x)) (he : e = x ∨ H e = some (.own x)) (k : ∀ b u, b ≠ e → h.get? b = some u → h'.get? b = some u) (heo : ∃ u, h'.get? e = some u)
    (new : ObjOk P w (upd H x o') h' x o') : HOk P w (upd H x o') h' := fun b u q => by
  have nown : ∀ c y, H c = some (.own y) → c ≠ x := fun c y r z => by subst z; rw [r] at mu; exact mu
  have ntup : ∀ c xs, H c = some (.tup xs) → c ≠ x := fun c xs r z => by subst z; rw [r] at mu; exact mu
  by_cases hb : b = x
  · subst hb; rw [upd_same] at q; cases q; exact new
  · rw [upd_ne hb] at q
    by_cases hbe : b = e
    · have q' : H b = some (.own x) := by
        rcases he with z | z
        · exact absurd (hbe.trans z) hb
        · rw [hbe]; exact z
      rw [q] at q'; cases q'
      obtain ⟨v, hv⟩ := heo
      exact ⟨v, by rw [hbe]; exact hv⟩
    · refine (ok b u q).stay (fun c v hc r => k c v ?_ r) (fun c r => by rw [upd_ne (nown c b r)]; exact r) fun c xs r => by rw [upd_ne (ntup c xs r)]; exact r
      rcases hc with rfl | hc
      · exact hbe
      · rintro rfl
        rcases he with z | z
        · exact nown c b hc z
        · rw [hc] at z; cases z; exact hb rfl
end

/-! ### kept unless tracked; of the frames at fs (the callers') the slots may change (an exception that passes writes there); of the records at ex (iterators) nothing is said -/
structure Un (fs ex : List Addr) (H H' : Hp) (h h' : Heap) : Prop where
  keep : ∀ b o, h.get? b = some o → H b = none → b ∉ fs → b ∉ ex → h'.get? b = some o
  slot : ∀ b o, h.get? b = some o → H b = none → b ∈ fs → b ∉ ex → ∃ sl, h'.get? b = some { o with slots := sl }
  free : ∀ b o, h.get? b = some o → H b = none → b ∉ ex → H' b = none
  there : ∀ b o, h.get? b = some o → b ∉ ex → ∃ o', h'.get? b = some o'
  tups : ∀ b xs, H b = some (.tup xs) → H' b = some (.tup xs)
  frzs : ∀ b o u, H b = some (.frz o u) → H' b = some (.frz o u)
  tbls : ∀ b ps, H b = some (.tbl ps) → ∃ more, H' b = some (.tbl (ps ++ more))
section
variable {fs fs' ex ex' : List Addr} {H H1 H2 : Hp} {h h1 h2 h' : Heap} {a x e : Addr} {o : HO}
theorem Un.any (u : Un fs ex H H1 h h1) {b : Addr} {ob : Obj} (q : h.get? b = some ob) (n : H b = none) (hx : b ∉ ex) : ∃ sl, h1.get? b = some { ob with slots := sl } := by
  by_cases hb : b ∈ fs
  · exact u.slot b ob q n hb hx
  · exact ⟨ob.slots, u.keep b ob q n hb hx⟩
theorem Un.kept (k : ∀ b u, h.get? b = some u → h'.get? b = some u) : Un fs ex H H h h' :=
  ⟨fun b ob q _ _ _ => k b ob q, fun b ob q _ _ _ => ⟨ob.slots, k b ob q⟩, fun _ _ _ n _ => n, fun b ob q _ => ⟨ob, k b ob q⟩, fun _ _ q => q, fun _ _ _ q => q, fun _ ps q => ⟨#[], by rw [q]; simp⟩⟩
theorem Un.refl : Un fs ex H H h h := Un.kept fun _ _ q => q
theorem Un.laid (k : ∀ b u, h.get? b = some u → h'.get? b = some u) (hp : h.objs.size ≤ a) (hn : H a = none) : Un fs ex H (upd H a o) h h' where
  keep := fun b u q _ _ _ => k b u q
  slot := fun b u q _ _ _ => ⟨u.slots, k b u q⟩
  free := fun b u q n _ => by rw [upd_ne (Nat.ne_of_lt (Nat.lt_of_lt_of_le (Heap.lt_size q) hp))]; exact n
  there := fun b u q _ => ⟨u, k b u q⟩
  tups := fun b xs q => by rw [upd_ne (ne_of_none q hn)]; exact q
  frzs := fun b u xs q => by rw [upd_ne (ne_of_none q hn)]; exact q
  tbls := fun b ps q => ⟨#[], by rw [upd_ne (ne_of_none q hn), q]; simp⟩
theorem Un.write (mu : Mut (H x)) (he : e = x ∨ H e = some (.own x)) (k : ∀ b u, b ≠ e → h.get? b = some u → h'.get? b = some u) (heo : ∃ u, h'.get? e = some u) : Un fs ex H (upd H x o) h h' := by
  have hx : ∀ b, H b = none → b ≠ x := fun b n z => by subst z; rw [n] at mu; exact mu
  have hb : ∀ b, H b = none → b ≠ e := fun b n z => by
    subst z
    rcases he with r | r
    · exact hx b n r
    · rw [n] at r; cases r
  have hm : ∀ b u, H b = some u → ¬ Mut (some u) → b ≠ x := fun b u q nm z => by subst z; rw [q] at mu; exact nm mu
  refine ⟨fun b u q n _ _ => k b u (hb b n) q, fun b u q n _ _ => ⟨u.slots, k b u (hb b n) q⟩, fun b u q n _ => by rw [upd_ne (hx b n)]; exact n, fun b u q _ => ?_,
    fun b xs q => by rw [upd_ne (hm b _ q fun z => z)]; exact q, fun b u xs q => by rw [upd_ne (hm b _ q fun z => z)]; exact q, fun b ps q => ⟨#[], by rw [upd_ne (hm b _ q fun z => z), q]; simp⟩⟩
  by_cases hbe : b = e
  · subst hbe; exact heo
  · exact ⟨u, k b u hbe q⟩
end

/-! ### the heap without what is tracked -/
def trk (h : Heap) (H : Hp) : List Addr := (List.range h.objs.size).filter fun a => (H a).isSome
def hidT (h : Heap) (H : Hp) : Heap := PySem.W.hideAll h (trk h H)
theorem hidT_size (h : Heap) (H : Hp) : (hidT h H).objs.size = h.objs.size := PySem.W.hideAll_size _ _
theorem hidT_get {h : Heap} {H : Hp} {b : Addr} {o : Obj} (e : h.get? b = some o) (n : H b = none) : (hidT h H).get? b = some o :=
  PySem.W.hideAll_get _ e fun hm => by
    have q : (H b).isSome = true := (List.mem_filter.mp hm).2
    rw [n] at q; simp at q
theorem of_hidT {h : Heap} {H : Hp} {b : Addr} {o : Obj} (e : (hidT h H).get? b = some o) : h.get? b = some o ∧ H b = none := by
  have e' : h.get? b = some o := PySem.W.of_hideAll (trk h H) e
  refine ⟨e', ?_⟩
  cases q : H b with
  | none => rfl
  | some x =>
    have hm : b ∈ trk h H := List.mem_filter.mpr ⟨List.mem_range.mpr (Heap.lt_size e'), by simp [q]⟩
    have z : (hidT h H).get? b = none := PySem.W.hideAll_none (trk h H) hm
    rw [z] at e; cases e

/-! ### OpenK's ledger, filled with every new object but one -/
end L2

namespace L2
open PySem PySem.Spec PyProof.Rows

/-- the module's facts, over the base: the heap at the law's entry without what is tracked there -/
structure Mod (K : PySem.W.Frag) (mg : Str → Option Value) (base : Heap) : Prop where
  kin : K.In base
  glob : base.Ns mainGlobals mg
  blt : ∃ mb, base.Ns builtinsNs mb ∧ ∀ x : Str, x ≠ "__name__" → mb x = bootBuiltins x
  nolimit : base.NoLimit

/-- the context: a def's body (or a comprehension's block) running. base: fixed through the whole law; s₀, H₀: the entry; outer: the frames whose slots others may change (a def's callers); stack: all frames that run;
   ex: iterators that were made ahead of the entry and are walked here (a comprehension's); fn: the names whose cells were made at the entry (a def: all; a comprehension's block: its own); calm: not within an except suite; pn: pins that every state bears; xe: what is wanted of an exception that leaves the code -/
structure Cx where
  prog : Program
  w : World
  K : PySem.W.Frag
  mg : Str → Option Value
  base : Heap
  A : Around
  N : List Str
  s₀ : Shared
  H₀ : Hp
  env : Env
  outer : List Env
  stack : List Env
  ex : List Addr
  fn : Str → Bool
  calm : Bool
  pn : List (Addr × Obj)
  xe : Value → Shared → Prop
/-- the callers' frames -/
def frs (l : List Env) : List Addr := l.filterMap (·.frame)
abbrev Cx.fs (X : Cx) : List Addr := frs X.outer

def Vis (sc : Scope) (x : Str) : Prop := sc.names.lookup x = some .local ∨ sc.names.lookup x = some .cell ∨ sc.names.lookup x = some .free
def Loc (sc : Scope) (x : Str) : Prop := sc.names.lookup x = some .local ∨ sc.names.lookup x = some .cell
def Look (env : Env) (h : Heap) (m : Str → Option Value) (x : Str) (u : Value) : Prop :=
  (env.kindOf x = some .local ∧ m x = some u) ∨ ((env.kindOf x = some .cell ∨ env.kindOf x = some .free) ∧ ∃ c, env.cells.lookup x = some c ∧ h.IsCell c (some u))

structure Cx.Ok (X : Cx) : Prop where
  mod : Mod X.K X.mg X.base
  kind : X.env.scope.kind = .function
  glob : X.env.globals = mainGlobals
  blt : X.env.builtins = builtinsNs
  above : X.s₀.heap.objs.size ≤ X.env.locals
  inj : ∀ x y c, X.env.cells.lookup x = some c → X.env.cells.lookup y = some c → x = y
  has : ∀ x, (X.env.kindOf x = some .cell ∨ X.env.kindOf x = some .free) → ∃ c, X.env.cells.lookup x = some c
  cab : ∀ x c, X.fn x = true → X.env.cells.lookup x = some c → X.s₀.heap.objs.size ≤ c
  hd : X.calm = true → X.A.handled = none
  frames : X.A.frames = some X.stack
  stk : X.stack = X.outer ∨ (X.stack = X.env :: X.outer ∧ X.env.frame = some X.env.locals)
  exf : ∀ b ∈ X.ex, b ≠ X.env.locals ∧ ∀ x c, X.env.cells.lookup x = some c → c ≠ b
  bs : ∀ b o, X.base.get? b = some o → X.s₀.heap.get? b = some o ∧ X.H₀ b = none
  bsz : X.base.objs.size ≤ X.s₀.heap.objs.size
  noex : ∀ b o, X.base.get? b = some o → b ∉ X.ex
  exfs : ∀ b ∈ X.ex, b ∉ X.fs
  funs : X.s₀.heap.FunFrames X.base X.outer
  frf : ∀ b ∈ X.fs, X.H₀ b = none

structure Inv (X : Cx) (pins : List (Addr × Obj)) (σ : List (Option V)) (H : Hp) (s : Shared) : Prop where
  ok : X.Ok
  os : s.os = X.s₀.os
  bare : AllBare s.gens
  base : Un X.fs X.ex X.H₀ H X.s₀.heap s.heap
  loc : ∃ m, s.heap.Ns X.env.locals m ∧ ∀ (i : Nat) (x : Str) (v : V), X.N[i]? = some x → σ[i]? = some (some v) → Vis X.env.scope x → ∃ u, RelV v u ∧ Look X.env s.heap m x u
  cell : ∀ x c, X.env.cells.lookup x = some c → ∃ v, s.heap.IsCell c v
  free : H X.env.locals = none
  freeC : ∀ x c, X.env.cells.lookup x = some c → H c = none
  pin : ∀ p ∈ X.pn ++ pins, s.heap.get? p.1 = some p.2 ∧ H p.1 = none ∧ p.1 ≠ X.env.locals ∧ p.1 ∉ X.fs ∧ ∀ v, p.2.data ≠ .cell v
  hok : HOk X.prog X.w H s.heap
  len : σ.length = X.N.length

section
variable {X : Cx} {pins : List (Addr × Obj)} {σ : List (Option V)} {H H' : Hp} {s : Shared} {h' : Heap}

theorem Cx.Ok.nofr (ok : X.Ok) {b : Addr} {o : Obj} (e : X.base.get? b = some o) : b ∉ X.fs := fun hb => by
  have := (ok.funs.mem hb).1
  rw [e] at this; cases this
theorem Inv.bs (I : Inv X pins σ H s) : ∀ b o, X.base.get? b = some o → s.heap.get? b = some o ∧ H b = none := fun b o e =>
  ⟨I.base.keep b o (I.ok.bs b o e).1 (I.ok.bs b o e).2 (I.ok.nofr e) (I.ok.noex b o e), I.base.free b o (I.ok.bs b o e).1 (I.ok.bs b o e).2 (I.ok.noex b o e)⟩
theorem Inv.bk (I : Inv X pins σ H s) : ∀ b o, X.base.get? b = some o → s.heap.get? b = some o := fun b o e => (I.bs b o e).1
theorem Inv.mod (I : Inv X pins σ H s) : Mod X.K X.mg X.base := I.ok.mod
theorem Inv.kIn (I : Inv X pins σ H s) : X.K.In s.heap := I.ok.mod.kin.keeps I.bk
theorem Inv.lt (I : Inv X pins σ H s) : X.env.locals < s.heap.objs.size := let ⟨_, hn, _⟩ := I.loc; hn.lt
theorem Inv.sz (I : Inv X pins σ H s) : X.s₀.heap.objs.size ≤ s.heap.objs.size := Nat.le_trans I.ok.above (Nat.le_of_lt I.lt)
theorem Inv.nofs (I : Inv X pins σ H s) {a : Addr} (h : s.heap.objs.size ≤ a) : a ∉ X.fs := fun hb => by
  obtain ⟨_, o, ho, _⟩ := I.ok.funs.mem hb
  exact absurd (Nat.lt_of_lt_of_le (Heap.lt_size ho) (Nat.le_trans I.sz h)) (Nat.lt_irrefl _)
theorem Inv.cne (I : Inv X pins σ H s) : ∀ x c, X.env.cells.lookup x = some c → c ≠ X.env.locals := fun x c e z => by
  obtain ⟨v, o, ho, hd⟩ := I.cell x c e
  obtain ⟨m, ⟨o', es, ep, ho', hd', _⟩, _⟩ := I.loc
  rw [z, ho'] at ho; cases ho; rw [hd'] at hd; cases hd
theorem Inv.funs (I : Inv X pins σ H s) : s.heap.FunFrames X.base X.outer := by
  have all : ∀ (l : List Env), (∀ b ∈ frs l, b ∈ X.fs) → X.s₀.heap.FunFrames X.base l → s.heap.FunFrames X.base l := by
    intro l
    induction l with
    | nil => intro _ _; trivial
    | cons env r ih =>
      intro hs hl
      obtain ⟨hk, ⟨L, o, hf, hn, ho, hd⟩, hr⟩ := hl
      have hL : L ∈ X.fs := hs L (by unfold frs; rw [List.filterMap_cons, hf]; exact List.mem_cons_self)
      obtain ⟨sl, e⟩ := I.base.slot L o ho (I.ok.frf L hL) hL fun z => I.ok.exfs L z hL
      exact ⟨hk, ⟨L, _, hf, hn, e, hd⟩, ih (fun b hb => hs b (by unfold frs; rw [List.filterMap_cons, hf]; exact List.mem_cons_of_mem _ hb)) hr⟩
  exact all X.outer (fun _ hb => hb) I.ok.funs

/-- the frames that run, for a call -/
theorem Inv.stack (I : Inv X pins σ H s) : s.heap.FunFrames X.base X.stack := by
  rcases I.ok.stk with e | ⟨e, hf⟩
  · rw [e]; exact I.funs
  · rw [e]
    obtain ⟨m, hn, _⟩ := I.loc
    refine .cons (by rw [I.ok.kind]; decide) hf hn ?_ I.funs
    exact Heap.get?_none_of_le (Nat.le_trans I.ok.bsz I.ok.above)
theorem Inv.stkSub (I : Inv X pins σ H s) : ∀ b ∈ frs X.stack, b ∈ X.env.locals :: X.fs := fun b hb => by
  rcases I.ok.stk with e | ⟨e, hf⟩
  · rw [e] at hb; exact List.mem_cons_of_mem _ hb
  · rw [e] at hb
    unfold frs at hb
    rw [List.filterMap_cons, hf] at hb
    exact hb
theorem Inv.stkFree (I : Inv X pins σ H s) : ∀ b ∈ frs X.stack, H b = none := fun b hb => by
  rcases List.mem_cons.mp (I.stkSub b hb) with e | hb
  · rw [e]; exact I.free
  · obtain ⟨_, o, ho, _⟩ := I.ok.funs.mem hb
    exact I.base.free b o ho (I.ok.frf b hb) fun z => I.ok.exfs b z hb

/-- THE STEP: the untracked objects but the frame and the records at ch are kept (the callers' frames up to slots), the frame's map is kept, the new abstract heap is held -/
theorem Inv.step {g' : Array GenState} {t' : Nat} {d' : Drawn} {ch : List Addr} (I : Inv X pins σ H s)
    (hch : ∀ b ∈ ch, (b ∈ X.ex ∨ X.s₀.heap.objs.size ≤ b) ∧ b ≠ X.env.locals ∧ (∀ x c, X.env.cells.lookup x = some c → c ≠ b) ∧ ∀ p ∈ X.pn ++ pins, p.1 ≠ b)
    (keep : ∀ b o, b ≠ X.env.locals → b ∉ X.fs → b ∉ ch → s.heap.get? b = some o → H b = none → h'.get? b = some o)
    (slot : ∀ b o, b ≠ X.env.locals → b ∈ X.fs → b ∉ ch → s.heap.get? b = some o → H b = none → ∃ sl, h'.get? b = some { o with slots := sl }) (free : ∀ b o, b ∉ ch → s.heap.get? b = some o → H b = none → H' b = none)
    (there : ∀ b o, b ∉ ch → s.heap.get? b = some o → ∃ o', h'.get? b = some o')
    (tups : ∀ b xs, H b = some (.tup xs) → H' b = some (.tup xs)) (frzs : ∀ b o u, H b = some (.frz o u) → H' b = some (.frz o u)) (tbls : ∀ b ps, H b = some (.tbl ps) → ∃ more, H' b = some (.tbl (ps ++ more)))
    (ns : ∀ m, s.heap.Ns X.env.locals m → h'.Ns X.env.locals m) (hok : HOk X.prog X.w H' h') (hg : AllBare g') :
    Inv X pins σ H' { s with heap := h', gens := g', drawn := d', toks := t' } := by
  have neL : ∀ b o, X.s₀.heap.get? b = some o → b ≠ X.env.locals := fun b o e => Nat.ne_of_lt (Nat.lt_of_lt_of_le (Heap.lt_size e) I.ok.above)
  have neC : ∀ b o, X.s₀.heap.get? b = some o → b ∉ X.ex → b ∉ ch := fun b o e hx hb => by
    rcases (hch b hb).1 with z | z
    · exact hx z
    · exact absurd (Nat.lt_of_lt_of_le (Heap.lt_size e) z) (Nat.lt_irrefl _)
  have cellK : ∀ x c, X.env.cells.lookup x = some c → ∀ v, s.heap.IsCell c v → h'.IsCell c v := fun x c e v ⟨o, ho, hd⟩ => by
    have nch : c ∉ ch := fun z => (hch c z).2.2.1 x c e rfl
    by_cases hc : c ∈ X.fs
    · obtain ⟨sl, q⟩ := slot c o (I.cne x c e) hc nch ho (I.freeC x c e)
      exact ⟨_, q, hd⟩
    · exact ⟨o, keep c o (I.cne x c e) hc nch ho (I.freeC x c e), hd⟩
  refine ⟨I.ok, I.os, hg, ⟨fun b o e n hb hx => ?_, fun b o e n hb hx => ?_, fun b o e n hx => ?_, fun b o e hx => ?_, fun b xs e => tups b xs (I.base.tups b xs e), fun b o xs e => frzs b o xs (I.base.frzs b o xs e), fun b ps e => ?_⟩, ?_, fun x c e => ?_, ?_, fun x c e => ?_, fun p hp => ?_, hok, I.len⟩
  · exact keep b o (neL b o e) hb (neC b o e hx) (I.base.keep b o e n hb hx) (I.base.free b o e n hx)
  · obtain ⟨sl, e1⟩ := I.base.slot b o e n hb hx
    obtain ⟨sl', e2⟩ := slot b _ (neL b o e) hb (neC b o e hx) e1 (I.base.free b o e n hx)
    exact ⟨sl', e2⟩
  · obtain ⟨o', e1⟩ := I.base.there b o e hx
    exact free b o' (neC b o e hx) e1 (I.base.free b o e n hx)
  · obtain ⟨o', e1⟩ := I.base.there b o e hx
    exact there b o' (neC b o e hx) e1
  · obtain ⟨m1, e1⟩ := I.base.tbls b ps e
    obtain ⟨m2, e2⟩ := tbls b _ e1
    exact ⟨m1 ++ m2, by rw [e2, Array.append_assoc]⟩
  · obtain ⟨m, hn, hl⟩ := I.loc
    refine ⟨m, ns m hn, fun i x v e1 e2 e3 => ?_⟩
    obtain ⟨u, r, l⟩ := hl i x v e1 e2 e3
    refine ⟨u, r, ?_⟩
    rcases l with l | ⟨k, c, e, z⟩
    · exact .inl l
    · exact .inr ⟨k, c, e, cellK x c e _ z⟩
  · obtain ⟨v, z⟩ := I.cell x c e
    exact ⟨v, cellK x c e v z⟩
  · obtain ⟨m, ⟨o, _, _, ho, _⟩, _⟩ := I.loc
    exact free _ o (fun z => (hch _ z).2.1 rfl) ho I.free
  · obtain ⟨v, o, ho, hd⟩ := I.cell x c e
    exact free c o (fun z => (hch c z).2.2.1 x c e rfl) ho (I.freeC x c e)
  · obtain ⟨e, n, ne, nf, d⟩ := I.pin p hp
    have nch : p.1 ∉ ch := fun z => (hch p.1 z).2.2.2 p hp rfl
    exact ⟨keep p.1 p.2 ne nf nch e n, free p.1 p.2 nch e n, ne, nf, d⟩
/-- .. where the frame's own object is kept too -/
theorem Inv.un {t' : Nat} (I : Inv X pins σ H s) (u : Un X.fs [] H H' s.heap h') (hok : HOk X.prog X.w H' h') : Inv X pins σ H' { s with heap := h', toks := t' } := by
  obtain ⟨m, ⟨o, es, ep, ho, r⟩, _⟩ := id I.loc
  obtain ⟨sl, hL⟩ := u.any ho I.free (by simp)
  exact I.step (g' := s.gens) (d' := s.drawn) (ch := []) (fun _ z => nomatch z) (fun b o _ hb _ e n => u.keep b o e n hb (by simp)) (fun b o _ hb _ e n => u.slot b o e n hb (by simp)) (fun b o _ e n => u.free b o e n (by simp)) (fun b o _ e => u.there b o e (by simp)) u.tups u.frzs u.tbls (fun m' hm => by
    obtain ⟨o', es', ep', ho', r'⟩ := hm
    rw [ho] at ho'; cases ho'
    exact ⟨_, es', ep', hL, r'⟩) hok I.bare
/-- behind a call (or a comprehension's block): the slots of this frame may have changed too, the records at ch may have turned -/
theorem Inv.call {g' : Array GenState} {t' : Nat} {d' : Drawn} {ch : List Addr} (I : Inv X pins σ H s) (u : Un (frs X.stack) ch H H' s.heap h') (hok : HOk X.prog X.w H' h') (hg : AllBare g')
    (hch : ∀ b ∈ ch, (b ∈ X.ex ∨ X.s₀.heap.objs.size ≤ b) ∧ b ≠ X.env.locals ∧ (∀ x c, X.env.cells.lookup x = some c → c ≠ b) ∧ ∀ p ∈ X.pn ++ pins, p.1 ≠ b) :
    Inv X pins σ H' { s with heap := h', gens := g', drawn := d', toks := t' } := by
  obtain ⟨m, ⟨o, es, ep, ho, r⟩, _⟩ := id I.loc
  obtain ⟨sl, hL⟩ := u.any ho I.free fun z => (hch _ z).2.1 rfl
  exact I.step (ch := ch) hch (fun b o hL hb hc e n => u.keep b o e n (fun z => (List.mem_cons.mp (I.stkSub b z)).elim hL hb) hc) (fun b o _ _ hc e n => u.any e n hc) (fun b o hc e n => u.free b o e n hc) (fun b o hc e => u.there b o e hc) u.tups u.frzs u.tbls (fun m' hm => by
    obtain ⟨o', es', ep', ho', r'⟩ := hm
    rw [ho] at ho'; cases ho'
    exact ⟨_, es', ep', hL, r'⟩) hok hg
/-- an untracked record of ours (an iterator) has turned -/
theorem Inv.turned {t' : Nat} {it : Addr} (I : Inv X pins σ H s) (k : ∀ b o, b ≠ it → s.heap.get? b = some o → h'.get? b = some o) (hn : H it = none) (hL : it ≠ X.env.locals)
    (h1 : it ∈ X.ex ∨ X.s₀.heap.objs.size ≤ it) (h2 : ∀ x c, X.env.cells.lookup x = some c → c ≠ it) (h3 : ∀ p ∈ X.pn ++ pins, p.1 ≠ it) : Inv X pins σ H { s with heap := h', toks := t' } := by
  have nit : ∀ b u, H b = some u → b ≠ it := fun b u e z => by rw [z, hn] at e; cases e
  refine I.step (g' := s.gens) (d' := s.drawn) (ch := [it]) (fun b hb => ?_) (fun b o _ _ hc e _ => k b o (fun z => hc (by simp [z])) e) (fun b o _ _ hc e _ => ⟨o.slots, k b o (fun z => hc (by simp [z])) e⟩) (fun _ _ _ _ n => n)
    (fun b o hc e => ⟨o, k b o (fun z => hc (by simp [z])) e⟩) (fun _ _ e => e) (fun _ _ _ e => e) (fun b ps e => ⟨#[], by rw [e]; simp⟩) (fun m hm => ?_) (fun b u e => ?_) I.bare
  · have e : b = it := by simpa using hb
    subst e
    exact ⟨h1, hL, h2, h3⟩
  · obtain ⟨o, es, ep, ho, r⟩ := hm
    exact ⟨o, es, ep, k _ o (Ne.symm hL) ho, r⟩
  · refine (I.hok b u e).stay (fun c v hc q => k c v ?_ q) (fun _ q => q) fun _ _ q => q
    rcases hc with z | z
    · rw [z]; exact nit b u e
    · exact nit c _ z
theorem Inv.tok (I : Inv X pins σ H s) (t : Nat) : Inv X pins σ H { s with toks := t } := I.un (h' := s.heap) (t' := t) Un.refl I.hok
/-- all objects kept -/
theorem Inv.kept {t' : Nat} (I : Inv X pins σ H s) (k : ∀ b u, s.heap.get? b = some u → h'.get? b = some u) : Inv X pins σ H { s with heap := h', toks := t' } := I.un (Un.kept k) (I.hok.kept k)
/-- a new object laid and tracked -/
theorem Inv.laid {a : Addr} {o : HO} {t' : Nat} (I : Inv X pins σ H s) (k : ∀ b u, s.heap.get? b = some u → h'.get? b = some u) (hp : s.heap.objs.size ≤ a) (new : ObjOk X.prog X.w (upd H a o) h' a o) :
    Inv X pins σ (upd H a o) { s with heap := h', toks := t' } := I.un (Un.laid k hp (I.hok.fresh hp)) (I.hok.laid k hp new)
/-- an object written -/
theorem Inv.write {x e : Addr} {o : HO} {t' : Nat} (I : Inv X pins σ H s) (mu : Mut (H x)) (he : e = x ∨ H e = some (.own x)) (k : ∀ b u, b ≠ e → s.heap.get? b = some u → h'.get? b = some u) (heo : ∃ u, h'.get? e = some u)
    (new : ObjOk X.prog X.w (upd H x o) h' x o) : Inv X pins σ (upd H x o) { s with heap := h', toks := t' } := I.un (Un.write mu he k heo) (I.hok.write mu he k heo new)
theorem Inv.pins_of {pins' : List (Addr × Obj)} (I : Inv X pins σ H s) (h : ∀ p ∈ pins', s.heap.get? p.1 = some p.2 ∧ H p.1 = none ∧ p.1 ≠ X.env.locals ∧ p.1 ∉ X.fs ∧ ∀ v, p.2.data ≠ .cell v) : Inv X pins' σ H s :=
  ⟨I.ok, I.os, I.bare, I.base, I.loc, I.cell, I.free, I.freeC, fun p hp => (List.mem_append.mp hp).elim (fun z => I.pin p (List.mem_append_left _ z)) (h p), I.hok, I.len⟩

theorem nodup_ix {N : List Str} (hN : N.Nodup) {i j : Nat} {x : Str} (a : N[i]? = some x) (b : N[j]? = some x) : i = j := by
  obtain ⟨h1, e1⟩ := List.getElem?_eq_some_iff.mp a
  obtain ⟨h2, e2⟩ := List.getElem?_eq_some_iff.mp b
  exact (List.getElem_inj hN).mp (e1.trans e2.symm)

/-- a name is stored; what changed -/
theorem store_ok2 {M : Model} {A : Around} {E : Value → Shared → Prop} {i : Nat} {x : Str} {v : V} {u : Value} {Q : Unit → Shared → Prop} (I : Inv X pins σ H s) (hN : X.N.Nodup) (hi : X.N[i]? = some x) (hx : Loc X.env.scope x) (r : RelV v u)
    (h : ∀ s', Inv X pins (σ.set i (some v)) H s' → (∃ a, Heap.SameBut a s.heap s'.heap ∧ (a = X.env.locals ∨ X.env.cells.lookup x = some a)) → Q () s') (hf : X.fn x = true ∨ X.env.scope.names.lookup x = some .local := by first | exact .inl rfl | exact .inr rfl | assumption) : wpAny M A (storeName X.env x u) Q E s := by
  obtain ⟨m, hn, hl⟩ := id I.loc
  have hcls : (X.env.scope.kind == .class || (X.env.scope.kind == .module && X.env.locals != X.env.globals)) = false := by rw [I.ok.kind]; rfl
  have hiσ : i < σ.length := by rw [I.len]; exact (List.getElem?_eq_some_iff.mp hi).1
  have cne := I.cne
  have tracked : ∀ {a : Addr} {h' : Heap}, (∃ o, s.heap.get? a = some o ∧ H a = none) → Heap.SameBut a s.heap h' → HOk X.prog X.w H h' := fun {a h'} ha hs b ob e => by
    obtain ⟨_, _, hfree⟩ := ha
    refine (I.hok b ob e).stay (fun c w' hc q => (hs.2 c ?_).trans q) (fun _ q => q) fun _ _ q => q
    rintro rfl
    rcases hc with rfl | hc
    · rw [hfree] at e; cases e
    · rw [hfree] at hc; cases hc
  rcases hx with hk | hk
  · refine wpAny_storeName_local hk hn (fun h' hn' hs => ?_) hcls
    obtain ⟨oL, _, _, hoL, _⟩ := id hn
    refine h _ ⟨I.ok, I.os, I.bare, ⟨fun b o e n hb hx => ?_, fun b o e n hb hx => ?_, I.base.free, fun b o e hx => ?_, I.base.tups, I.base.frzs, I.base.tbls⟩, ⟨_, hn', fun j y v' e1 e2 e3 => ?_⟩, fun y c e => ?_, I.free, I.freeC, fun p hp => ?_, tracked ⟨oL, hoL, I.free⟩ hs, by simpa using I.len⟩ ⟨_, hs, .inl rfl⟩
    · exact (hs.2 b (Nat.ne_of_lt (Nat.lt_of_lt_of_le (Heap.lt_size e) I.ok.above))).trans (I.base.keep b o e n hb hx)
    · obtain ⟨sl, e1⟩ := I.base.slot b o e n hb hx
      exact ⟨sl, (hs.2 b (Nat.ne_of_lt (Nat.lt_of_lt_of_le (Heap.lt_size e) I.ok.above))).trans e1⟩
    · obtain ⟨o', e1⟩ := I.base.there b o e hx
      exact ⟨o', (hs.2 b (Nat.ne_of_lt (Nat.lt_of_lt_of_le (Heap.lt_size e) I.ok.above))).trans e1⟩
    · by_cases hj : j = i
      · subst hj
        rw [hi] at e1; cases e1
        rw [List.getElem?_set_self hiσ] at e2
        cases e2
        exact ⟨u, r, .inl ⟨hk, by simp⟩⟩
      · rw [List.getElem?_set_ne (Ne.symm hj)] at e2
        obtain ⟨u', r', q⟩ := hl j y v' e1 e2 e3
        refine ⟨u', r', ?_⟩
        rcases q with ⟨k, e⟩ | ⟨k, c, e, z⟩
        · refine .inl ⟨k, ?_⟩
          have : y ≠ x := fun e => hj (nodup_ix hN e1 (e ▸ hi))
          simp [this, e]
        · exact .inr ⟨k, c, e, z.sameBut hs (cne y c e)⟩
    · obtain ⟨w', z⟩ := I.cell y c e
      exact ⟨w', z.sameBut hs (cne y c e)⟩
    · obtain ⟨e, n, ne, nf, d⟩ := I.pin p hp
      exact ⟨(hs.2 p.1 ne).trans e, n, ne, nf, d⟩
  · have hfn : X.fn x = true := by
      rcases hf with z | z
      · exact z
      · rw [z] at hk; cases hk
    obtain ⟨c, hc⟩ := I.ok.has x (.inl hk)
    obtain ⟨w', z⟩ := I.cell x c hc
    refine wpAny_storeName_cell I.ok.kind hk hc z (fun h' hc' hs => ?_)
    obtain ⟨oc, hoc, hocd⟩ := id z
    refine h { s with heap := h' } ⟨I.ok, I.os, I.bare, ⟨fun b o e n hb hx => ?_, fun b o e n hb hx => ?_, I.base.free, fun b o e hx => ?_, I.base.tups, I.base.frzs, I.base.tbls⟩, ⟨m, hn.sameBut hs (Ne.symm (cne x c hc)), fun j y v' e1 e2 e3 => ?_⟩, fun y c' e => ?_, I.free, I.freeC, fun p hp => ?_, tracked ⟨oc, hoc, I.freeC x c hc⟩ hs, by simpa using I.len⟩ ⟨c, hs, .inr hc⟩
    · exact (hs.2 b (Nat.ne_of_lt (Nat.lt_of_lt_of_le (Heap.lt_size e) (I.ok.cab x c hfn hc)))).trans (I.base.keep b o e n hb hx)
    · obtain ⟨sl, e1⟩ := I.base.slot b o e n hb hx
      exact ⟨sl, (hs.2 b (Nat.ne_of_lt (Nat.lt_of_lt_of_le (Heap.lt_size e) (I.ok.cab x c hfn hc)))).trans e1⟩
    · obtain ⟨o', e1⟩ := I.base.there b o e hx
      exact ⟨o', (hs.2 b (Nat.ne_of_lt (Nat.lt_of_lt_of_le (Heap.lt_size e) (I.ok.cab x c hfn hc)))).trans e1⟩
    · by_cases hj : j = i
      · subst hj
        rw [hi] at e1; cases e1
        rw [List.getElem?_set_self hiσ] at e2
        cases e2
        exact ⟨u, r, .inr ⟨.inl hk, c, hc, hc'⟩⟩
      · rw [List.getElem?_set_ne (Ne.symm hj)] at e2
        obtain ⟨u', r', q⟩ := hl j y v' e1 e2 e3
        refine ⟨u', r', ?_⟩
        rcases q with q | ⟨k, c', e, z'⟩
        · exact .inl q
        · refine .inr ⟨k, c', e, z'.sameBut hs ?_⟩
          rintro rfl
          exact hj (nodup_ix hN e1 (I.ok.inj _ _ _ e hc ▸ hi))
    · by_cases hcc : c' = c
      · subst hcc; exact ⟨_, hc'⟩
      · obtain ⟨w2, z2⟩ := I.cell y c' e
        exact ⟨w2, z2.sameBut hs hcc⟩
    · obtain ⟨e, n, ne, nf, d⟩ := I.pin p hp
      refine ⟨(hs.2 p.1 ?_).trans e, n, ne, nf, d⟩
      intro q
      rw [q, hoc] at e
      have q' : oc = p.2 := Option.some.inj e
      exact d w' (by rw [← q']; exact hocd)
theorem store_ok {M : Model} {A : Around} {E : Value → Shared → Prop} {i : Nat} {x : Str} {v : V} {u : Value} {Q : Unit → Shared → Prop} (I : Inv X pins σ H s) (hN : X.N.Nodup) (hi : X.N[i]? = some x) (hx : Loc X.env.scope x) (r : RelV v u)
    (h : ∀ s', Inv X pins (σ.set i (some v)) H s' → Q () s') (hf : X.fn x = true ∨ X.env.scope.names.lookup x = some .local := by first | exact .inl rfl | exact .inr rfl | assumption) : wpAny M A (storeName X.env x u) Q E s :=
  store_ok2 I hN hi hx r (fun s' I' _ => h s' I') hf
end

/-! ### the judgements -/
/-- an exception: its class, its own dict's address (where it has one), the abstract heap behind it -/
abbrev XK := Value → Option Addr → Hp → Prop
abbrev St := List (Option V)
abbrev VK := V → Hp → Prop
/-- an expression's reading; a test's; an argument list's -/
abbrev TE := St → Hp → VK → Prop
abbrev TT := St → Hp → (Bool → Hp → Prop) → Prop
abbrev TA := St → Hp → (List V → Hp → Prop) → Prop
/-- what is wanted behind a statement -/
structure Ends where
  nx : St → Hp → Prop
  rt : VK
  bk : St → Hp → Prop := fun _ _ => False
  ct : St → Hp → Prop := fun _ _ => False
abbrev TS := Ends → St → Hp → Prop

def EP (X : Cx) (pins : List (Addr × Obj)) (σ : St) (Q : VK) (u : Value) (s' : Shared) : Prop := ∃ v H', Inv X pins σ H' s' ∧ RelV v u ∧ Q v H'
def TP (X : Cx) (pins : List (Addr × Obj)) (σ : St) (Q : Bool → Hp → Prop) (b : Bool) (s' : Shared) : Prop := ∃ H', Inv X pins σ H' s' ∧ Q b H'
def AP (X : Cx) (pins : List (Addr × Obj)) (σ : St) (Q : List V → Hp → Prop) (us : List Value) (s' : Shared) : Prop := ∃ vs H', Inv X pins σ H' s' ∧ Vals vs us ∧ Q vs H'
def SP (X : Cx) (pins : List (Addr × Obj)) (D : Ends) (f : Flow) (s' : Shared) : Prop :=
  match f with
  | .next => ∃ σ' H', Inv X pins σ' H' s' ∧ D.nx σ' H'
  | .brk => ∃ σ' H', Inv X pins σ' H' s' ∧ D.bk σ' H'
  | .cont => ∃ σ' H', Inv X pins σ' H' s' ∧ D.ct σ' H'
  | .ret u => ∃ v σ' H', Inv X pins σ' H' s' ∧ RelV v u ∧ D.rt v H'

def PE (X : Cx) (e : Expr) (t : TE) : Prop :=
  ∀ (pins : List (Addr × Obj)) (s : Shared) (σ : St) (H : Hp) (Q : VK), Inv X pins σ H s → t σ H Q → wpAny (model X.prog X.w) X.A (eval e X.env) (EP X pins σ Q) X.xe s
def PT (X : Cx) (e : Expr) (t : TT) : Prop :=
  ∀ (pins : List (Addr × Obj)) (s : Shared) (σ : St) (H : Hp) (Q : Bool → Hp → Prop), Inv X pins σ H s → t σ H Q → wpAny (model X.prog X.w) X.A (isTrue e X.env (eval e X.env)) (TP X pins σ Q) X.xe s
/-- a test whatever its 'whole' is (and, or) -/
def PW (X : Cx) (e : Expr) (t : TT) : Prop :=
  ∀ (whole : Sem Value) (pins : List (Addr × Obj)) (s : Shared) (σ : St) (H : Hp) (Q : Bool → Hp → Prop), Inv X pins σ H s → t σ H Q → wpAny (model X.prog X.w) X.A (isTrue e X.env whole) (TP X pins σ Q) X.xe s
theorem PW.pt {X : Cx} {e : Expr} {t : TT} (h : PW X e t) : PT X e t := h _
/-- an argument list (no star), from the left -/
def PA (X : Cx) (es : List Expr) (t : TA) : Prop :=
  ∀ (pos : Pos) (pins : List (Addr × Obj)) (s : Shared) (σ : St) (H : Hp) (Q : List V → Hp → Prop), Inv X pins σ H s → t σ H Q → wpAny (model X.prog X.w) X.A (spliced (backTo pos (starEach es X.env))) (AP X pins σ Q) X.xe s
def PS (X : Cx) (st : Stmt) (t : TS) : Prop :=
  ∀ (pins : List (Addr × Obj)) (s : Shared) (σ : St) (H : Hp) (D : Ends), Inv X pins σ H s → t D σ H → wpAny (model X.prog X.w) X.A (exec st X.env) (SP X pins D) X.xe s
def PSs (X : Cx) (st : List Stmt) (t : TS) : Prop :=
  ∀ (pins : List (Addr × Obj)) (s : Shared) (σ : St) (H : Hp) (D : Ends), Inv X pins σ H s → t D σ H → wpAny (model X.prog X.w) X.A (execs st X.env) (SP X pins D) X.xe s
/-- weaken the end -/
theorem thn {α : Type} {t : Sem α} {Q Q' : α → Shared → Prop} {M : Model} {A : Around} {E : Value → Shared → Prop} {s : Shared} (h : wpAny M A t Q E s) (hQ : ∀ a s, Q a s → Q' a s) : wpAny M A t Q' E s := wpAny_mono h hQ fun _ _ x => x
end L2

namespace L2
open PySem PySem.Spec PyProof.Rows
section
variable {X : Cx}


/-! ### names and constants -/
def tVar (i : Nat) : TE := fun σ H Q => ∃ v, σ[i]? = some (some v) ∧ Q v H
def tC (v : V) : TE := fun _ H Q => Q v H
theorem pe_var {i : Nat} {x : Str} {pos : Pos} (hN : X.N[i]? = some x) (hv : Vis X.env.scope x) (hd : (x == ("__debug__" : Str)) = false := by decide) (hcd : (x == ("__classdict__" : Str)) = false := by decide) : PE X (.Name x pos) (tVar i) := by
  intro pins s σ H Q I h
  obtain ⟨v, e, h⟩ := h
  obtain ⟨m, hn, hl⟩ := I.loc
  obtain ⟨u, r, l⟩ := hl i x v hN e hv
  have fin : EP X pins σ Q u s := ⟨v, H, I, r, h⟩
  rcases l with ⟨hk, hm⟩ | ⟨hk, c, hc, hcell⟩
  · exact wpAny_Name (wpAny_loadName_local I.ok.kind hk hn hm fin) hd
  · rcases hk with hk | hk
    · exact wpAny_Name (wpAny_loadName_cell I.ok.kind hk hc hcell fin) hd
    · exact wpAny_Name (wpAny_loadName_free I.ok.kind hk hc hcell fin hcd) hd
theorem pe_int {i j pos} : PE X (.Constant (.int i) j pos) (tC (.int i)) := fun _ _ _ H _ I h => wpAny_Constant_int ⟨.int i, H, I.tok _, ⟨_, rfl⟩, h⟩
theorem pe_bl {b j pos} : PE X (.Constant (.bool b) j pos) (tC (.bl b)) := fun _ _ _ H _ I h => Constant_bool ⟨.bl b, H, I, rfl, h⟩
theorem pe_non {j pos} : PE X (.Constant .none j pos) (tC .non) := fun _ _ _ H _ I h => Constant_none ⟨.non, H, I, rfl, h⟩
theorem pe_str {x j pos} : PE X (.Constant (.str x) j pos) (tC (.str x)) := fun _ _ _ H _ I h => Calls.Constant_str ⟨.str x, H, I.tok _, ⟨_, rfl⟩, h⟩

/-- a global name of the def -/
def Gl (X : Cx) (x : Str) : Prop := X.env.kindOf x = some .globalImplicit
theorem ld_glob {E : Value → Shared → Prop} {pins : List (Addr × Obj)} {s : Shared} {σ : St} {H : Hp} {x : Str} {u : Value} {pos : Pos} {Q : Value → Shared → Prop} (I : Inv X pins σ H s) (hg : Gl X x) (hm : X.mg x = some u) (h : Q u s)
    (hd : (x == ("__debug__" : Str)) = false := by decide) : wpAny (model X.prog X.w) X.A (eval (.Name x pos) X.env) Q E s :=
  Calls.Name_function_global I.ok.kind hg (Calls.loadGlobal_global (by rw [I.ok.glob]; exact I.mod.glob.keeps I.bk) hm h) hd
theorem ld_blt {E : Value → Shared → Prop} {pins : List (Addr × Obj)} {s : Shared} {σ : St} {H : Hp} {x : Str} {u : Value} {pos : Pos} {Q : Value → Shared → Prop} (I : Inv X pins σ H s) (hg : Gl X x) (hm : X.mg x = none) (hv : bootBuiltins x = some u) (h : Q u s)
    (hn : x ≠ "__name__" := by decide) (hd : (x == ("__debug__" : Str)) = false := by decide) : wpAny (model X.prog X.w) X.A (eval (.Name x pos) X.env) Q E s := by
  obtain ⟨mb, h1, h2⟩ := I.mod.blt
  exact Calls.Name_function_global I.ok.kind hg (Calls.loadGlobal_builtin (by rw [I.ok.glob]; exact I.mod.glob.keeps I.bk) hm (by rw [I.ok.blt]; exact h1.keeps I.bk) ((h2 x hn).trans hv) h) hd
/-- a module's constant, a class, a function, as a value -/
theorem pe_glob {x : Str} {v : V} {u : Value} {pos : Pos} (hg : Gl X x) (hm : X.mg x = some u) (r : RelV v u) (hd : (x == ("__debug__" : Str)) = false := by decide) : PE X (.Name x pos) (tC v) :=
  fun _ _ _ H _ I h => ld_glob I hg hm ⟨v, H, I, r, h⟩ hd

/-! ### arithmetic -/
variable {a b : Expr} {ta tb : TE} {pos : Pos}

/-! ### comparisons -/
/-- a comparison as a value, as a test -/
def tB (t : TE) : TT := fun σ H Q => t σ H fun x H1 => ∃ c, x = .bl c ∧ Q c H1
/-- an expression whose value is a bool, as a test -/
theorem pt_val {e : Expr} {t : TE} (h : PE X e t) (he : ∀ whole, isTrue e X.env whole = (do let v ← whole; standAt e.pos; holding [v] (truthy v)) := by intro _; rfl) : PT X e (tB t) := by
  intro pins s σ H Q I hw
  refine isTrue_plain (thn (h pins s σ H _ I hw) fun v s1 ⟨x, H1, I1, r1, q1⟩ => ?_) (he _)
  obtain ⟨d, rfl, q⟩ := q1
  cases r1
  exact wpAny_truthy_bool ⟨H1, I1, q⟩

/-! ### and, or, not -/
variable {tA tB' : TT} {rest : List Expr}
def tAnd (t u : TT) : TT := fun σ H Q => t σ H fun c H1 => if c = true then u σ H1 Q else Q false H1
def tOr (t u : TT) : TT := fun σ H Q => t σ H fun c H1 => if c = true then Q true H1 else u σ H1 Q
def tNot (t : TT) : TT := fun σ H Q => t σ H fun c H1 => Q (!c) H1
theorem pw_and1 (ha : PT X a tA) : PW X (.BoolOp .And [a] pos) tA := by
  intro wh pins s σ H Q I h
  refine isTrue_and (thn (ha pins s σ H Q I h) fun c s1 e => ?_)
  cases c with
  | true => exact isTrue_and_nil e
  | false => exact e
theorem pw_or1 (ha : PT X a tA) : PW X (.BoolOp .Or [a] pos) tA := by
  intro wh pins s σ H Q I h
  refine isTrue_or (thn (ha pins s σ H Q I h) fun c s1 e => ?_)
  cases c with
  | false => exact isTrue_or_nil e
  | true => exact e
theorem pw_and (ha : PT X a tA) (hb : PW X (.BoolOp .And (b :: rest) pos) tB') : PW X (.BoolOp .And (a :: b :: rest) pos) (tAnd tA tB') := by
  intro wh pins s σ H Q I h
  refine isTrue_and (thn (ha pins s σ H _ I h) fun c s1 ⟨H1, I1, q1⟩ => ?_)
  cases c with
  | true => exact hb wh pins s1 σ H1 Q I1 q1
  | false => exact ⟨H1, I1, q1⟩
theorem pw_or (ha : PT X a tA) (hb : PW X (.BoolOp .Or (b :: rest) pos) tB') : PW X (.BoolOp .Or (a :: b :: rest) pos) (tOr tA tB') := by
  intro wh pins s σ H Q I h
  refine isTrue_or (thn (ha pins s σ H _ I h) fun c s1 ⟨H1, I1, q1⟩ => ?_)
  cases c with
  | true => exact ⟨H1, I1, q1⟩
  | false => exact hb wh pins s1 σ H1 Q I1 q1
theorem pt_not (ha : PT X a tA) : PT X (.UnaryOp .Not a pos) (tNot tA) := by
  intro pins s σ H Q I h
  exact isTrue_not (ha pins s σ H (fun c H1 => Q (!c) H1) I h)
/-- a if t else b -/
def tIf (t : TT) (ta tb : TE) : TE := fun σ H Q => t σ H fun c H1 => if c = true then ta σ H1 Q else tb σ H1 Q
theorem pe_ifExp {c : Expr} (hc : PT X c tA) (ha : PE X a ta) (hb : PE X b tb) : PE X (.IfExp c a b pos) (tIf tA ta tb) := by
  intro pins s σ H Q I h
  refine wpAny_IfExp (thn (hc pins s σ H _ I h) fun d s1 ⟨H1, I1, q1⟩ => ?_)
  cases d with
  | true => exact ha pins s1 σ H1 Q I1 q1
  | false => exact hb pins s1 σ H1 Q I1 q1
end
end L2

namespace L2
open PySem PySem.Spec PyProof.Rows

/-! ### a list, a tuple that is read: tracked, frozen, or an object of the module -/
def SqL (K : PySem.W.Frag) (H : Hp) (a : Addr) (xs : List V) : Prop :=
  Rd H a (.lst xs) ∨
    ∃ (o : Obj) (its : Array Value) (n : Nat), K.lookup a = some o ∧ o.cls = .type "list" ∧ o.dict = none ∧ o.data = .seq its n ∧ its.size ≤ sizeLine ∧ Vals xs its.toList
def SqT (K : PySem.W.Frag) (H : Hp) (a : Addr) (xs : List V) : Prop :=
  Rd H a (.tup xs) ∨
    ∃ (o : Obj) (its : Array Value) (n : Nat), K.lookup a = some o ∧ o.cls = .type "tuple" ∧ o.data = .seq its n ∧ its.size ≤ sizeLine ∧ Vals xs its.toList
def absV : Value → Option V
  | .none => some .non
  | .bool b => some (.bl b)
  | .int i _ => some (.int i)
  | .str x _ => some (.str x)
  | .bytes b _ => some (.byt b)
  | .float b _ => some (.flt b)
  | .ref a => some (.ref a)
  | .type n => some (.ty n)
  | _ => none
theorem RelV.abs {x : V} {u : Value} (r : RelV x u) : absV u = some x := by
  cases x with
  | non => cases r; rfl
  | bl _ => cases r; rfl
  | int _ => obtain ⟨t, rfl⟩ := r; rfl
  | str _ => obtain ⟨t, rfl⟩ := r; rfl
  | byt _ => obtain ⟨t, rfl⟩ := r; rfl
  | flt _ => obtain ⟨t, rfl⟩ := r; rfl
  | ref _ => cases r; rfl
  | ty _ => cases r; rfl
theorem RelV.inj {x y : V} {u : Value} (r : RelV x u) (q : RelV y u) : x = y := Option.some.inj (r.abs.symm.trans q.abs)
theorem Vals.inj : ∀ {xs ys : List V} {us : List Value}, Vals xs us → Vals ys us → xs = ys
  | _, _, _, .nil, .nil => rfl
  | _, _, _, .cons r t, .cons r' t' => by rw [r.inj r', Vals.inj t t']
section
variable {X : Cx} {pins : List (Addr × Obj)} {σ : St} {H : Hp} {s : Shared} {a : Addr} {xs ys : List V}
theorem SqL.of {K : PySem.W.Frag} (h : H a = some (.lst xs)) : SqL K H a xs := .inl (.inl h)
theorem SqT.of {K : PySem.W.Frag} (h : H a = some (.tup xs)) : SqT K H a xs := .inl (.inl h)
theorem Inv.list (I : Inv X pins σ H s) (h : SqL X.K H a xs) : ∃ its : List Value, Vals xs its ∧ PlainL s.heap a its.toArray ∧ xs.length ≤ sizeLine := by
  rcases h with h | ⟨o, its, n, hk, hc, hd, hs, hz, r⟩
  · obtain ⟨z, its, n, r, e⟩ := h.ok I.hok
    exact ⟨its, r, ⟨_, n, e, rfl, rfl, rfl⟩, z⟩
  · refine ⟨its.toList, r, ⟨o, n, I.kIn a o hk, hc, hd, by simpa using hs⟩, ?_⟩
    have e := r.length
    simp only [Array.length_toList] at e
    omega
theorem Inv.tuple (I : Inv X pins σ H s) (h : SqT X.K H a xs) : ∃ its : List Value, Vals xs its ∧ IsTup s.heap a its.toArray ∧ xs.length ≤ sizeLine := by
  rcases h with h | ⟨o, its, n, hk, hc, hs, hz, r⟩
  · obtain ⟨z, its, r, p⟩ := h.ok I.hok
    exact ⟨its, r, p, z⟩
  · refine ⟨its.toList, r, ⟨o, I.kIn a o hk, hc, n, by simpa using hs⟩, ?_⟩
    have e := r.length
    simp only [Array.length_toList] at e
    omega
theorem Inv.list_inj (I : Inv X pins σ H s) (h : SqL X.K H a xs) (h' : SqL X.K H a ys) : xs = ys := by
  obtain ⟨its, r, ⟨o, n, e, _, _, d⟩, _⟩ := I.list h
  obtain ⟨its', r', ⟨o', n', e', _, _, d'⟩, _⟩ := I.list h'
  rw [e] at e'; cases e'
  rw [d] at d'
  injection d' with d1 _
  have : its = its' := by simpa using congrArg Array.toList d1
  subst this
  exact r.inj r'
theorem Inv.tuple_inj (I : Inv X pins σ H s) (h : SqT X.K H a xs) (h' : SqT X.K H a ys) : xs = ys := by
  obtain ⟨its, r, ⟨o, e, _, n, d⟩, _⟩ := I.tuple h
  obtain ⟨its', r', ⟨o', e', _, n', d'⟩, _⟩ := I.tuple h'
  rw [e] at e'; cases e'
  rw [d] at d'
  injection d' with d1 _
  have : its = its' := by simpa using congrArg Array.toList d1
  subst this
  exact r.inj r'
end

/-! ### another wish about exceptions -/
abbrev Cx.wish (X : Cx) (E : Value → Shared → Prop) : Cx := { X with xe := E }
/-- no exception leaves -/
abbrev Cx.nox (X : Cx) : Cx := X.wish fun _ _ => False
theorem Cx.Ok.wish {X : Cx} (ok : X.Ok) (E : Value → Shared → Prop) : (X.wish E).Ok :=
  ⟨ok.mod, ok.kind, ok.glob, ok.blt, ok.above, ok.inj, ok.has, ok.cab, ok.hd, ok.frames, ok.stk, ok.exf, ok.bs, ok.bsz, ok.noex, ok.exfs, ok.funs, ok.frf⟩
theorem Cx.Ok.unwish {X : Cx} {E : Value → Shared → Prop} (ok : (X.wish E).Ok) : X.Ok :=
  ⟨ok.mod, ok.kind, ok.glob, ok.blt, ok.above, ok.inj, ok.has, ok.cab, ok.hd, ok.frames, ok.stk, ok.exf, ok.bs, ok.bsz, ok.noex, ok.exfs, ok.funs, ok.frf⟩
section
variable {X : Cx} {pins : List (Addr × Obj)} {σ : St} {H : Hp} {s : Shared} {E : Value → Shared → Prop}
theorem Inv.wish (I : Inv X pins σ H s) (E : Value → Shared → Prop) : Inv (X.wish E) pins σ H s := ⟨I.ok.wish E, I.os, I.bare, I.base, I.loc, I.cell, I.free, I.freeC, I.pin, I.hok, I.len⟩
theorem Inv.unwish (I : Inv (X.wish E) pins σ H s) : Inv X pins σ H s := ⟨I.ok.unwish, I.os, I.bare, I.base, I.loc, I.cell, I.free, I.freeC, I.pin, I.hok, I.len⟩
theorem SP.unwish {D : Ends} {f : Flow} {s' : Shared} (h : SP (X.wish E) pins D f s') : SP X pins D f s' := by
  cases f with
  | next => obtain ⟨σ', H', I, q⟩ := h; exact ⟨σ', H', I.unwish, q⟩
  | brk => obtain ⟨σ', H', I, q⟩ := h; exact ⟨σ', H', I.unwish, q⟩
  | cont => obtain ⟨σ', H', I, q⟩ := h; exact ⟨σ', H', I.unwish, q⟩
  | ret u => obtain ⟨v, σ', H', I, r, q⟩ := h; exact ⟨v, σ', H', I.unwish, r, q⟩
theorem PSs.nox {st : List Stmt} {t : TS} (h : PSs X.nox st t) : PSs X st t := fun pins s σ H D I hw =>
  wpAny_mono (h pins s σ H D (I.wish _) hw) (fun _ _ q => q.unwish) fun _ _ z => False.elim z
end

/-! ### blocks and small statements -/
section
variable {X : Cx} {st : Stmt} {rest : List Stmt} {t u : TS} {e : Expr} {te : TE} {pos : Pos}
def tNext : TS := fun D σ H => D.nx σ H
def tSeq (t u : TS) : TS := fun D σ H => t { D with nx := u D } σ H
theorem pss_nil : PSs X [] tNext := fun _ _ σ H _ I h => wpAny_execs_nil ⟨σ, H, I, h⟩
theorem pss_cons (h1 : PS X st t) (h2 : PSs X rest u) : PSs X (st :: rest) (tSeq t u) := by
  intro pins s σ H D I h
  refine wpAny_execs_cons (thn (h1 pins s σ H { D with nx := u D } I h) fun f s1 q => ?_)
  cases f with
  | next =>
    obtain ⟨σ', H', I', q⟩ := q
    exact h2 pins s1 σ' H' D I' q
  | ret v => exact q
  | brk => exact q
  | cont => exact q
theorem pss_one (h1 : PS X st t) : PSs X [st] t := by
  intro pins s σ H D I h
  refine wpAny_execs_cons (thn (h1 pins s σ H D I h) fun f s1 q => ?_)
  cases f with
  | next => exact wpAny_execs_nil q
  | ret v => exact q
  | brk => exact q
  | cont => exact q
def tBreak : TS := fun D σ H => D.bk σ H
theorem ps_break : PS X (.Break pos) tBreak := fun _ _ σ H _ I h => wpAny_Break ⟨σ, H, I, h⟩
/-- in a def's body nothing is shown -/
theorem Inv.quiet {pins : List (Addr × Obj)} {σ : St} {H : Hp} {s : Shared} (I : Inv X pins σ H s) : interactive X.env = false := by simp [interactive, I.ok.kind]
/-- an expression whose value is dropped -/
def tDrop (te : TE) : TS := fun D σ H => te σ H fun _ H1 => D.nx σ H1
theorem ps_expr (he : PE X e te) (hs : swapsWith e none pos.line X.env = pure false := by rfl) : PS X (.Expr e pos) (tDrop te) := by
  intro pins s σ H D I h
  exact wpAny_Expr_any (thn (he pins s σ H _ I h) fun v s1 ⟨x, H1, I1, r1, q1⟩ => ⟨σ, H1, I1, q1⟩) I.quiet hs
def tRet (te : TE) : TS := fun D σ H => te σ H D.rt
theorem ps_ret (he : PE X e te) : PS X (.Return (some e) pos) (tRet te) := by
  intro pins s σ H D I h
  exact wpAny_Return_some (thn (he pins s σ H _ I h) fun v s1 ⟨x, H1, I1, r1, q1⟩ => ⟨x, σ, H1, I1, r1, q1⟩)
def tIfS (c : TT) (t u : TS) : TS := fun D σ H => c σ H fun b H1 => if b = true then t D σ H1 else u D σ H1
theorem ps_if {c : Expr} {a b : List Stmt} {tc : TT} (hc : PT X c tc) (ha : PSs X a t) (hb : PSs X b u) : PS X (.If c a b pos) (tIfS tc t u) := by
  intro pins s σ H D I h
  refine wpAny_If (thn (hc pins s σ H _ I h) fun d s1 ⟨H1, I1, q1⟩ => ?_)
  cases d with
  | true => exact ha pins s1 σ H1 D I1 q1
  | false => exact hb pins s1 σ H1 D I1 q1
/-- code that the proof never comes to -/
def tNever : TS := fun _ _ _ => False
theorem ps_never : PS X st tNever := fun _ _ _ _ _ _ h => h.elim
end

/-! ### targets -/
abbrev TG := V → St → Hp → (St → Hp → Prop) → Prop
abbrev TGs := List V → St → Hp → (St → Hp → Prop) → Prop
def PG (X : Cx) (target : Expr) (t : TG) : Prop :=
  ∀ (pins : List (Addr × Obj)) (s : Shared) (σ : St) (H : Hp) (v : V) (u : Value) (Q : St → Hp → Prop), Inv X pins σ H s → RelV v u → t v σ H Q →
    wpAny (model X.prog X.w) X.A (assign target X.env u) (fun _ s' => ∃ σ' H', Inv X pins σ' H' s' ∧ Q σ' H') X.xe s
/-- several targets, one after another -/
def PGs (X : Cx) (ts : List Expr) (t : TGs) : Prop :=
  ∀ (pins : List (Addr × Obj)) (s : Shared) (σ : St) (H : Hp) (vs : List V) (us : List Value) (Q : St → Hp → Prop), Inv X pins σ H s → Vals vs us → t vs σ H Q →
    wpAny (model X.prog X.w) X.A (assignInOrder ((assignEach ts X.env).map (·.2)) us) (fun _ s' => ∃ σ' H', Inv X pins σ' H' s' ∧ Q σ' H') X.xe s
section
variable {X : Cx} {pos : Pos}
def gName (i : Nat) : TG := fun v σ H Q => Q (σ.set i (some v)) H
theorem pg_name {i : Nat} {x : Str} (hN : X.N.Nodup) (hi : X.N[i]? = some x) (hx : Loc X.env.scope x) (hf : X.fn x = true ∨ X.env.scope.names.lookup x = some .local := by first | exact .inl rfl | exact .inr rfl | assumption) : PG X (.Name x pos) (gName i) := by
  intro pins s σ H v u Q I r h
  exact wpAny_assign_Name (store_ok I hN hi hx r (fun s' I' => ⟨_, H, I', h⟩) hf)
def gNil : TGs := fun vs σ H Q => vs = [] ∧ Q σ H
def gCons (t : TG) (u : TGs) : TGs := fun vs σ H Q => ∃ v r, vs = v :: r ∧ t v σ H fun σ' H' => u r σ' H' Q
theorem pgs_nil : PGs X [] gNil := by
  intro pins s σ H vs us Q I r h
  obtain ⟨e, h⟩ := h
  subst e
  cases r
  exact assignInOrder_nil ⟨σ, H, I, h⟩
theorem pgs_cons {e : Expr} {es : List Expr} {t : TG} {u : TGs} (h1 : PG X e t) (h2 : PGs X es u)
    (hs : (assignEach (e :: es) X.env).map (·.2) = assign e X.env :: (assignEach es X.env).map (·.2) := by rfl) : PGs X (e :: es) (gCons t u) := by
  intro pins s σ H vs us Q I r h
  obtain ⟨v, vr, e1, h⟩ := h
  subst e1
  cases r with
  | cons r rr =>
    rw [hs]
    refine assignInOrder_cons (thn (h1 pins s σ H _ _ _ I r h) fun _ s1 ⟨σ1, H1, I1, q1⟩ => ?_)
    exact h2 pins s1 σ1 H1 _ _ Q I1 rr q1
/-- (a, b, ..) = a tuple of that length -/
def gTup (K : PySem.W.Frag) (n : Nat) (t : TGs) : TG := fun v σ H Q => ∃ a xs, v = .ref a ∧ SqT K H a xs ∧ xs.length = n ∧ t xs σ H Q
theorem pg_tup {es : List Expr} {k : Nat} {t : TGs} {n : Nat} (hc : X.calm = true) (h : PGs X es t)
    (hn : (assignEach es X.env).length = n := by rfl) (hst : (assignEach es X.env).findIdx? (·.1) = none := by rfl) : PG X (.Tuple es k pos) (gTup X.K n t) := by
  intro pins s σ H v u Q I r hw
  obtain ⟨a, xs, e1, hq, hl, hw⟩ := hw
  subst e1
  cases r
  obtain ⟨its, rv, ht, hz⟩ := I.tuple hq
  refine assign_Tuple_tuple (I.ok.hd hc) ht (by simp [hn, ← hl, rv.length]) hst fun h' hx => ?_
  have I1 : Inv X pins σ H { s with heap := h' } := I.kept (t' := s.toks) fun b o e => hx b o (Nat.ne_of_lt (Heap.lt_size e)) e
  exact h pins _ σ H xs _ Q I1 (by simpa using rv) hw
/-- target = value -/
def tAsg (te : TE) (g : TG) : TS := fun D σ H => te σ H fun x H1 => g x σ H1 D.nx
theorem ps_asg {tg e : Expr} {te : TE} {g : TG} (he : PE X e te) (hg : PG X tg g) (hs : swapsWithSole [tg] e pos.line X.env = pure false := by rfl) (hw : swappedStores [tg] e X.env = pure none := by rfl)
    (h1 : (assignEach [tg] X.env).map (·.2) = [assign tg X.env] := by rfl) : PS X (.Assign [tg] e pos) (tAsg te g) := by
  intro pins s σ H D I h
  refine wpAny_Assign_stores (thn (he pins s σ H _ I h) fun v s1 ⟨x, H1, I1, r1, q1⟩ => ?_) hs hw
  rw [h1]
  exact thn (hg pins s1 σ H1 x v _ I1 r1 q1) fun _ s2 q => q
/-- name = value -/
theorem ps_set {i : Nat} {x : Str} {e : Expr} {te : TE} {pos' : Pos} (hN : X.N.Nodup) (hi : X.N[i]? = some x) (hx : Loc X.env.scope x) (he : PE X e te) (hs : swapsWith e (some (.Name x pos')) pos.line X.env = pure false := by rfl) (hf : X.fn x = true ∨ X.env.scope.names.lookup x = some .local := by first | exact .inl rfl | exact .inr rfl | assumption) :
    PS X (.Assign [.Name x pos'] e pos) (tAsg te (gName i)) := by
  intro pins s σ H D I h
  refine wpAny_Assign_Name (thn (he pins s σ H _ I h) fun v s1 ⟨y, H1, I1, r1, q1⟩ => ?_) hs
  exact store_ok I1 hN hi hx r1 (fun s2 I2 => ⟨_, H1, I2, q1⟩) hf
end

/-! ### while -/
section
variable {X : Cx} {pos : Pos}
end

/-! ### what a loop or a comprehension walks -/
/-- at turn i: it yields x (the heap may grow), or it stops -/
structure It where
  go : Nat → Hp → Prop
  yld : Nat → Hp → V → Hp → Prop
  stop : Nat → Hp → Prop
/-- the iterator's own objects may turn: they are not the frame's, not pinned, younger than the entry (or a comprehension's own) -/
def FpOk (X : Cx) (pins : List (Addr × Obj)) (H : Hp) (b : Addr) : Prop :=
  H b = none ∧ b ≠ X.env.locals ∧ b ∉ X.fs ∧ (b ∈ X.ex ∨ X.s₀.heap.objs.size ≤ b) ∧ (∀ x c, X.env.cells.lookup x = some c → c ≠ b) ∧ ∀ p ∈ X.pn ++ pins, p.1 ≠ b
theorem Inv.fpOk {X : Cx} {pins : List (Addr × Obj)} {σ : St} {H H' : Hp} {s : Shared} {b : Addr} (I : Inv X pins σ H s) (hb : s.heap.objs.size ≤ b) (hn : H' b = none) : FpOk X pins H' b := by
  refine ⟨hn, Nat.ne_of_gt (Nat.lt_of_lt_of_le I.lt hb), I.nofs hb, .inr (Nat.le_trans I.sz hb), fun x c e z => ?_, fun p hp z => ?_⟩
  · obtain ⟨v, q⟩ := I.cell x c e
    exact absurd (Nat.lt_of_lt_of_le q.lt (by rw [z]; exact hb)) (Nat.lt_irrefl _)
  · exact absurd (Nat.lt_of_lt_of_le (Heap.lt_size (I.pin p hp).1) (by rw [z]; exact hb)) (Nat.lt_irrefl _)
structure Turn (P : Program) (w : World) (K : PySem.W.Frag) (tg : Expr) (J : It) (fp : List Addr) (it : Addr) (tn : Nat → Heap → Prop) : Prop where
  mem : it ∈ fp
  obj : ∀ i h, tn i h → ∀ b ∈ fp, ∃ o, h.get? b = some o ∧ ∀ v, o.data ≠ .cell v
  keep : ∀ i h h', tn i h → (∀ b ∈ fp, ∀ o, h.get? b = some o → h'.get? b = some o) → tn i h'
  item : ∀ (X : Cx), X.prog = P → X.w = w → X.K = K → X.calm = true → ∀ (i : Nat) (pins : List (Addr × Obj)) (s : Shared) (σ : St) (H : Hp) (E : Value → Shared → Prop), Inv X pins σ H s → (∀ b ∈ fp, FpOk X pins H b) → tn i s.heap → J.go i H →
    wpAny (model P w) X.A (pyNext (.ref it)) (fun r s1 => ∃ u, r = some u ∧
      wpAny (model P w) X.A (letOwnedTupleGo tg (.ref it) u) (fun _ s2 => ∃ x H', Inv X pins σ H' s2 ∧ RelV x u ∧ J.yld i H x H' ∧ tn (i + 1) s2.heap ∧ ∀ b ∈ fp, H' b = none) E s1) E s
  done : ∀ (X : Cx), X.prog = P → X.w = w → X.K = K → X.calm = true → ∀ (i : Nat) (pins : List (Addr × Obj)) (s : Shared) (σ : St) (H : Hp) (E : Value → Shared → Prop), Inv X pins σ H s → (∀ b ∈ fp, FpOk X pins H b) → tn i s.heap → J.stop i H →
    wpAny (model P w) X.A (pyNext (.ref it)) (fun r s1 => r = none ∧ Inv X pins σ H s1) E s
  self : ∀ (A : Around) (i : Nat) (s : Shared) (Q : Value → Shared → Prop) (E : Value → Shared → Prop), tn i s.heap → Q (.ref it) s → wpAny (model P w) A (pyIter (.ref it)) Q E s
abbrev TI := St → Hp → (It → Hp → Prop) → Prop
/-- an iterator has come -/
def PIE (X : Cx) (pins : List (Addr × Obj)) (σ : St) (tg : Expr) (R : It → Hp → Prop) (itv : Value) (s2 : Shared) : Prop :=
  ∃ (it : Addr) (fp : List Addr) (tn : Nat → Heap → Prop) (J : It) (H' : Hp), itv = .ref it ∧ Inv X pins σ H' s2 ∧ Turn X.prog X.w X.K tg J fp it tn ∧ tn 0 s2.heap ∧ (∀ b ∈ fp, FpOk X pins H' b) ∧ R J H'
def PI (X : Cx) (tg iter : Expr) (wi : TI) : Prop :=
  ∀ (pins : List (Addr × Obj)) (s : Shared) (σ : St) (H : Hp) (R : It → Hp → Prop), Inv X pins σ H s → wi σ H R →
    wpAny (model X.prog X.w) X.A (eval iter X.env) (fun v s1 => wpAny (model X.prog X.w) X.A (pyIter v) (PIE X pins σ tg R) X.xe s1) X.xe s

/-- the step ahead of the store is nothing for an iterator that keeps no tuple -/
theorem go_of {M : Model} {A : Around} {E : Value → Shared → Prop} {s : Shared} {tg : Expr} {it : Addr} {u : Value} {o : Obj} {n : String} {vs : Array Value} {Q : Unit → Shared → Prop} (ho : s.heap.get? it = some o) (hc : o.cls = .type n) (hd : o.data = .fields vs)
    (hn : ["enumerate", "zip", "dict_itemiterator", "dict_reverseitemiterator", "odict_iterator", "itertools.zip_longest", "itertools.pairwise"].contains n = false) (hQ : Q () s) : wpAny M A (letOwnedTupleGo tg (.ref it) u) Q E s := by
  unfold letOwnedTupleGo
  cases tg <;> first
    | exact wpAny_pure hQ
    | (cases u <;> first
        | exact wpAny_pure hQ
        | (refine wpAny_bind (wpAny_load ho ?_)
           rw [hc, hd]
           show wpAny M A (if (["enumerate", "zip", "dict_itemiterator", "dict_reverseitemiterator", "odict_iterator", "itertools.zip_longest", "itertools.pairwise"].contains n && vs[0]? == some (rawInt _)) = true then _ else _) Q E s
           rw [if_neg (by intro h; rw [hn, Bool.false_and] at h; cases h)]
           exact wpAny_pure hQ))

/-- the list at a, as it stands at each turn (a loop may append to it) -/
def Itl (K : PySem.W.Frag) (a : Addr) : It :=
  ⟨fun i H => ∃ xs x, SqL K H a xs ∧ xs[i]? = some x, fun i H x H' => H' = H ∧ ∀ xs, SqL K H a xs → xs[i]? = some x, fun i H => ∃ xs, SqL K H a xs ∧ xs.length ≤ i⟩
/-- lo, lo + 1, .. (n of them) -/
def Itr (lo : Int) (n : Nat) : It := ⟨fun i _ => i < n, fun i H x H' => H' = H ∧ x = .int (lo + i), fun i _ => n ≤ i⟩
theorem turn_list {P : Program} {w : World} {K : PySem.W.Frag} {tg : Expr} (a it : Addr) : Turn P w K tg (Itl K a) [it] it (fun i h => h.IsListIter it a i) where
  mem := by simp
  obj := fun i h st b hb => by
    have e : b = it := by simpa using hb
    subst e
    obtain ⟨o, e, c, d⟩ := st
    exact ⟨o, e, fun v z => by rw [d] at z; cases z⟩
  keep := fun i h h' st k => st.at fun o e => k it (by simp) o e
  item := by
    intro X hP hw hK hc i pins s σ H E I hf st hg
    subst hP hw hK
    obtain ⟨xs, x, hq, hx⟩ := hg
    obtain ⟨its, rv, p, hz⟩ := I.list hq
    obtain ⟨u, hu, ru⟩ := rv.get hx
    obtain ⟨f0, f1, f2, f3, f4, f5⟩ := hf it (by simp)
    refine wpAny_pyNext_list_item st p.isList (x := u) (by simpa using hu) fun h' st' sb => ?_
    have I1 : Inv X pins σ H { s with heap := h' } := I.turned (t' := s.toks) (fun b o hb e => (sb.2 b hb).trans e) f0 f1 f3 f4 f5
    obtain ⟨o, e, c, d⟩ := id st'
    exact ⟨u, rfl, go_of (s := { s with heap := h' }) e c d (by decide) ⟨x, H, I1, ru, ⟨rfl, fun ys hy => by rw [I.list_inj hy hq]; exact hx⟩, st', fun b hb => (hf b hb).1⟩⟩
  done := by
    intro X hP hw hK hc i pins s σ H E I hf st hg
    subst hP hw hK
    obtain ⟨xs, hq, hx⟩ := hg
    obtain ⟨its, rv, p, hz⟩ := I.list hq
    obtain ⟨f0, f1, f2, f3, f4, f5⟩ := hf it (by simp)
    have hl := rv.length
    exact wpAny_pyNext_list_end (I.ok.hd hc) st p.isList (by simp; omega) fun h' eb => ⟨rfl, I.turned (t' := s.toks) (fun b o hb e => eb b o hb e) f0 f1 f3 f4 f5⟩
  self := fun _ _ _ _ _ st h => wpAny_pyIter_listiter st h
theorem turn_range {P : Program} {w : World} {K : PySem.W.Frag} {tg : Expr} (it : Addr) (lo : Int) (n : Nat) : Turn P w K tg (Itr lo n) [it] it (fun i h => IsRangeIter h it (lo + (i : Nat) * 1) ((n : Int) - (i : Nat)) 1) where
  mem := by simp
  obj := fun i h st b hb => by
    have e : b = it := by simpa using hb
    subst e
    exact ⟨_, st, fun v z => by
      have z' : Data.fields _ = Data.cell v := z
      cases z'⟩
  keep := fun i h h' st k => k it (by simp) _ st
  item := by
    intro X hP hw hK hc i pins s σ H E I hf st hg
    subst hP hw hK
    obtain ⟨f0, f1, f2, f3, f4, f5⟩ := hf it (by simp)
    have W := Walks.range (prog := X.prog) (w := X.w) (I.ok.hd hc) it lo 1 n
    refine W.item i s _ _ hg st fun v h' tk hv st' kk => ?_
    obtain ⟨t, rfl⟩ := hv
    have I1 : Inv X pins σ H { s with heap := h', toks := tk } := I.turned (fun b o hb e => kk b o (by simpa using hb) e) f0 f1 f3 f4 f5
    refine ⟨_, rfl, go_of (s := { s with heap := h', toks := tk }) (n := "range_iterator") st' rfl rfl (by decide) ⟨.int (lo + i), H, I1, ⟨t, ?_⟩, ⟨rfl, rfl⟩, st', fun b hb => (hf b hb).1⟩⟩
    rw [Int.mul_one]
  done := by
    intro X hP hw hK hc i pins s σ H E I hf st hg
    subst hP hw hK
    obtain ⟨f0, f1, f2, f3, f4, f5⟩ := hf it (by simp)
    exact wpAny_pyNext_range_end (I.ok.hd hc) st (by have : n ≤ i := hg; omega) fun h' eb => ⟨rfl, I.turned (t' := s.toks) (fun b o hb e => eb b o hb e) f0 f1 f3 f4 f5⟩
  self := fun _ _ _ _ _ st h => wpAny_pyIter_rangeiter st h
end L2

namespace L2
open PySem PySem.Spec PyProof.Rows
section
variable {X : Cx} {tg : Expr}
def iList (K : PySem.W.Frag) (tl : TE) : TI := fun σ H R => tl σ H fun x H1 => ∃ a, x = .ref a ∧ (∃ xs, SqL K H1 a xs) ∧ R (Itl K a) H1
theorem pi_list {l : Expr} {tl : TE} (hl : PE X l tl) : PI X tg l (iList X.K tl) := by
  intro pins s σ H R I h
  refine thn (hl pins s σ H _ I h) fun v s1 ⟨x, H1, I1, r1, q1⟩ => ?_
  obtain ⟨a, e, ⟨xs, hq⟩, q⟩ := q1
  subst e
  cases r1
  obtain ⟨its, rv, p, hz⟩ := I1.list hq
  refine wpAny_pyIter_list p.isList ?_
  refine ⟨s1.heap.objs.size, [s1.heap.objs.size], _, _, H1, rfl, I1.kept (t' := s1.toks) fun b o e => Heap.get?_push_of_some _ e, turn_list a _, ⟨_, Heap.get?_push_size _ rfl, rfl, rfl⟩, fun b hb => ?_, q⟩
  have e : b = s1.heap.objs.size := by simpa using hb
  subst e
  exact I1.fpOk (Nat.le_refl _) (I1.hok.fresh (Nat.le_refl _))
/-- a range object just made, walked -/
theorem range_it {pins : List (Addr × Obj)} {σ : St} {H : Hp} {s : Shared} {R : It → Hp → Prop} {E : Value → Shared → Prop} {lo hi : Int} {t u v : Tok} {tk : Nat} (I : Inv X pins σ H s) (h1 : -(2 ^ 62) ≤ lo) (h2 : lo < 2 ^ 62) (h3 : -(2 ^ 62) ≤ hi) (h4 : hi < 2 ^ 62)
    (q : R (Itr lo (hi - lo).toNat) H) : wpAny (model X.prog X.w) X.A (pyIter (.ref s.heap.objs.size)) (PIE X pins σ tg R) E { s with heap := s.heap.push { cls := .type "range", data := .fields #[.int lo t, .int hi u, .int 1 v] }, toks := tk } := by
  refine wpAny_pyIter_range (IsRange.new ..) (small_one h1 h2 h3 h4) ?_
  have I1 : Inv X pins σ H { s with heap := s.heap.push { cls := .type "range", data := .fields #[.int lo t, .int hi u, .int 1 v] }, toks := tk } := I.kept fun b o e => Heap.get?_push_of_some _ e
  refine ⟨(s.heap.push { cls := .type "range", data := .fields #[.int lo t, .int hi u, .int 1 v] }).objs.size, [(s.heap.push { cls := .type "range", data := .fields #[.int lo t, .int hi u, .int 1 v] }).objs.size], _, _, H, rfl,
    I1.kept (t' := tk) fun b o e => Heap.get?_push_of_some _ e, turn_range _ lo (hi - lo).toNat, ?_, fun b hb => ?_, q⟩
  · have e1 : lo + ((0 : Nat) : Int) * 1 = lo := by simp
    have e2 : (((hi - lo).toNat : Nat) : Int) - ((0 : Nat) : Int) = Builtin.Range.rangeSize lo hi 1 := by rw [rangeSize_one]; split <;> omega
    show IsRangeIter _ _ (lo + ((0 : Nat) : Int) * 1) ((((hi - lo).toNat : Nat) : Int) - ((0 : Nat) : Int)) 1
    rw [e1, e2]
    exact Heap.get?_push_size _ rfl
  · have e : b = (s.heap.push { cls := .type "range", data := .fields #[.int lo t, .int hi u, .int 1 v] }).objs.size := by simpa using hb
    subst e
    exact I1.fpOk (Nat.le_refl _) (I1.hok.fresh (Nat.le_refl _))
def iRng1 (ta : TA) : TI := fun σ H R => ta σ H fun vs H1 => ∃ j : Int, vs = [.int j] ∧ -(2 ^ 62) ≤ j ∧ j < 2 ^ 62 ∧ R (Itr 0 j.toNat) H1
theorem pi_range1 {a : Expr} {ta : TA} {p pos : Pos} (hg : Gl X "range") (hm : X.mg "range" = none) (ha : PA X [a] ta) (hs : starEach [a] X.env = [(false, eval a X.env)] := by rfl) : PI X tg (.Call (.Name "range" p) [a] [] pos) (iRng1 ta) := by
  intro pins s σ H R I h
  refine Call_ (ld_blt I hg hm boot_range (PyProof.Rows.callWith_type1 (thn (ha pos pins s σ H _ I h) fun us s1 ⟨vs, H1, I1, r1, q1⟩ => ?_) hs rfl))
  obtain ⟨j, e, q1, q2, q⟩ := q1
  subst e
  cases r1 with
  | cons r rr =>
    cases rr
    obtain ⟨t, rfl⟩ := r
    exact call_range_1 (range_it I1 (by omega) (by omega) q1 q2 (by simpa using q))

/-! ### for -/
/-- W: the invariant by the turn and a measure; N: what the body is to reach -/
def tFor (wi : TI) (g : TG) (tb : TS) : TS := fun D σ H => wi σ H fun J H1 => ∃ W : Nat → Nat → St → Hp → Prop, (∃ m, W 0 m σ H1) ∧ ∀ i m σ H, W i m σ H →
  (J.stop i H ∧ D.nx σ H) ∨ (J.go i H ∧ ∃ N : St → Hp → Prop, (∀ σ' H', N σ' H' → ∃ m', m' < m ∧ W (i + 1) m' σ' H') ∧ ∀ x H', J.yld i H x H' → g x σ H' fun σ2 H2 => tb { D with nx := N, ct := N, bk := D.nx } σ2 H2)
/-- the records at fp as they stand -/
def pinsAt (fp : List Addr) (h : Heap) : List (Addr × Obj) := fp.filterMap fun b => (h.get? b).map fun o => (b, o)
theorem mem_pinsAt {fp : List Addr} {h : Heap} {b : Addr} {o : Obj} (hb : b ∈ fp) (e : h.get? b = some o) : (b, o) ∈ pinsAt fp h := List.mem_filterMap.mpr ⟨b, hb, by rw [e]; rfl⟩
theorem of_pinsAt {fp : List Addr} {h : Heap} {p : Addr × Obj} (hp : p ∈ pinsAt fp h) : p.1 ∈ fp ∧ h.get? p.1 = some p.2 := by
  obtain ⟨b, hb, e⟩ := List.mem_filterMap.mp hp
  cases q : h.get? b with
  | none => rw [q] at e; cases e
  | some o =>
    rw [q] at e
    have e' : (b, o) = p := Option.some.inj e
    subst e'
    exact ⟨hb, q⟩
theorem Inv.pinned {pins : List (Addr × Obj)} {σ : St} {H : Hp} {s : Shared} {fp : List Addr} (I : Inv X pins σ H s) (hf : ∀ b ∈ fp, FpOk X pins H b) (ho : ∀ b ∈ fp, ∃ o, s.heap.get? b = some o ∧ ∀ v, o.data ≠ .cell v) : Inv X (pins ++ pinsAt fp s.heap) σ H s :=
  I.pins_of fun p hp => (List.mem_append.mp hp).elim (fun z => I.pin p (List.mem_append_right _ z)) fun z => by
    obtain ⟨hb, e⟩ := of_pinsAt z
    obtain ⟨f0, f1, f2, _⟩ := hf p.1 hb
    obtain ⟨o, e', d⟩ := ho p.1 hb
    rw [e] at e'; cases e'
    exact ⟨e, f0, f1, f2, d⟩
theorem Inv.unpinned {pins pl : List (Addr × Obj)} {σ : St} {H : Hp} {s : Shared} (I : Inv X (pins ++ pl) σ H s) : Inv X pins σ H s := I.pins_of fun p hp => I.pin p (List.mem_append_right _ (List.mem_append_left _ hp))
theorem ps_for {iter : Expr} {body : List Stmt} {wi : TI} {g : TG} {tb : TS} {pos : Pos} (hp : PassesOwn (model X.prog X.w) X.A X.env X.xe) (hc : X.calm = true) (hi : PI X tg iter wi) (hg : PG X tg g) (hb : PSs X body tb)
    (hs : ∀ x, foldedSetIterable iter X.env x = pure x := by intro _; rfl) : PS X (.For tg iter body [] pos) (tFor wi g tb) := by
  intro pins s σ H D I h
  refine wpAny_For (thn (hi pins s σ H _ I h) fun v s1 h1 => thn h1 fun itv s2 h2 => ?_) hs
  obtain ⟨it, fp, tn, J, H2, e, I2, T, st2, f2, W, ⟨m0, w0⟩, turn⟩ := h2
  subst e
  -- what stays true of the iterator's objects through the loop
  have stat : ∀ {H' : Hp}, (∀ b ∈ fp, H' b = none) → ∀ b ∈ fp, FpOk X pins H' b := fun hn b hb => ⟨hn b hb, (f2 b hb).2⟩
  refine codeAny_forLoop_any (fun n s' => ∃ i σ' H', Inv X pins σ' H' s' ∧ tn i s'.heap ∧ (∀ b ∈ fp, H' b = none) ∧ W i n σ' H') ?_ m0 ⟨0, σ, H2, I2, st2, fun b hb => (f2 b hb).1, w0⟩
  rintro n s3 ⟨i, σ3, H3, I3, st3, fr3, w3⟩
  rcases turn i n σ3 H3 w3 with ⟨stop, qn⟩ | ⟨go, N, hN, step⟩
  · refine wpAny_passesOwn hp (thn (T.done X rfl rfl rfl hc i pins s3 σ3 H3 X.xe I3 (stat fr3) st3 stop) fun r s4 ⟨hr, I4⟩ => ?_)
    subst hr
    exact wpAny_execs_nil ⟨σ3, H3, I4, qn⟩
  · refine wpAny_passesOwn hp (thn (T.item X rfl rfl rfl hc i pins s3 σ3 H3 X.xe I3 (stat fr3) st3 go) fun r s4 ⟨u, hr, h4⟩ => ?_)
    subst hr
    refine wpAny_passesOwn hp (thn h4 fun _ s5 ⟨x, H5, I5, r5, y5, st5, fr5⟩ => ?_)
    have I5' := I5.pinned (stat fr5) (T.obj _ _ st5)
    refine wpAny_passesOwn hp (thn (hg _ s5 σ3 H5 x u _ I5' r5 (step x H5 y5)) fun _ s6 ⟨σ6, H6, I6, q6⟩ => ?_)
    refine wpAny_passesOwn hp (thn (hb _ s6 σ6 H6 _ I6 q6) fun f s7 q7 => ?_)
    have again : ∀ {σ7 : St} {H7 : Hp}, Inv X (pins ++ pinsAt fp s5.heap) σ7 H7 s7 → N σ7 H7 → ∃ m, m < n ∧ ∃ i σ' H', Inv X pins σ' H' s7 ∧ tn i s7.heap ∧ (∀ b ∈ fp, H' b = none) ∧ W i m σ' H' := fun {σ7 H7} I7 n7 => by
      obtain ⟨m', hm, w7⟩ := hN σ7 H7 n7
      refine ⟨m', hm, i + 1, σ7, H7, I7.unpinned, T.keep _ _ _ st5 fun b hb o e => (I7.pin (b, o) (List.mem_append_right _ (List.mem_append_right _ (mem_pinsAt hb e)))).1, fun b hb => ?_, w7⟩
      obtain ⟨o, e, d⟩ := T.obj _ _ st5 b hb
      exact (I7.pin (b, o) (List.mem_append_right _ (List.mem_append_right _ (mem_pinsAt hb e)))).2.1
    cases f with
    | next => obtain ⟨σ7, H7, I7, n7⟩ := q7; exact again I7 n7
    | cont => obtain ⟨σ7, H7, I7, n7⟩ := q7; exact again I7 n7
    | brk => obtain ⟨σ7, H7, I7, q7⟩ := q7; exact ⟨σ7, H7, I7.unpinned, q7⟩
    | ret v => obtain ⟨x7, σ7, H7, I7, r7, q7⟩ := q7; exact ⟨x7, σ7, H7, I7.unpinned, r7, q7⟩
end

/-! ### the forms one uses -/
/-- over a list that the body leaves as it is -/
theorem for_list {K : PySem.W.Frag} {a : Addr} {xs : List V} {g : TG} {tb : TS} {D : Ends} {σ : St} {H : Hp} (Pv : Nat → St → Hp → Prop) (h0 : Pv 0 σ H) (hl : ∀ i σ H, i ≤ xs.length → Pv i σ H → SqL K H a xs)
    (hs : ∀ i x σ H, xs[i]? = some x → Pv i σ H → g x σ H fun σ2 H2 => tb { D with nx := Pv (i + 1), ct := Pv (i + 1), bk := D.nx } σ2 H2) (hd : ∀ σ H, Pv xs.length σ H → D.nx σ H) :
    ∃ W : Nat → Nat → St → Hp → Prop, (∃ m, W 0 m σ H) ∧ ∀ i m σ H, W i m σ H →
      ((Itl K a).stop i H ∧ D.nx σ H) ∨ ((Itl K a).go i H ∧ ∃ N : St → Hp → Prop, (∀ σ' H', N σ' H' → ∃ m', m' < m ∧ W (i + 1) m' σ' H') ∧ ∀ x H', (Itl K a).yld i H x H' → g x σ H' fun σ2 H2 => tb { D with nx := N, ct := N, bk := D.nx } σ2 H2) := by
  refine ⟨fun i m σ H => m = xs.length - i ∧ i ≤ xs.length ∧ Pv i σ H, ⟨xs.length, by simp, Nat.zero_le _, h0⟩, ?_⟩
  rintro i m σ H ⟨rfl, hi, p⟩
  have q := hl i σ H hi p
  by_cases hlt : i < xs.length
  · refine .inr ⟨⟨xs, xs[i], q, by simp [hlt]⟩, Pv (i + 1), fun σ' H' p' => ⟨xs.length - (i + 1), by omega, rfl, hlt, p'⟩, fun x H' y => ?_⟩
    obtain ⟨e, y⟩ := y
    subst e
    exact hs i x σ _ (y xs q) p
  · have e : i = xs.length := by omega
    subst e
    exact .inl ⟨⟨xs, q, Nat.le_refl _⟩, hd σ H p⟩
theorem for_range {lo : Int} {n : Nat} {g : TG} {tb : TS} {D : Ends} {σ : St} {H : Hp} (Pv : Nat → St → Hp → Prop) (h0 : Pv 0 σ H)
    (hs : ∀ i σ H, i < n → Pv i σ H → g (.int (lo + i)) σ H fun σ2 H2 => tb { D with nx := Pv (i + 1), ct := Pv (i + 1), bk := D.nx } σ2 H2) (hd : ∀ σ H, Pv n σ H → D.nx σ H) :
    ∃ W : Nat → Nat → St → Hp → Prop, (∃ m, W 0 m σ H) ∧ ∀ i m σ H, W i m σ H →
      ((Itr lo n).stop i H ∧ D.nx σ H) ∨ ((Itr lo n).go i H ∧ ∃ N : St → Hp → Prop, (∀ σ' H', N σ' H' → ∃ m', m' < m ∧ W (i + 1) m' σ' H') ∧ ∀ x H', (Itr lo n).yld i H x H' → g x σ H' fun σ2 H2 => tb { D with nx := N, ct := N, bk := D.nx } σ2 H2) := by
  refine ⟨fun i m σ H => m = n - i ∧ i ≤ n ∧ Pv i σ H, ⟨n, by simp, Nat.zero_le _, h0⟩, ?_⟩
  rintro i m σ H ⟨rfl, hi, p⟩
  by_cases hlt : i < n
  · refine .inr ⟨hlt, Pv (i + 1), fun σ' H' p' => ⟨n - (i + 1), by omega, rfl, hlt, p'⟩, fun x H' y => ?_⟩
    obtain ⟨e, y⟩ := y
    subst e y
    exact hs i σ _ hlt p
  · have e : i = n := by omega
    subst e
    exact .inl ⟨Nat.le_refl _, hd σ H p⟩
end L2

namespace L2
open PySem PySem.Spec PyProof.Rows

abbrev R2 := V → V → Hp → VK → Prop
/-- a two-place operation on values: f is binaryOp op, inplaceOp op or compareOp op -/
def OpR (X : Cx) (f : Value → Value → Sem Value) (r : R2) : Prop :=
  ∀ (pins : List (Addr × Obj)) (s : Shared) (σ : St) (H : Hp) (x y : V) (v u : Value) (Q : VK), Inv X pins σ H s → RelV x v → RelV y u → r x y H Q →
    wpAny (model X.prog X.w) X.A (f v u) (EP X pins σ Q) X.xe s
/-- a call of a value that is known (a builtin, a type) with values -/
def CallR (X : Cx) (f : Value) (r : List V → Hp → VK → Prop) : Prop :=
  ∀ (pins : List (Addr × Obj)) (s : Shared) (σ : St) (H : Hp) (xs : List V) (us : List Value) (Q : VK), Inv X pins σ H s → Vals xs us → r xs H Q →
    wpAny (model X.prog X.w) X.A (call f us) (EP X pins σ Q) X.xe s

def tOp (r : R2) (ta tb : TE) : TE := fun σ H Q => ta σ H fun x H1 => tb σ H1 fun y H2 => r x y H2 Q
/-- ints in, under C, and a value out -/
def rI (C : Int → Int → Prop) (g : Int → Int → V) : R2 := fun x y H Q => ∃ i j, x = .int i ∧ y = .int j ∧ C i j ∧ Q (g i j) H
def rI0 (g : Int → Int → V) : R2 := fun x y H Q => ∃ i j, x = .int i ∧ y = .int j ∧ Q (g i j) H

section
variable {X : Cx} {a b c : Expr} {ta tb tc : TE} {pos : Pos}

theorem binT (ha : PE X a ta) (hb : PE X b tb) {pins : List (Addr × Obj)} {s : Shared} {σ : St} {H : Hp} {R : V → V → Hp → Prop} (I : Inv X pins σ H s)
    (h : ta σ H fun x H1 => tb σ H1 fun y H2 => R x y H2) {Q : Value → Shared → Prop} {f : Value → Value → Sem Value}
    (hf : ∀ v u s2 x y H2, Inv X pins σ H2 s2 → RelV x v → RelV y u → R x y H2 → wpAny (model X.prog X.w) X.A (f v u) Q X.xe s2) :
    wpAny (model X.prog X.w) X.A (eval a X.env) (fun v s₁ => wpAny (model X.prog X.w) X.A (eval b X.env) (fun u s₂ => wpAny (model X.prog X.w) X.A (f v u) Q X.xe s₂) X.xe s₁) X.xe s := by
  refine thn (ha pins s σ H _ I h) fun v s1 ⟨x, H1, I1, r1, q1⟩ => ?_
  refine thn (hb pins s1 σ H1 _ I1 q1) fun u s2 ⟨y, H2, I2, r2, q2⟩ => ?_
  exact hf v u s2 x y H2 I2 r1 r2 q2

theorem pe_op {op : Operator} {r : R2} (ho : OpR X (binaryOp op) r) (ha : PE X a ta) (hb : PE X b tb) : PE X (.BinOp a op b pos) (tOp r ta tb) := by
  intro pins s σ H Q I h
  exact wpAny_BinOp (binT ha hb I h fun v u s2 x y H2 I2 rx ry q => ho pins s2 σ H2 x y v u Q I2 rx ry q)

/-! ### ints -/
theorem opI {f : Value → Value → Sem Value} {C : Int → Int → Prop} {g : Int → Int → Int}
    (rule : ∀ (i j : Int) (t u : Tok) (s : Shared) (Q : Value → Shared → Prop) (E : Value → Shared → Prop), C i j → Q (.int (g i j) s.toks) { s with toks := s.toks + 1 } → wpAny (model X.prog X.w) X.A (f (.int i t) (.int j u)) Q E s) :
    OpR X f (rI C fun i j => .int (g i j)) := by
  intro pins s σ H x y v u Q I rx ry h
  obtain ⟨i, j, rfl, rfl, hc, q⟩ := h
  obtain ⟨t, rfl⟩ := rx
  obtain ⟨t', rfl⟩ := ry
  exact rule i j t t' s _ _ hc ⟨.int (g i j), H, I.tok _, ⟨_, rfl⟩, q⟩
theorem opI0 {f : Value → Value → Sem Value} {g : Int → Int → Int}
    (rule : ∀ (i j : Int) (t u : Tok) (s : Shared) (Q : Value → Shared → Prop) (E : Value → Shared → Prop), Q (.int (g i j) s.toks) { s with toks := s.toks + 1 } → wpAny (model X.prog X.w) X.A (f (.int i t) (.int j u)) Q E s) :
    OpR X f (rI0 fun i j => .int (g i j)) := by
  intro pins s σ H x y v u Q I rx ry h
  obtain ⟨i, j, rfl, rfl, q⟩ := h
  obtain ⟨t, rfl⟩ := rx
  obtain ⟨t', rfl⟩ := ry
  exact rule i j t t' s _ _ ⟨.int (g i j), H, I.tok _, ⟨_, rfl⟩, q⟩
theorem opB0 {f : Value → Value → Sem Value} {g : Int → Int → Bool}
    (rule : ∀ (i j : Int) (t u : Tok) (s : Shared) (Q : Value → Shared → Prop) (E : Value → Shared → Prop), Q (.bool (g i j)) s → wpAny (model X.prog X.w) X.A (f (.int i t) (.int j u)) Q E s) :
    OpR X f (rI0 fun i j => .bl (g i j)) := by
  intro pins s σ H x y v u Q I rx ry h
  obtain ⟨i, j, rfl, rfl, q⟩ := h
  obtain ⟨t, rfl⟩ := rx
  obtain ⟨t', rfl⟩ := ry
  exact rule i j t t' s _ _ ⟨.bl (g i j), H, I, rfl, q⟩

def CDiv (i j : Int) : Prop := 0 < j ∧ j < 1073741824
def CPow (i j : Int) : Prop := 0 ≤ j ∧ j ≤ 1000000 ∧ i.natAbs < 2 ^ 64
def CMul (i j : Int) : Prop := (-(2 ^ 64) < i ∧ i < 2 ^ 64) ∨ (-(2 ^ 64) < j ∧ j < 2 ^ 64)
theorem CMul.ok {i j : Int} (h : CMul i j) : IntMulOk i j := by
  rcases h with ⟨h1, h2⟩ | ⟨h1, h2⟩
  · exact .of_left (intBits_le_64 h1 h2)
  · exact .of_right (intBits_le_64 h1 h2)

theorem op_add : OpR X (binaryOp .Add) (rI0 fun i j => .int (i + j)) := opI0 fun _ _ _ _ _ _ _ q => add_int q
theorem op_sub : OpR X (binaryOp .Sub) (rI0 fun i j => .int (i - j)) := opI0 fun _ _ _ _ _ _ _ q => sub_int q
theorem op_mul : OpR X (binaryOp .Mult) (rI CMul fun i j => .int (i * j)) := opI fun _ _ _ _ _ _ _ hc q => mul_int q hc.ok
/-- // by a positive divisor -/
theorem op_fdiv : OpR X (binaryOp .FloorDiv) (rI CDiv fun i j => .int (i / j)) := opI fun i j _ _ _ _ _ hc q => by
  have h1 : (0 : Int) < j := hc.1
  have h2 : j < 1073741824 := hc.2
  exact floordiv_int (by omega) (by rw [Int.fdiv_eq_ediv_of_nonneg i (by omega)]; exact q) (.inl (PyProof.noPylong_small (by omega)))
/-- % by a positive divisor of any size -/
theorem op_mod : OpR X (binaryOp .Mod) (rI (fun _ j => 0 < j) fun i j => .int (i % j)) := opI fun i j _ _ _ _ _ hc q => by
  have h1 : (0 : Int) < j := hc
  exact mod_int' (by omega) (by rw [Int.fmod_eq_emod_of_nonneg i (by omega)]; exact q)
theorem op_pow : OpR X (binaryOp .Pow) (rI CPow fun i j => .int (i ^ j.toNat)) := opI fun _ _ _ _ _ _ _ hc q => pow_int_small hc.1 hc.2.1 hc.2.2 q



/-! ### bools among ints: n += (a < b) -/
end

/-! ### comparisons -/
/-- the scalars that == tells apart as data does -/
def scal : V → V → Bool
  | .non, .non => true | .non, .int _ => true | .int _, .non => true | .non, .bl _ => true | .bl _, .non => true | .non, .str _ => true | .str _, .non => true
  | .int _, .int _ => true | .bl _, .bl _ => true | .str _, .str _ => true | .byt _, .byt _ => true
  | .int _, .str _ => true | .str _, .int _ => true | .bl _, .str _ => true | .str _, .bl _ => true
  | _, _ => false
def rEq : R2 := fun x y H Q => scal x y = true ∧ Q (.bl (decide (x = y))) H
def rNe : R2 := fun x y H Q => scal x y = true ∧ Q (.bl (!decide (x = y))) H

theorem dec_int {i j : Int} : decide (V.int i = V.int j) = (i == j) := by
  rw [Bool.eq_iff_iff]
  simp
theorem dec_bl {i j : Bool} : decide (V.bl i = V.bl j) = (i == j) := by
  rw [Bool.eq_iff_iff]
  simp
theorem dec_str {i j : Str} : decide (V.str i = V.str j) = (i == j) := by
  rw [Bool.eq_iff_iff]
  simp
theorem dec_byt {i j : Array UInt8} : decide (V.byt i = V.byt j) = (i.toList == j.toList) := by
  rw [Bool.eq_iff_iff]
  cases i
  cases j
  simp

section
variable {X : Cx} {a b c : Expr} {ta tb tc : TE} {pos : Pos}
theorem fin_bl {pins : List (Addr × Obj)} {σ : St} {H : Hp} {s : Shared} {Q : VK} {k k' : Bool} (I : Inv X pins σ H s) (q : Q (.bl k) H) (e : k = k') : EP X pins σ Q (.bool k') s := by
  subst e
  exact ⟨.bl k, H, I, rfl, q⟩
theorem op_eq : OpR X (compareOp .Eq) rEq := by
  intro pins s σ H x y v u Q I rx ry h
  obtain ⟨hs, q⟩ := h
  cases x with
  | non =>
    cases rx
    cases y with
    | non => cases ry; exact PySem.EqNone.eq_none_none (fin_bl I q (by simp))
    | bl j => cases ry; exact PySem.EqNone.eq_none_bool (fin_bl I q (by simp))
    | int j => obtain ⟨t', rfl⟩ := ry; exact PySem.EqNone.eq_none_int (fin_bl I q (by simp))
    | str j => obtain ⟨t', rfl⟩ := ry; exact PySem.EqNone.eq_none_str (fin_bl I q (by simp))
    | _ => exact absurd (show false = true from hs) Bool.false_ne_true
  | bl i =>
    cases rx
    cases y with
    | non => cases ry; exact PySem.EqNone.eq_bool_none (fin_bl I q (by simp))
    | bl j => cases ry; exact eq_bool (fin_bl I q dec_bl)
    | str j => obtain ⟨t', rfl⟩ := ry; exact PySem.EqMixed.eq_bool_str (fin_bl I q (by simp))
    | _ => exact absurd (show false = true from hs) Bool.false_ne_true
  | int i =>
    obtain ⟨t, rfl⟩ := rx
    cases y with
    | non => cases ry; exact PySem.EqNone.eq_int_none (fin_bl I q (by simp))
    | int j => obtain ⟨t', rfl⟩ := ry; exact eq_int (fin_bl I q dec_int)
    | str j => obtain ⟨t', rfl⟩ := ry; exact PySem.EqMixed.eq_int_str (fin_bl I q (by simp))
    | _ => exact absurd (show false = true from hs) Bool.false_ne_true
  | str i =>
    obtain ⟨t, rfl⟩ := rx
    cases y with
    | non => cases ry; exact PySem.EqNone.eq_str_none (fin_bl I q (by simp))
    | bl j => cases ry; exact PySem.EqMixed.eq_str_bool (fin_bl I q (by simp))
    | int j => obtain ⟨t', rfl⟩ := ry; exact PySem.EqMixed.eq_str_int (fin_bl I q (by simp))
    | str j => obtain ⟨t', rfl⟩ := ry; exact eq_str (fin_bl I q dec_str)
    | _ => exact absurd (show false = true from hs) Bool.false_ne_true
  | byt i =>
    obtain ⟨t, rfl⟩ := rx
    cases y with
    | byt j => obtain ⟨t', rfl⟩ := ry; exact PySem.W.eq_bytes (fin_bl I q dec_byt)
    | _ => exact absurd (show false = true from hs) Bool.false_ne_true
  | _ => cases y <;> exact absurd (show false = true from hs) Bool.false_ne_true
theorem op_ne : OpR X (compareOp .NotEq) rNe := by
  intro pins s σ H x y v u Q I rx ry h
  obtain ⟨hs, q⟩ := h
  cases x with
  | non =>
    cases rx
    cases y with
    | non => cases ry; exact PySem.EqNone.ne_none_none (fin_bl I q (by simp))
    | bl j => cases ry; exact PySem.EqNone.ne_none_bool (fin_bl I q (by simp))
    | int j => obtain ⟨t', rfl⟩ := ry; exact PySem.EqNone.ne_none_int (fin_bl I q (by simp))
    | str j => obtain ⟨t', rfl⟩ := ry; exact PySem.EqNone.ne_none_str (fin_bl I q (by simp))
    | _ => exact absurd (show false = true from hs) Bool.false_ne_true
  | bl i =>
    cases rx
    cases y with
    | non => cases ry; exact PySem.EqNone.ne_bool_none (fin_bl I q (by simp))
    | bl j => cases ry; exact ne_bool (fin_bl I q (congrArg not dec_bl))
    | str j => obtain ⟨t', rfl⟩ := ry; exact PySem.EqMixed.ne_bool_str (fin_bl I q (by simp))
    | _ => exact absurd (show false = true from hs) Bool.false_ne_true
  | int i =>
    obtain ⟨t, rfl⟩ := rx
    cases y with
    | non => cases ry; exact PySem.EqNone.ne_int_none (fin_bl I q (by simp))
    | int j => obtain ⟨t', rfl⟩ := ry; exact ne_int (fin_bl I q (congrArg not dec_int))
    | str j => obtain ⟨t', rfl⟩ := ry; exact PySem.EqMixed.ne_int_str (fin_bl I q (by simp))
    | _ => exact absurd (show false = true from hs) Bool.false_ne_true
  | str i =>
    obtain ⟨t, rfl⟩ := rx
    cases y with
    | non => cases ry; exact PySem.EqNone.ne_str_none (fin_bl I q (by simp))
    | bl j => cases ry; exact PySem.EqMixed.ne_str_bool (fin_bl I q (by simp))
    | int j => obtain ⟨t', rfl⟩ := ry; exact PySem.EqMixed.ne_str_int (fin_bl I q (by simp))
    | str j => obtain ⟨t', rfl⟩ := ry; exact ne_str (fin_bl I q (congrArg not dec_str))
    | _ => exact absurd (show false = true from hs) Bool.false_ne_true
  | byt i =>
    obtain ⟨t, rfl⟩ := rx
    cases y with
    | byt j => obtain ⟨t', rfl⟩ := ry; exact PySem.W.ne_bytes (fin_bl I q (congrArg not dec_byt))
    | _ => exact absurd (show false = true from hs) Bool.false_ne_true
  | _ => cases y <;> exact absurd (show false = true from hs) Bool.false_ne_true

theorem op_gt : OpR X (compareOp .Gt) (rI0 fun i j => .bl (decide (j < i))) := opB0 fun _ _ _ _ _ _ _ q => gt_int q

theorem op_notN : OpR X (compareOp .IsNot) (fun x y H Q => y = .non ∧ Q (.bl (!decide (x = .non))) H) := by
  intro pins s σ H x y v u Q I rx ry h
  obtain ⟨rfl, q⟩ := h
  cases ry
  refine isnot_none_gen (fin_bl I q ?_)
  cases x <;> first
    | (cases rx; rfl)
    | (obtain ⟨t, rfl⟩ := rx; rfl)



theorem nomark (b : Expr) {op : CmpOp} (h : op ≠ .In := by decide) (h2 : op ≠ .NotIn := by decide) : behindInMarks op b = false := by
  have e1 : (op == CmpOp.In) = false := by cases op <;> first | rfl | exact absurd rfl h
  have e2 : (op == CmpOp.NotIn) = false := by cases op <;> first | rfl | exact absurd rfl h2
  cases b <;> simp [behindInMarks, e1, e2]
/-- a comparison as a value; hm: nomark b, or (for in, not in) by with_unfolding_all rfl -/
theorem pe_cmpR {op : CmpOp} {r : R2} (ho : OpR X (compareOp op) r) (ha : PE X a ta) (hb : PE X b tb) (hm : behindInMarks op b = false) : PE X (.Compare a [op] [b] pos) (tOp r ta tb) := by
  intro pins s σ H Q I h
  exact wpAny_Compare1 (binT ha hb I h fun v u s2 x y H2 I2 rx ry q => ho pins s2 σ H2 x y v u Q I2 rx ry q) hm
/-- a reading of a value as a test -/
def tTest (t : TE) : TT := fun σ H Q => t σ H fun x H' => ∃ k, x = .bl k ∧ Q k H'
theorem pt_cmpR {op : CmpOp} {r : R2} (ho : OpR X (compareOp op) r) (ha : PE X a ta) (hb : PE X b tb) (hm : behindInMarks op b = false) : PT X (.Compare a [op] [b] pos) (tTest (tOp r ta tb)) := by
  intro pins s σ H Q I h
  refine wpAny_isTrue_Compare1 (thn (ha pins s σ H _ I h) fun v s1 ⟨x, H1, I1, r1, q1⟩ => thn (hb pins s1 σ H1 _ I1 q1) fun u s2 ⟨y, H2, I2, r2, q2⟩ =>
    thn (ho pins s2 σ H2 x y v u _ I2 r1 r2 q2) fun c s3 ⟨z, H3, I3, r3, k, e, q3⟩ => ?_) hm
  subst e
  cases r3
  exact wpAny_truthy_bool ⟨H3, I3, q3⟩

/-! ### truth -/
theorem line63 : (sizeLine : Nat) < 2 ^ 63 := by rw [sizeLine_eq]; decide

/-! ### strs and bytes -/


/-! ### scalar builtins, by CallR -/
theorem vals1 {x : V} {us : List Value} (r : Vals [x] us) : ∃ u, us = [u] ∧ RelV x u := by
  cases r with
  | cons r1 r2 => cases r2; exact ⟨_, rfl, r1⟩
theorem vals2 {x y : V} {us : List Value} (r : Vals [x, y] us) : ∃ u w', us = [u, w'] ∧ RelV x u ∧ RelV y w' := by
  cases r with
  | cons r1 r2 =>
    cases r2 with
    | cons r3 r4 => cases r4; exact ⟨_, _, rfl, r1, r3⟩
theorem call_min2 (hc : X.calm = true) : CallR X (.builtin "min") (fun xs H Q => ∃ i j, xs = [.int i, .int j] ∧ Q (.int (if j < i then j else i)) H) := by
  intro pins s σ H xs us Q I r h
  obtain ⟨i, j, rfl, q⟩ := h
  obtain ⟨u, w', rfl, ⟨t, rfl⟩, ⟨t', rfl⟩⟩ := vals2 r
  refine min_two_ints (I.ok.hd hc) fun h' tk k => ⟨_, H, I.kept k, ?_, q⟩
  by_cases hj : j < i
  · rw [if_pos hj, if_pos hj]; exact ⟨_, rfl⟩
  · rw [if_neg hj, if_neg hj]; exact ⟨_, rfl⟩
theorem call_int1 : CallR X (.type "int") (fun xs H Q => (∃ i, xs = [.int i] ∧ Q (.int i) H) ∨ ∃ k, xs = [.bl k] ∧ Q (.int (if k then 1 else 0)) H) := by
  intro pins s σ H xs us Q I r h
  rcases h with ⟨i, rfl, q⟩ | ⟨k, rfl, q⟩
  · obtain ⟨u, rfl, t, rfl⟩ := vals1 r
    exact call_int_int ⟨.int i, H, I, ⟨_, rfl⟩, q⟩
  · obtain ⟨u, rfl, r1⟩ := vals1 r
    cases r1
    exact call_int_bool ⟨.int (if k then 1 else 0), H, I.tok _, ⟨_, rfl⟩, q⟩
end
end L2

namespace L2
open PySem PySem.Spec PyProof.Rows

/-! ### an instance, its attributes a map -/



section
variable {prog : Program} {w : World} {A : Around} {E : Value → Shared → Prop} {s : Shared} {K : PySem.W.Frag} {x dx C f : Addr} {mA : Str → Option Value} {name : Str} {v : Value}





end

/-! ### the attributes as a list of pairs -/


section
variable {P : Program} {w : World} {H H' : Hp} {h h' : Heap} {a C dx : Addr} {fs fs' : List (Str × V)}
end

/-! ### what of the text a class must have -/

section
variable {X : Cx} {pins : List (Addr × Obj)} {σ : St} {H : Hp} {s : Shared} {a C dx : Addr} {fs : List (Str × V)} {f : Str} {v : V} {A : Around} {E : Value → Shared → Prop}






end

/-! ### readings and rules -/

section
variable {X : Cx} {o e value : Expr} {f : Str} {pos pos' tpos : Pos} {ta tv : TE}

end

/-! ### isinstance -/
section
variable {X : Cx} {pins : List (Addr × Obj)} {σ : St} {H : Hp} {s : Shared} {A : Around} {E : Value → Shared → Prop} {Q : Value → Shared → Prop} {c : Value} {b : Bool}
end
end L2

namespace L2
open PySem PySem.Spec PyProof.Rows

/-! ### room -/
structure Room (k : Nat) (A : Around) : Prop where
  hd : A.handled = none
  dp : A.depth + 3 * k + 5 < recursionLimit
  un : A.units + 16 * k + 200 < cLine
theorem Room.mono {j k : Nat} {A : Around} (r : Room k A) (h : j ≤ k) : Room j A := ⟨r.hd, by have := r.dp; omega, by have := r.un; omega⟩
theorem Room.deeper {k : Nat} {A : Around} (r : Room (k + 1) A) (env : Env) : Room k (A.deeper env) :=
  ⟨r.hd, by have := r.dp; show A.depth + 1 + 3 * k + 5 < _; omega, by have := r.un; show A.units + 3 + 16 * k + 200 < _; omega⟩
theorem Room.depth {k : Nat} {A : Around} (r : Room k A) : A.depth < recursionLimit := by have := r.dp; omega

/-! ### argument lists and displays -/
def tNil : TA := fun _ H Q => Q [] H
def tCons (ta : TE) (tr : TA) : TA := fun σ H Q => ta σ H fun x H1 => tr σ H1 fun xs H2 => Q (x :: xs) H2
section
variable {X : Cx} {e : Expr} {es : List Expr} {te : TE} {t : TA} {pos : Pos}
theorem pa_nil : PA X [] tNil := fun _ _ _ _ H Q I h => Calls.spliced_nil ⟨[], H, I, .nil, h⟩
theorem pa_cons (ha : PE X e te) (hr : PA X es t) (hs : starEach (e :: es) X.env = (false, eval e X.env) :: starEach es X.env := by rfl) : PA X (e :: es) (tCons te t) := by
  intro pos pins s σ H Q I h
  rw [hs]
  show wpAny _ _ (spliced ((false, eval e X.env) :: backTo pos (starEach es X.env))) _ _ s
  refine Calls.spliced_cons (thn (ha pins s σ H _ I h) fun u s1 ⟨x, H1, I1, r1, q1⟩ => ?_)
  exact thn (hr pos pins s1 σ H1 _ I1 q1) fun us s2 ⟨xs, H2, I2, r2, q2⟩ => ⟨x :: xs, H2, I2, .cons r1 r2, q2⟩

/-- a tuple, a list of written items -/
def tTup (t : TA) : TE := fun σ H Q => t σ H fun xs H1 => xs.length ≤ sizeLine ∧ ∀ p, H1 p = none → Q (.ref p) (upd H1 p (.tup xs))
def tLst (t : TA) : TE := fun σ H Q => t σ H fun xs H1 => xs.length ≤ sizeLine ∧ ∀ p, H1 p = none → Q (.ref p) (upd H1 p (.lst xs))
theorem pe_tup {x1} (h : PA X es t) : PE X (.Tuple es x1 pos) (tTup t) := by
  intro pins s σ H Q I hq
  refine wpAny_Tuple_spliced (thn (h pos pins s σ H _ I hq) fun us s1 ⟨xs, H1, I1, r, z, q⟩ => ⟨by rw [← r.length]; exact z, ?_⟩)
  have hf : H1 s1.heap.objs.size = none := I1.hok.fresh (Nat.le_refl _)
  refine ⟨.ref s1.heap.objs.size, upd H1 s1.heap.objs.size (.tup xs), I1.laid (t' := s1.toks) (fun b u e => Heap.get?_push_of_some _ e) (Nat.le_refl _) ?_, rfl, q _ hf⟩
  exact ⟨z, us, r, ⟨_, Heap.get?_push_size _ rfl, rfl, _, rfl⟩⟩
theorem pe_lst (h : PA X es t) : PE X (.List es pos) (tLst t) := by
  intro pins s σ H Q I hq
  refine wpAny_List_spliced (thn (h pos pins s σ H _ I hq) fun us s1 ⟨xs, H1, I1, r, z, q⟩ => ⟨by rw [← r.length]; exact z, ?_⟩)
  have hf : H1 s1.heap.objs.size = none := I1.hok.fresh (Nat.le_refl _)
  refine ⟨.ref s1.heap.objs.size, upd H1 s1.heap.objs.size (.lst xs), I1.laid (t' := s1.toks) (fun b u e => Heap.get?_push_of_some _ e) (Nat.le_refl _) ?_, rfl, q _ hf⟩
  exact ⟨z, us, 0, r, Heap.get?_push_size _ rfl⟩
end

/-! ### what a def promises -/
/-- a def's promise: the bound arguments in the parameters' order, the heap, the wanted end, the wanted exception -/
abbrev Sp := List V → Hp → VK → XK → Prop
/-- how an exception lies behind a call (file 08 gives it): the callers' frames, abstract heap and state ahead of the call, the wish, the exception, the state -/
abbrev CXT := List Env → Hp → Shared → XK → Value → Shared → Prop

/-- the state at a call -/
structure Env0 (P : Program) (w : World) (K : PySem.W.Frag) (mg : Str → Option Value) (base : Heap) (A : Around) (outer : List Env) (s : Shared) (H : Hp) : Prop where
  frames : A.frames = some outer
  mod : Mod K mg base
  bs : ∀ b o, base.get? b = some o → s.heap.get? b = some o ∧ H b = none
  bsz : base.objs.size ≤ s.heap.objs.size
  funs : s.heap.FunFrames base outer
  frf : ∀ b ∈ frs outer, H b = none
  hok : HOk P w H s.heap
  bare : AllBare s.gens
/-- a call's end -/
def CE (outer : List Env) (P : Program) (w : World) (H : Hp) (s : Shared) (Q : VK) (u : Value) (s' : Shared) : Prop :=
  ∃ v H', s'.os = s.os ∧ AllBare s'.gens ∧ Un (frs outer) [] H H' s.heap s'.heap ∧ HOk P w H' s'.heap ∧ RelV v u ∧ Q v H'
def CR (CX : CXT) (outer : List Env) (P : Program) (w : World) (H : Hp) (s : Shared) (Q : VK) (E : XK) (r : Result) (s' : Shared) : Prop :=
  match r with
  | .ok (.ret u) => CE outer P w H s Q u s'
  | .ok _ => False
  | .error e => CX outer H s E e s'
structure FnOk (P : Program) (w : World) (K : PySem.W.Frag) (mg : Str → Option Value) (base : Heap) (CX : CXT) (k : Nat) (f : Addr) (fd : FuncData) (ps : List Str) (sp : Sp) : Prop where
  len : ∀ vs H Q E, sp vs H Q E → vs.length = ps.length
  run : ∀ (A : Around) (outer : List Env) (s : Shared) (H : Hp) (args : Args) (us : List Value) (vs : List V) (Q : VK) (E : XK), Room k A → Env0 P w K mg base A outer s H → BindsTo s fd args (ps.zip us) → Vals vs us → sp vs H Q E →
    codeAny (model P w) A (.call (.ref f) args) (CR CX outer P w H s Q E) s
theorem FnOk.mono {P : Program} {w : World} {K : PySem.W.Frag} {mg : Str → Option Value} {base : Heap} {CX : CXT} {j k : Nat} {f : Addr} {fd : FuncData} {ps : List Str} {sp : Sp} (F : FnOk P w K mg base CX j f fd ps sp) (h : j ≤ k) :
    FnOk P w K mg base CX k f fd ps sp := ⟨F.len, fun A outer s H args us vs Q E hr => F.run A outer s H args us vs Q E (hr.mono h)⟩


section
variable {X : Cx} {pins : List (Addr × Obj)} {σ : St} {H : Hp} {s s' : Shared}
/-- from a body: what a callee wants -/
theorem Inv.env0 (I : Inv X pins σ H s) : Env0 X.prog X.w X.K X.mg X.base X.A X.stack s H :=
  ⟨I.ok.frames, I.ok.mod, I.bs, Nat.le_trans I.ok.bsz I.sz, I.stack, I.stkFree, I.hok, I.bare⟩
/-- behind a call -/
theorem Inv.after {Q : VK} {u : Value} (I : Inv X pins σ H s) (h : CE X.stack X.prog X.w H s Q u s') : EP X pins σ Q u s' := by
  obtain ⟨v, H', os, bare, un, hok, r, q⟩ := h
  obtain ⟨hh, g, d, t, os'⟩ := s'
  obtain rfl : os' = s.os := os
  exact ⟨v, H', I.call (h' := hh) (g' := g) (d' := d) (t' := t) (ch := []) un hok bare (fun b z => absurd z (by simp)), r, q⟩
end

/-! ### calls -/
/-- f(..): the written arguments, then the defaults dvs; E: what is wanted of an exception -/
def tCall (sp : Sp) (dvs : List V) (E : XK) (t : TA) : TE := fun σ H Q => t σ H fun vs H1 => sp (vs ++ dvs) H1 Q E

/-- how the parameters are bound: us the positional arguments, kw the keywords' values by name, ds the defaults that fill up -/
def Binds (K : PySem.W.Frag) (fd : FuncData) (ps : List Str) (ds : List Value) : Prop :=
  ∀ (s : Shared) (us : List Value), K.In s.heap → (us ++ ds).length = ps.length → BindsTo s fd ⟨us, []⟩ (ps.zip (us ++ ds))
/-- every parameter is given -/
theorem Binds.all {K : PySem.W.Frag} {fd : FuncData} {ps : List Str} (h : ∀ us : List Value, us.length = ps.length → bindArgs fd ⟨us, []⟩ = pure (ps.zip us)) : Binds K fd ps [] := fun s us _ hl => by
  rw [List.append_nil] at hl ⊢
  exact .of_eq (h us hl)

/-- an exception of a callee reaches what this body wants of exceptions -/
def Passes (CX : CXT) (X : Cx) (E : XK) : Prop := ∀ (pins : List (Addr × Obj)) (σ : St) (H : Hp) (s : Shared) (e : Value) (s' : Shared), Inv X pins σ H s → CX X.stack H s E e s' → X.xe e s'

section
variable {X : Cx} {CX : CXT} {k : Nat} {f C : Addr} {fd : FuncData} {ps : List Str} {sp : Sp} {dvs : List V} {ds : List Value} {E : XK} {x m : Str} {p pos apos : Pos} {e o : Expr} {es : List Expr} {ta : TE} {t : TA}

/-- the callee runs -/
theorem run_fn {pins : List (Addr × Obj)} {σ : St} {H : Hp} {s : Shared} {Q : VK} {us : List Value} {vs : List V} (F : FnOk X.prog X.w X.K X.mg X.base CX k f fd ps sp) (hr : Room k X.A) (hb : Binds X.K fd ps ds) (hd : Vals dvs ds) (hx : Passes CX X E)
    (I : Inv X pins σ H s) (r : Vals vs us) (h : sp (vs ++ dvs) H Q E) : wpAny (model X.prog X.w) X.A (call (.ref f) us) (EP X pins σ Q) X.xe s := by
  have r2 : Vals (vs ++ dvs) (us ++ ds) := r.append hd
  have hl : (us ++ ds).length = ps.length := by rw [← r2.length]; exact F.len _ _ _ _ h
  refine wpAny_call (codeAny_mono (F.run X.A X.stack s H ⟨us, []⟩ (us ++ ds) (vs ++ dvs) Q E hr I.env0 (hb s us I.kIn hl) r2 h) fun r s' hq => ?_)
  cases r with
  | error e => exact hx pins σ H s e s' I hq
  | ok fl =>
    cases fl with
    | ret u => exact I.after hq
    | next => exact False.elim hq
    | brk => exact False.elim hq
    | cont => exact False.elim hq

theorem pe_call (F : FnOk X.prog X.w X.K X.mg X.base CX k f fd ps sp) (hr : Room k X.A) (hg : Gl X x) (hm : X.mg x = some (.ref f)) (hk : PySem.W.keepIn X.K (.ref f) = true) (hb : Binds X.K fd ps ds) (hd : Vals dvs ds) (hx : Passes CX X E)
    (ha : PA X (e :: es) t) (hdb : (x == ("__debug__" : Str)) = false := by decide) (he : starEach (e :: es) X.env = (false, eval e X.env) :: starEach es X.env := by rfl) (hpl : (backTo pos (starEach es X.env)).any (·.1) = false := by rfl) :
    PE X (.Call (.Name x p) (e :: es) [] pos) (tCall sp dvs E t) := by
  intro pins s σ H Q I h
  refine wpAny_Call_Name_kw (ld_glob I hg hm ?_ hdb)
  refine PySem.W.callWith_K (h₀ := X.base) I.ok.mod.kin hk (thn (ha pos pins s σ H _ I h) fun us s1 ⟨vs, H1, I1, r, q⟩ => ⟨I1.kIn, ?_⟩) he hpl
  exact run_fn F hr hb hd hx I1 r q
theorem pe_call0 (F : FnOk X.prog X.w X.K X.mg X.base CX k f fd ps sp) (hr : Room k X.A) (hg : Gl X x) (hm : X.mg x = some (.ref f)) (hk : PySem.W.keepIn X.K (.ref f) = true) (hb : Binds X.K fd ps ds) (hd : Vals dvs ds) (hx : Passes CX X E)
    (hdb : (x == ("__debug__" : Str)) = false := by decide) : PE X (.Call (.Name x p) [] [] pos) (tCall sp dvs E tNil) := by
  intro pins s σ H Q I h
  refine wpAny_Call_Name_kw (ld_glob I hg hm ?_ hdb)
  exact PySem.W.callWith_K0 I.kIn hk (run_fn (us := []) F hr hb hd hx I .nil h)



end

/-! ### keywords -/
section
variable {X : Cx} {CX : CXT} {k : Nat} {f C : Addr} {fd : FuncData} {ps ks : List Str} {sp : Sp} {E : XK} {x m : Str} {p pos apos kpos : Pos} {e o : Expr} {es : List Expr} {kws : List Keyword} {te ta : TE} {t tk : TA} {nm : Option Str}

variable {g : List Value → List Value → List Value} {gV : List V → List V → List V}
end

/-! ### a def's body keeps its promise -/
/-- names: the parameters first -/
structure FnScope (N P : List Str) (sc : Scope) : Prop where
  kind : sc.kind = .function
  co : sc.isCoroutine = false
  gen : sc.isGenerator = false
  nd : N.Nodup
  pre : N.take P.length = P
  par : ∀ x ∈ P, sc.names.lookup x = some .local ∨ sc.names.lookup x = some .cell
  nofree : ∀ y ∈ sc.names, y.2 ≠ .free

theorem bindL_out {kindOf : Str → Option NameKind} {x : Str} : ∀ {binds : List (Str × Value)} {m : Str → Option Value}, (∀ v, (x, v) ∉ binds) → bindL kindOf binds m x = m x
  | [], _, _ => rfl
  | (n, v) :: r, m, h => by
    unfold bindL
    rw [bindL_out fun w hw => h w (List.mem_cons_of_mem _ hw)]
    split
    · have : x ≠ n := by rintro rfl; exact h v List.mem_cons_self
      simp [this]
    · rfl
theorem bindC_out {kindOf : Str → Option NameKind} {x : Str} : ∀ {binds : List (Str × Value)} {m : Str → Option Value}, (∀ v, (x, v) ∉ binds) → bindC kindOf binds m x = m x
  | [], _, _ => rfl
  | (n, v) :: r, m, h => by
    unfold bindC
    rw [bindC_out fun w hw => h w (List.mem_cons_of_mem _ hw)]
    split
    · rfl
    · have : x ≠ n := by rintro rfl; exact h v List.mem_cons_self
      simp [this]
theorem bindL_get {kindOf : Str → Option NameKind} {x : Str} {v : Value} : ∀ {P : List Str} {vs : List Value} {i : Nat} {m : Str → Option Value}, P.Nodup → P[i]? = some x → vs[i]? = some v → kindOf x = some .local →
    bindL kindOf (P.zip vs) m x = some v
  | [], _, _, _, _, h, _, _ => by simp at h
  | _ :: _, [], _, _, _, _, h, _ => by simp at h
  | p :: P, w :: vs, 0, m, nd, h1, h2, hk => by
    simp at h1 h2; subst h1; subst h2
    show bindL kindOf ((p, w) :: P.zip vs) m p = _
    unfold bindL
    rw [bindL_out fun v hv => (List.nodup_cons.mp nd).1 (List.of_mem_zip hv).1, if_pos hk]
    simp
  | p :: P, w :: vs, i + 1, m, nd, h1, h2, hk => by
    show bindL kindOf ((p, w) :: P.zip vs) m x = _
    unfold bindL
    exact bindL_get (i := i) (List.nodup_cons.mp nd).2 (by simpa using h1) (by simpa using h2) hk
theorem bindC_get {kindOf : Str → Option NameKind} {x : Str} {v : Value} : ∀ {P : List Str} {vs : List Value} {i : Nat} {m : Str → Option Value}, P.Nodup → P[i]? = some x → vs[i]? = some v → kindOf x ≠ some .local →
    bindC kindOf (P.zip vs) m x = some v
  | [], _, _, _, _, h, _, _ => by simp at h
  | _ :: _, [], _, _, _, _, h, _ => by simp at h
  | p :: P, w :: vs, 0, m, nd, h1, h2, hk => by
    simp at h1 h2; subst h1; subst h2
    show bindC kindOf ((p, w) :: P.zip vs) m p = _
    unfold bindC
    rw [bindC_out fun v hv => (List.nodup_cons.mp nd).1 (List.of_mem_zip hv).1, if_neg hk]
    simp
  | p :: P, w :: vs, i + 1, m, nd, h1, h2, hk => by
    show bindC kindOf ((p, w) :: P.zip vs) m x = _
    unfold bindC
    exact bindC_get (i := i) (List.nodup_cons.mp nd).2 (by simpa using h1) (by simpa using h2) hk

/-- the names' values at the entry -/
def start (N : List Str) (vs : List V) : St := vs.map some ++ List.replicate (N.length - vs.length) none

/-- the context of a def's body, at its entry; an exception leaves the frame, then lies as CX says -/
def cxOf (CX : CXT) (P : Program) (w : World) (K : PySem.W.Frag) (mg : Str → Option Value) (base : Heap) (N : List Str) (qual : Str) (scope : Scope) (f : Addr) (cd : Value) (A : Around) (outer : List Env) (s : Shared) (H : Hp) (E : XK) : Cx where
  prog := P
  w := w
  K := K
  mg := mg
  base := base
  A := A.deeper (envOfC qual scope s.heap.objs.size f cd)
  N := N
  s₀ := s
  H₀ := H
  env := envOfC qual scope s.heap.objs.size f cd
  outer := outer
  stack := envOfC qual scope s.heap.objs.size f cd :: outer
  ex := []
  calm := true
  fn := fun _ => true
  pn := []
  xe := fun e s' => wpAny (model P w) (A.deeper (envOfC qual scope s.heap.objs.size f cd)) (leaving (envOfC qual scope s.heap.objs.size f cd) e) (fun _ s'' => CX outer H s E e s'') (fun e' s'' => CX outer H s E e' s'') s'

theorem cell_has {sc : Scope} {n : Nat} {x : Str} (h : sc.names.lookup x = some .cell) : ∃ c, (cellsFrom n sc.names []).lookup x = some c := by
  have q := PySem.W.cellsFrom_some sc.names n [] (.inl h)
  exact Option.isSome_iff_exists.mp q

theorem inv_start {CX : CXT} {P : Program} {w : World} {K : PySem.W.Frag} {mg : Str → Option Value} {base : Heap} {N ps : List Str} {qual : Str} {scope : Scope} {f : Addr} {cd : Value} {A : Around} {outer : List Env} {s s1 : Shared} {H : Hp} {E : XK} {us : List Value} {vs : List V}
    (S : FnScope N ps scope) (hd : A.handled = none) (e0 : Env0 P w K mg base A outer s H) (hl : vs.length = ps.length) (r : Vals vs us)
    (x : InCallC s s.heap.objs.size (bindL (envOfC qual scope s.heap.objs.size f cd).kindOf (ps.zip us) fun _ => none) (cellsFrom (s.heap.objs.size + 1) scope.names []) (bindC (envOfC qual scope s.heap.objs.size f cd).kindOf (ps.zip us) fun _ => none) s1) :
    Inv (cxOf CX P w K mg base N qual scope f cd A outer s H E) [] (start N vs) H s1 := by
  have hpl : ps.length ≤ N.length := by have := congrArg List.length S.pre; rw [List.length_take] at this; omega
  obtain ⟨h1, tk, rfl, hk⟩ := x.done
  have noA : ∀ b : Addr, b ∉ (cxOf CX P w K mg base N qual scope f cd A outer s H E).ex := fun b z => absurd (show b ∈ ([] : List Addr) from z) (by simp)
  refine ⟨⟨e0.mod, S.kind, rfl, rfl, Nat.le_refl _, fun y z c h1 h2 => ?_, fun y hy => ?_, fun y c _ h => ?_, fun _ => hd, Around.frames_deeper e0.frames, .inr ⟨rfl, rfl⟩, fun b z => absurd z (noA b), e0.bs, e0.bsz, fun b _ _ => noA b, fun b z => absurd z (noA b), e0.funs, e0.frf⟩,
    rfl, e0.bare, Un.kept hk, ⟨_, x.toInCall.ns, fun i y v h1 h2 h3 => ?_⟩, fun y c h => ⟨_, x.cell y c h⟩, e0.hok.fresh (Nat.le_refl _), fun y c h => ?_, fun p hp => absurd (show p ∈ ([] : List (Addr × Obj)) from hp) (by simp), e0.hok.kept hk, ?_⟩
  · exact name_of_addr x.apart (PySem.mem_of_lookup h1) (PySem.mem_of_lookup h2)
  · have hy : scope.names.lookup y = some .cell ∨ scope.names.lookup y = some .free := hy
    rcases hy with hy | hy
    · exact cell_has hy
    · exact absurd rfl (S.nofree _ (PySem.mem_of_lookup hy))
  · exact Nat.le_of_lt (x.above y c (PySem.mem_of_lookup h))
  · have hi : i < vs.length := by
      unfold start at h2
      by_cases hi : i < vs.length
      · exact hi
      · rw [List.getElem?_append_right (by simpa using hi)] at h2
        rw [List.getElem?_replicate] at h2
        split at h2 <;> cases h2
    have ha : vs[i]? = some v := by
      unfold start at h2
      rw [List.getElem?_append_left (by simpa using hi), List.getElem?_map] at h2
      cases e : vs[i]? with
      | none => rw [e] at h2; cases h2
      | some a => rw [e] at h2; cases h2; rfl
    obtain ⟨u, hu, rv⟩ := r.get ha
    have hp : ps[i]? = some y := by
      rw [← S.pre, List.getElem?_take_of_lt (by omega)]; exact h1
    have ndP : ps.Nodup := by rw [← S.pre]; exact S.nd.sublist (List.take_sublist _ _)
    refine ⟨u, rv, ?_⟩
    rcases S.par y (List.mem_of_getElem? hp) with k | k
    · exact .inl ⟨k, bindL_get ndP hp hu k⟩
    · obtain ⟨c, e⟩ := cell_has (n := s.heap.objs.size + 1) k
      refine .inr ⟨.inl k, c, e, ?_⟩
      have q := x.cell y c e
      rw [bindC_get ndP hp hu (by show scope.names.lookup y ≠ _; rw [k]; decide)] at q
      exact q
  · exact e0.hok.fresh (Nat.le_of_lt (x.above y c (PySem.mem_of_lookup h)))
  · unfold start
    show _ = N.length
    rw [List.length_append, List.length_map, List.length_replicate]
    omega

/-- THE RULE: a def (or a method) of the text, by its body. The body's reading t is chosen for each entry; it is run at the parameters' values -/
theorem fn_of {CX : CXT} {P : Program} {w : World} {K : PySem.W.Frag} {mg : Str → Option Value} {base : Heap} {k : Nat} {f : Addr} {name qual : Str} {params : Arguments} {body : List Stmt} {scope : Scope} {dV kV doc pm cdv ct oc : Value} {an od : Option Addr}
    {osl : Array (Option Value)} {N ps : List Str} {sp : Sp} (lk : K.lookup f = some ⟨oc, od, .func (PySem.W.fnOf name qual params body scope dV kV doc pm an cdv ct), osl⟩) (hcd : PySem.W.codeIn K cdv qual = true) (S : FnScope N ps scope)
    (len : ∀ vs H Q E, sp vs H Q E → vs.length = ps.length)
    (hbody : ∀ (A : Around) (outer : List Env) (s : Shared) (H : Hp) (vs : List V) (Q : VK) (E : XK), Room k (A.deeper (envOfC qual scope s.heap.objs.size f cdv)) → sp vs H Q E →
      ∃ t, PSs (cxOf CX P w K mg base N qual scope f cdv A outer s H E) body t ∧ t { nx := fun _ H' => Q .non H', rt := Q } (start N vs) H) :
    FnOk P w K mg base CX (k + 1) f (PySem.W.fnOf name qual params body scope dV kV doc pm an cdv ct) ps sp := by
  refine ⟨len, fun A outer s H args us vs Q E hr e0 hb r hsp => ?_⟩
  have hl := len _ _ _ _ hsp
  have KX : K.In s.heap := e0.mod.kin.keeps fun b o e => (e0.bs b o e).1
  have lim : s.heap.NoLimit := e0.mod.nolimit.keeps fun b o e => (e0.bs b o e).1
  have hkind : ∀ y ∈ ps.zip us, scope.names.lookup y.1 = some .local ∨ (scope.names.lookup y.1 = some .cell ∧ ((cellsFrom (s.heap.objs.size + 1) scope.names []).lookup y.1).isSome = true) := fun ⟨n, v⟩ hy => by
    rcases S.par n (List.of_mem_zip hy).1 with q | q
    · exact .inl q
    · exact .inr ⟨q, PySem.W.cellsFrom_some _ _ _ (.inl q)⟩
  refine codeAny_call_function hr.depth (KX _ _ lk) rfl S.co S.gen rfl (PySem.W.codeRec_of KX hcd) (hb _ _ _ _ ?_)
  refine wpAny_newFunctionEnv_cells S.kind hkind fun env he s1 x => ?_
  subst he
  refine ⟨lim.keeps x.toInCall.keep, codeAny_func ?_⟩
  obtain ⟨t, ht, hq⟩ := hbody A outer s H vs Q E (hr.deeper _) hsp
  have I : Inv (cxOf CX P w K mg base N qual scope f cdv A outer s H E) [] (start N vs) H s1 := inv_start S hr.hd e0 hl r x
  refine wpAny_mono (ht [] s1 (start N vs) H _ I hq) (fun fl s' hs => ?_) fun e s' hs => hs
  have fin : ∀ {σ' : St} {H' : Hp} {v : V} {u : Value}, Inv (cxOf CX P w K mg base N qual scope f cdv A outer s H E) [] σ' H' s' → RelV v u → Q v H' → CE outer P w H s Q u s' :=
    fun {σ' H' v u} J rv q => ⟨v, H', J.os, J.bare, J.base, J.hok, rv, q⟩
  cases fl with
  | ret u =>
    obtain ⟨v, σ', H', J, rv, q⟩ := hs
    exact fin J rv q
  | next =>
    obtain ⟨σ', H', J, q⟩ := hs
    exact fin (v := V.non) (u := Value.none) J rfl q
  | brk =>
    obtain ⟨_, _, _, q⟩ := hs
    exact False.elim q
  | cont =>
    obtain ⟨_, _, _, q⟩ := hs
    exact False.elim q
end L2

namespace L2
open PySem PySem.Spec PyProof.Rows
section
variable {X : Cx} {x : Str} {p pos : Pos} {e : Expr} {es : List Expr} {t : TA} {id T : String} {r : List V → Hp → VK → Prop}

def tCB (r : List V → Hp → VK → Prop) (t : TA) : TE := fun σ H Q => t σ H fun vs H1 => r vs H1 Q
/-- f(e, ..), f a built-in function -/
theorem pe_callB (hc : CallR X (.builtin id) r) (hg : Gl X x) (hm : X.mg x = none) (hv : bootBuiltins x = some (.builtin id)) (ha : PA X (e :: es) t) (hn : x ≠ "__name__" := by decide) (hdb : (x == ("__debug__" : Str)) = false := by decide)
    (he : starEach (e :: es) X.env = (false, eval e X.env) :: starEach es X.env := by rfl) (hpl : (backTo pos (starEach es X.env)).any (·.1) = false := by rfl) : PE X (.Call (.Name x p) (e :: es) [] pos) (tCB r t) := by
  intro pins s σ H Q I h
  refine wpAny_Call_Name_kw (ld_blt I hg hm hv ?_ hn hdb)
  exact PyProof.Rows.callWith_builtin1 (thn (ha pos pins s σ H _ I h) fun us s1 ⟨vs, H1, I1, r1, q1⟩ => hc pins s1 σ H1 vs us Q I1 r1 q1) he hpl
/-- T(e, ..), T a built-in type -/
theorem pe_callTy (hc : CallR X (.type T) r) (hg : Gl X x) (hm : X.mg x = none) (hv : bootBuiltins x = some (.type T)) (ha : PA X (e :: es) t) (hn : x ≠ "__name__" := by decide) (hdb : (x == ("__debug__" : Str)) = false := by decide)
    (he : starEach (e :: es) X.env = (false, eval e X.env) :: starEach es X.env := by rfl) (hpl : (backTo pos (starEach es X.env)).any (·.1) = false := by rfl) : PE X (.Call (.Name x p) (e :: es) [] pos) (tCB r t) := by
  intro pins s σ H Q I h
  refine wpAny_Call_Name_kw (ld_blt I hg hm hv ?_ hn hdb)
  exact PyProof.Rows.callWith_type1 (thn (ha pos pins s σ H _ I h) fun us s1 ⟨vs, H1, I1, r1, q1⟩ => hc pins s1 σ H1 vs us Q I1 r1 q1) he hpl
end
end L2

namespace HT
open PySem PyProof.Rows



section
open PySem.SeqAt
open PySem.AutoSeq1 (wpAny_loadPart')
open PySem.MeetsSeq PySem.MeetsSeq2 PySem.MeetsSeq3

end

section
variable {prog : Program} {w : World} {A : Around} {E : Value → Shared → Prop} {s : Shared}


/-- t + u, t not empty -/
theorem cat_tup {t b : Addr} {vs ws : List Value} {Q : Value → Shared → Prop} (ht : IsTup s.heap t vs.toArray) (hb : IsTup s.heap b ws.toArray) (hv : vs ≠ [])
    (h1 : ws = [] → Q (.ref t) s) (h2 : ws ≠ [] → Q (.ref s.heap.objs.size) { s with heap := s.heap.push { cls := .type "tuple", data := .seq (vs ++ ws).toArray } })
    (hsz : vs.length + ws.length ≤ sizeLine) : wpAny (model prog w) A (binaryOp .Add (.ref t) (.ref b)) Q E s := by
  obtain ⟨⟨cls, dd, data, sl⟩, ho, hc, n, hd⟩ := id ht
  obtain ⟨⟨cls2, dd2, data2, sl2⟩, ho2, hc2, n2, hd2⟩ := id hb
  simp only at hc hd hc2 hd2
  subst hc hd hc2 hd2
  have e : vs.toArray ++ ws.toArray = (vs ++ ws).toArray := by simp
  by_cases hw : ws = []
  · exact concat_meets ⟨_, ho, rfl⟩ ⟨_, ho2, rfl⟩ noFill_tuple_add seq_tuple_add PySem.F.slot_tuple_add PySem.F.entry_tuple_add (PySem.F.args_tuple_add_2 _ _)
      (tuple_addW1 t b vs.toArray ws.toArray n n2 dd dd2 sl sl2 (by simpa using hv) (by simp [hw])) ⟨ho, ho2, h1 hw⟩
  · refine concat_meets ⟨_, ho, rfl⟩ ⟨_, ho2, rfl⟩ noFill_tuple_add seq_tuple_add PySem.F.slot_tuple_add PySem.F.entry_tuple_add (PySem.F.args_tuple_add_2 _ _)
      (tuple_addW2 t b vs.toArray ws.toArray n n2 dd dd2 sl sl2 (by simpa using hv) (by simpa using hw) (by rw [List.size_toArray, List.size_toArray]; exact hsz)) ⟨ho, ho2, ?_⟩
    rw [e]
    exact h2 hw

/-! ### t[a:b], not the whole -/
/-- a slice's bound as a place among n (d where it is left out) -/
def sIx (n d : Nat) : Option Int → Nat
  | none => d
  | some v => if v < 0 then (v + (n : Int)).toNat else min v.toNat n
theorem sIx_none (n d : Nat) : sIx n d none = d := rfl
theorem sIx_nat (n d k : Nat) : sIx n d (some (k : Int)) = min k n := by
  show (if (k : Int) < 0 then ((k : Int) + (n : Int)).toNat else min (k : Int).toNat n) = min k n
  rw [if_neg (by omega), Int.toNat_natCast]
theorem sIx_le (n d : Nat) (hd : d ≤ n) (o : Option Int) : sIx n d o ≤ n := by
  cases o with
  | none => exact hd
  | some v =>
    show (if v < 0 then (v + (n : Int)).toNat else min v.toNat n) ≤ n
    by_cases hv : v < 0
    · rw [if_pos hv]; omega
    · rw [if_neg hv]; exact Nat.min_le_right _ _
theorem clip_eq (v : Int) (n d : Nat) : (if v < 0 then max (v + (n : Int)) 0 else min v (n : Int)) = ((sIx n d (some v) : Nat) : Int) := by
  show (if v < 0 then max (v + (n : Int)) 0 else min v (n : Int)) = (((if v < 0 then (v + (n : Int)).toNat else min v.toNat n) : Nat) : Int)
  by_cases hv : v < 0
  · simp only [if_pos hv]; omega
  · simp only [if_neg hv]; omega
theorem adjust_gen (lo hi : Option Int) (n : Nat) : Builtin.Slice.sliceAdjust lo hi 1 (n : Int) = (((sIx n 0 lo : Nat) : Int), ((sIx n n hi : Nat) : Int)) := by
  have h1 : ¬ ((1 : Int) < 0) := by omega
  unfold Builtin.Slice.sliceAdjust
  simp only [h1, if_false]
  refine Prod.ext ?_ ?_
  · cases lo with
    | none => rfl
    | some v => exact clip_eq v n 0
  · cases hi with
    | none => rfl
    | some v => exact clip_eq v n n
theorem places_gen (i j : Nat) : Builtin.Slice.slicePlaces (i : Int) (j : Int) 1 = j - i := by
  unfold Builtin.Slice.slicePlaces
  have h1 : (1 : Int) > 0 := by omega
  simp only [h1, if_true, Int.ediv_one]
  split <;> omega
theorem slicePart_ {v : Value} {o : Option Int} {Q : Option Int → Shared → Prop} (p : IsPart v o) (h : Q o s) : wpAny (model prog w) A (Builtin.Slice.slicePartIndex v) Q E s := by
  cases p with
  | none => exact slicePart_none h
  | int i t => exact slicePart_int h
theorem sliceApplied_gen {sl : Addr} {vl vu : Value} {lo hi : Option Int} {n : Nat} {Q : Int × Int × Nat → Shared → Prop} (hs : s.heap.IsSliceOf sl vl vu .none) (pl : IsPart vl lo) (pu : IsPart vu hi)
    (h : Q (((sIx n 0 lo : Nat) : Int), 1, sIx n n hi - sIx n 0 lo) s) : wpAny (model prog w) A (Builtin.Slice.sliceApplied (.ref sl) (pure (n : Int))) Q E s := by
  obtain ⟨os, hos, hcs, hds⟩ := id hs
  unfold Builtin.Slice.sliceApplied Builtin.Slice.sliceFields
  refine wpAny_bind (wpAny_bind (wpAny_field hos hds (x := vl) rfl (wpAny_bind (wpAny_field hos hds (x := vu) rfl (wpAny_bind (wpAny_field hos hds (x := .none) rfl (wpAny_pure ?_)))))))
  refine wpAny_bind (slicePart_none ?_)
  show wpAny _ _ (if ((1 : Int) == 0) = true then _ else _) _ _ s
  rw [if_neg (by decide)]
  refine wpAny_bind (slicePart_ pl (wpAny_bind (slicePart_ pu (wpAny_bind (wpAny_pure ?_)))))
  show wpAny _ _ (match Builtin.Slice.sliceAdjust lo hi 1 (n : Int) with | (lo, hi) => pure (lo, (1 : Int), Builtin.Slice.slicePlaces lo hi 1)) _ _ s
  rw [adjust_gen lo hi n]
  show wpAny _ _ (pure (((sIx n 0 lo : Nat) : Int), (1 : Int), Builtin.Slice.slicePlaces ((sIx n 0 lo : Nat) : Int) ((sIx n n hi : Nat) : Int) 1)) _ _ s
  rw [places_gen]
  exact wpAny_pure h
theorem pick_gen (xs : Array Value) (i k : Nat) : ((List.range k).filterMap fun (m : Nat) => xs[((i : Int) + (m : Int) * 1).toNat]?).toArray = ((xs.toList.drop i).take k).toArray := by
  have e : (fun (m : Nat) => xs[((i : Int) + (m : Int) * 1).toNat]?) = fun m => xs[i + m]? := by
    funext m
    have : ((i : Int) + (m : Int) * 1).toNat = i + m := by omega
    rw [this]
  rw [e]
  have := pick_run xs i k
  rw [List.filterMap_map] at this
  have e2 : ((fun x => xs[x]?) ∘ fun x => i + x) = fun m => xs[i + m]? := rfl
  rw [e2] at this
  rw [this]

theorem getItem_tuple_cut {t sl : Addr} {items : Array Value} {vl vu : Value} {lo hi : Option Int} {Q : Value → Shared → Prop} (ht : IsTup s.heap t items) (hs : s.heap.IsSliceOf sl vl vu .none) (pl : IsPart vl lo) (pu : IsPart vu hi)
    (hw : ¬ (sIx items.size 0 lo = 0 ∧ sIx items.size items.size hi = items.size))
    (h : Q (.ref s.heap.objs.size) { s with heap := s.heap.push { cls := .type "tuple", data := .seq ((items.toList.drop (sIx items.size 0 lo)).take (sIx items.size items.size hi - sIx items.size 0 lo)).toArray } })
    (hsz : items.size ≤ sizeLine) : wpAny (model prog w) A (getItem (.ref t) (.ref sl)) Q E s := by
  have htake : sizeOk (.seq ((items.toList.drop (sIx items.size 0 lo)).take (sIx items.size items.size hi - sIx items.size 0 lo)).toArray) := by
    show ((items.toList.drop (sIx items.size 0 lo)).take (sIx items.size items.size hi - sIx items.size 0 lo)).toArray.size ≤ sizeLine
    rw [List.size_toArray, List.length_take, List.length_drop, Array.length_toList]
    omega
  have hj : sIx items.size items.size hi ≤ items.size := sIx_le _ _ (Nat.le_refl _) hi
  obtain ⟨os, hos, hcs, hds⟩ := id hs
  have hTs : s.TypeIs (.ref sl) "slice" := ⟨os, hos, hcs⟩
  unfold getItem
  try with_reducible refine wpAny_holding ?_
  first | refine wpAny_bind (wpAny_pure ?_) | skip
  refine wpAny_bind (wpAny_sequenceKey ht.typeIs (by decide) ?_)
  refine wpAny_bind (wpAny_callSpecial?_slot (name := Str.ofString "__getitem__") ht.typeIs PyProof.Rows.slot_tuple_getitem
    (wpAny_call_entry PyProof.Rows.slot_tuple_getitem ht.typeIs entry_tuple_getitem ?_ (args_tuple_getitem _ _)))
  show wpAny _ _ (Builtin.Tuple.tupleItemsOf (.ref t) >>= _) _ _ s
  refine wpAny_bind (tupleItemsOf_ ht ?_)
  refine wpAny_bind (wpAny_typeOf hTs ?_)
  rw [if_pos (by decide)]
  refine wpAny_bind (sliceApplied_gen hs pl pu ?_)
  have hno : ¬ ((((sIx items.size 0 lo : Nat) : Int) == 0 && (1 : Int) == 1 && (sIx items.size items.size hi - sIx items.size 0 lo) == items.size) = true) := by
    intro q
    rw [Bool.and_eq_true, Bool.and_eq_true] at q
    have q1 : ((sIx items.size 0 lo : Nat) : Int) = 0 := eq_of_beq q.1.1
    have q2 : sIx items.size items.size hi - sIx items.size 0 lo = items.size := eq_of_beq q.2
    exact hw ⟨by omega, by omega⟩
  show wpAny _ _ (if (((sIx items.size 0 lo : Nat) : Int) == 0 && (1 : Int) == 1 && (sIx items.size items.size hi - sIx items.size 0 lo) == items.size) = true then _ else _) _ _ s
  rw [if_neg hno, pick_gen]
  first
    | exact wpAny_bind (m := Builtin.Tuple.tupleExact _) (wpAny_newObj_type (wpAny_pure ⟨_, rfl, wpAny_pure h⟩) htake)
    | exact wpAny_bind (m := Builtin.Tuple.tupleExact _) (wpAny_newObj_type (wpAny_bind (wpAny_pure (wpAny_pure ⟨_, rfl, wpAny_pure h⟩))) htake)
    | exact wpAny_bind (wpAny_bind (m := Builtin.Tuple.tupleExact _) (wpAny_newObj_type (wpAny_pure (wpAny_pure ⟨_, rfl, wpAny_pure h⟩)) htake))
    | exact wpAny_bind (wpAny_bind (m := Builtin.Tuple.tupleExact _) (wpAny_newObj_type (wpAny_pure ⟨_, rfl, wpAny_pure h⟩) htake))
end
end HT

namespace L2
open PySem PySem.Spec PyProof.Rows

/-! ### the parts of a slice -/
abbrev TO := St → Hp → (Option Int → Hp → Prop) → Prop
/-- a slice's part (left out, or an int) -/
def PO (X : Cx) (e : Option Expr) (t : TO) : Prop :=
  ∀ (pins : List (Addr × Obj)) (s : Shared) (σ : St) (H : Hp) (Q : Option Int → Hp → Prop), Inv X pins σ H s → t σ H Q →
    wpAny (model X.prog X.w) X.A (evalPart e X.env) (fun u s' => ∃ o H', Inv X pins σ H' s' ∧ IsPart u o ∧ Q o H') X.xe s
def tNoPart : TO := fun _ H Q => Q none H
def tPart (t : TE) : TO := fun σ H Q => t σ H fun x H1 => ∃ i, x = .int i ∧ Q (some i) H1


section
variable {X : Cx} {e : Expr} {te : TE} {lo hi : Option Expr} {tl th : TO} {pos p2 : Pos}

theorem po_none : PO X none tNoPart := by
  intro pins s σ H Q I h
  rw [evalPart_none]
  exact wpAny_pure ⟨none, H, I, .none, h⟩
theorem po_some (h : PE X e te) : PO X (some e) (tPart te) := by
  intro pins s σ H Q I hw
  rw [evalPart_some]
  refine thn (h pins s σ H _ I hw) fun u s1 ⟨x, H1, I1, r1, q1⟩ => ?_
  obtain ⟨i, rfl, q⟩ := q1
  obtain ⟨t, rfl⟩ := r1
  exact ⟨some i, H1, I1, .int i t, q⟩

/-- what a slice of a value is, by values: the slice object stands at sl -/
def SlR (X : Cx) (r : V → Option Int → Option Int → Hp → VK → Prop) : Prop :=
  ∀ (pins : List (Addr × Obj)) (s : Shared) (σ : St) (H : Hp) (x : V) (v vl vu : Value) (lo hi : Option Int) (sl : Addr) (Q : VK), Inv X pins σ H s → RelV x v → s.heap.IsSliceOf sl vl vu .none → IsPart vl lo → IsPart vu hi → r x lo hi H Q →
    ∃ T id, typeLookup (.type T) "__getitem__" = pure (some (.builtin id)) ∧ s.TypeIs v T ∧ wpAny (model X.prog X.w) X.A (getItem v (.ref sl)) (EP X pins σ Q) X.xe s
def tSl (r : V → Option Int → Option Int → Hp → VK → Prop) (te : TE) (tl th : TO) : TE := fun σ H Q => te σ H fun x H1 => tl σ H1 fun l H2 => th σ H2 fun u H3 => r x l u H3 Q
/-- a[lo:hi], any a -/
theorem pe_slice {r : V → Option Int → Option Int → Hp → VK → Prop} (hr : SlR X r) (he : PE X e te) (hl : PO X lo tl) (hu : PO X hi th) : PE X (.Subscript e (.Slice lo hi none p2) pos) (tSl r te tl th) := by
  intro pins s σ H Q I h
  refine Subscript_ (thn (he pins s σ H _ I h) fun v s1 ⟨x, H1, I1, r1, q1⟩ => ?_)
  refine wpAny_Slice (thn (hl pins s1 σ H1 _ I1 q1) fun vl s2 ⟨l, H2, I2, pl, q2⟩ => thn (hu pins s2 σ H2 _ I2 q2) fun vu s3 ⟨u, H3, I3, pu, q3⟩ => ?_)
  rw [evalPart_none]
  refine wpAny_pure ?_
  have I4 : Inv X pins σ H3 { s3 with heap := s3.heap.push { cls := .type "slice", data := .fields #[vl, vu, .none] } } := I3.kept (t' := s3.toks) fun b ob q => Heap.get?_push_of_some _ q
  obtain ⟨T, id, hT, ht, hg⟩ := hr pins { s3 with heap := s3.heap.push { cls := .type "slice", data := .fields #[vl, vu, .none] } } σ H3 x v vl vu l u s3.heap.objs.size Q I4 r1 (Heap.IsSliceOf.new ..) pl pu q3
  show wpAny (model X.prog X.w) X.A (subscriptTail e (.Slice lo hi none p2) v (.ref s3.heap.objs.size)) (EP X pins σ Q) X.xe { s3 with heap := s3.heap.push { cls := .type "slice", data := .fields #[vl, vu, .none] } }
  exact tail_any (ops := [.ref s3.heap.objs.size, v]) ht hT hg (by with_unfolding_all rfl)

/-- the items of xs[lo:hi] -/
def cutV (xs : List V) (lo hi : Option Int) : List V := (xs.drop (HT.sIx xs.length 0 lo)).take (HT.sIx xs.length xs.length hi - HT.sIx xs.length 0 lo)
theorem cutV_length (xs : List V) (lo hi : Option Int) : (cutV xs lo hi).length ≤ xs.length := by
  unfold cutV
  rw [List.length_take, List.length_drop]
  omega
/-- t[lo:hi], not the whole of it (the whole would be t itself) -/
def rSlT (K : PySem.W.Frag) : V → Option Int → Option Int → Hp → VK → Prop := fun x lo hi H Q => ∃ a xs, x = .ref a ∧ SqT K H a xs ∧
  ¬ (HT.sIx xs.length 0 lo = 0 ∧ HT.sIx xs.length xs.length hi = xs.length) ∧ ∀ p, H p = none → Q (.ref p) (upd H p (.tup (cutV xs lo hi)))
theorem sl_tup : SlR X (rSlT X.K) := by
  intro pins s σ H x v vl vu lo hi sl Q I rx hs pl pu h
  obtain ⟨a, xs, rfl, hx, hw, q⟩ := h
  cases rx
  obtain ⟨its, r, ht, hz⟩ := I.tuple hx
  have hlen : its.toArray.size = xs.length := by rw [List.size_toArray]; exact r.length.symm
  refine ⟨"tuple", _, PyProof.Rows.slot_tuple_getitem.lookup, ht.typeIs, ?_⟩
  refine HT.getItem_tuple_cut ht hs pl pu (by rw [hlen]; exact hw) ?_ (by rw [hlen]; exact hz)
  rw [hlen]
  refine ⟨.ref s.heap.objs.size, _, I.laid (t' := s.toks) (o := .tup (cutV xs lo hi)) (fun b ob q => Heap.get?_push_of_some _ q) (Nat.le_refl _) ?_, rfl, q _ (I.hok.fresh (Nat.le_refl _))⟩
  exact ⟨Nat.le_trans (cutV_length xs lo hi) hz, _, (r.drop (HT.sIx xs.length 0 lo)).take (HT.sIx xs.length xs.length hi - HT.sIx xs.length 0 lo), IsTup.new _ _⟩

/-! ### t < u, t + u -/
/-- t + u, t not empty: u empty gives t itself -/
def rCatT (K : PySem.W.Frag) : R2 := fun x y H Q => ∃ a b xs ys, x = .ref a ∧ y = .ref b ∧ SqT K H a xs ∧ SqT K H b ys ∧ xs ≠ [] ∧ xs.length + ys.length ≤ sizeLine ∧
  (ys = [] → Q (.ref a) H) ∧ (ys ≠ [] → ∀ p, H p = none → Q (.ref p) (upd H p (.tup (xs ++ ys))))
theorem Vals.nil_iff {xs : List V} {us : List Value} (r : Vals xs us) : us = [] ↔ xs = [] := by
  cases r with
  | nil => simp
  | cons _ _ => simp
theorem op_catT : OpR X (binaryOp .Add) (rCatT X.K) := by
  intro pins s σ H x y v u Q I rx ry h
  obtain ⟨a, b, xs, ys, rfl, rfl, ha, hb, hx, hz, q1, q2⟩ := h
  cases rx
  cases ry
  obtain ⟨its, r1, p1, _⟩ := I.tuple ha
  obtain ⟨its2, r2, p2, _⟩ := I.tuple hb
  refine HT.cat_tup p1 p2 (fun z => hx (r1.nil_iff.mp z)) (fun z => ⟨.ref a, H, I, rfl, q1 (r2.nil_iff.mp z)⟩) (fun z => ?_) (by rw [← r1.length, ← r2.length]; exact hz)
  refine ⟨.ref s.heap.objs.size, _, I.laid (t' := s.toks) (o := .tup (xs ++ ys)) (fun b ob q => Heap.get?_push_of_some _ q) (Nat.le_refl _) ?_, rfl, q2 (fun w => z (r2.nil_iff.mpr w)) _ (I.hok.fresh (Nat.le_refl _))⟩
  exact ⟨by rw [List.length_append]; exact hz, _, r1.append r2, IsTup.new _ _⟩
end
end L2

namespace L2
open PySem PySem.Spec PyProof.Rows

/-! ### places -/
/-- the place that an index of any sign means -/
def ixN (n : Nat) (i : Int) : Option Nat := if 0 ≤ i then (if i < n then some i.toNat else none) else if -(n : Int) ≤ i then some (i + n).toNat else none
def atI {α : Type} (xs : List α) (i : Int) : Option α := (ixN xs.length i).bind fun j => xs[j]?
theorem ixN_seq {n : Nat} {i : Int} {j : Nat} (h : ixN n i = some j) : seqIndex? i n = some j ∧ j < n ∧ -(n : Int) ≤ i ∧ i < n := by
  unfold ixN at h
  by_cases h0 : 0 ≤ i
  · rw [if_pos h0] at h
    by_cases h1 : i < n
    · rw [if_pos h1] at h
      have e : i.toNat = j := Option.some.inj h
      exact ⟨by rw [seqIndex_of h0 h1, e], by omega, by omega, h1⟩
    · rw [if_neg h1] at h; cases h
  · rw [if_neg h0] at h
    by_cases h1 : -(n : Int) ≤ i
    · rw [if_pos h1] at h
      have e : (i + n).toNat = j := Option.some.inj h
      exact ⟨by rw [seqIndex_neg (by omega) h1, e], by omega, h1, by omega⟩
    · rw [if_neg h1] at h; cases h
theorem atI_get {α : Type} {xs : List α} {i : Int} {v : α} (h : atI xs i = some v) : ∃ j, seqIndex? i xs.length = some j ∧ xs[j]? = some v ∧ j < xs.length ∧ -(xs.length : Int) ≤ i ∧ i < xs.length := by
  unfold atI at h
  cases e : ixN xs.length i with
  | none => rw [e] at h; cases h
  | some j =>
    rw [e] at h
    obtain ⟨h1, h2, h3, h4⟩ := ixN_seq e
    exact ⟨j, h1, h, h2, h3, h4⟩
theorem atI_nat {α : Type} {xs : List α} {j : Nat} {v : α} (h : xs[j]? = some v) : atI xs (j : Int) = some v := by
  have hj : j < xs.length := (List.getElem?_eq_some_iff.mp h).1
  have e : ixN xs.length (j : Int) = some j := by
    unfold ixN
    rw [if_pos (by omega), if_pos (by omega)]; simp
  unfold atI; rw [e]; exact h

/-! ### what may be subscripted -/
/-- what stands as an index of a plain subscript -/
def PlainIx (b : Expr) : Prop := ∀ o i, subscripted b false o i = operate [o, i] (getItem o i)
/-- a subscript by values -/
def IxR (X : Cx) (r : R2) : Prop :=
  ∀ (value slice : Expr) (pins : List (Addr × Obj)) (s : Shared) (σ : St) (H : Hp) (x y : V) (v u : Value) (Q : VK), Inv X pins σ H s → RelV x v → RelV y u → r x y H Q →
    subscripted slice false v u = operate [v, u] (getItem v u) → wpAny (model X.prog X.w) X.A (subscriptTail value slice v u) (EP X pins σ Q) X.xe s
/-- a call of a builtin's method by values: the receiver, the arguments -/
def MtR (X : Cx) (id : String) (r : V → List V → Hp → VK → Prop) : Prop :=
  ∀ (pins : List (Addr × Obj)) (s : Shared) (σ : St) (H : Hp) (x : V) (xs : List V) (v : Value) (us : List Value) (Q : VK), Inv X pins σ H s → RelV x v → Vals xs us → r x xs H Q →
    wpAny (model X.prog X.w) X.A (call (.builtin id) (v :: us)) (EP X pins σ Q) X.xe s
section
variable {X : Cx} {a b : Expr} {ta tb : TE} {pos : Pos}
/-- a[b] -/
theorem pe_ix {r : R2} (hr : IxR X r) (ha : PE X a ta) (hb : PE X b tb) (hs : PlainIx b) : PE X (.Subscript a b pos) (tOp r ta tb) := by
  intro pins s σ H Q I h
  exact Subscript_ (binT ha hb I h fun v u s2 x y H2 I2 rx ry q => hr a b pins s2 σ H2 x y v u Q I2 rx ry q (hs _ _))

def rIxL (K : PySem.W.Frag) : R2 := fun x y H Q => ∃ p xs i v, x = .ref p ∧ y = .int i ∧ SqL K H p xs ∧ atI xs i = some v ∧ Q v H
def rIxT (K : PySem.W.Frag) : R2 := fun x y H Q => ∃ p xs i v, x = .ref p ∧ y = .int i ∧ SqT K H p xs ∧ atI xs i = some v ∧ Q v H
theorem ix_list : IxR X (rIxL X.K) := by
  intro value slice pins s σ H x y v u Q I rx ry h hs
  obtain ⟨p, xs, i, z, rfl, rfl, hq, he, q⟩ := h
  cases rx
  obtain ⟨t, rfl⟩ := ry
  obtain ⟨its, r, pl, hz⟩ := I.list hq
  obtain ⟨j, h1, h2, h3, h4, h5⟩ := atI_get he
  obtain ⟨w, ew, rw'⟩ := r.get h2
  have hl := r.length
  have hn := line63
  have fin : EP X pins σ Q w s := ⟨z, H, I, rw', q⟩
  by_cases h0 : 0 ≤ i
  · have hj : i.toNat = j := by
      rw [seqIndex_of h0 h5] at h1
      exact Option.some.inj h1
    exact item_listR pl.isList h0 (by omega) (by rw [hj]; simpa using ew) fin hs
  · have hj : (i + (its.toArray.size : Int)).toNat = j := by
      rw [seqIndex_neg (by omega) h4] at h1
      rw [List.size_toArray, ← hl]
      exact Option.some.inj h1
    exact subscriptTail_builtinR (x := w) pl.isList.typeIs slot_list_getitem.lookup
      (wpAny_getItem_list_neg (Q := fun r s' => r = w ∧ EP X pins σ Q r s') pl.isList (by omega) (by rw [List.size_toArray] <;> omega) (by omega) (by rw [hj]; simpa using ew) ⟨rfl, fin⟩) hs
theorem ix_tup : IxR X (rIxT X.K) := by
  intro value slice pins s σ H x y v u Q I rx ry h hs
  obtain ⟨p, xs, i, z, rfl, rfl, hq, he, q⟩ := h
  cases rx
  obtain ⟨t, rfl⟩ := ry
  obtain ⟨its, r, pl, hz⟩ := I.tuple hq
  obtain ⟨j, h1, h2, h3, h4, h5⟩ := atI_get he
  obtain ⟨w, ew, rw'⟩ := r.get h2
  have hl := r.length
  have hn := line63
  have fin : EP X pins σ Q w s := ⟨z, H, I, rw', q⟩
  exact subscriptTail_builtinR (x := w) pl.typeIs slot_tuple_getitem.lookup
    (getItem_tuple (j := j) (Q := fun r s' => r = w ∧ EP X pins σ Q r s') pl (by omega) (by omega) (by rw [List.size_toArray, ← hl]; exact h1) (by simpa using ew) ⟨rfl, fin⟩) hs

/-! ### xs[i] = v, any sign -/

/-! ### slices -/
theorem slice_bounds (lo hi : Option Int) (n : Nat) : (sliceBounds lo hi none n).1 = ((HT.sIx n 0 lo : Nat) : Int) ∧ (sliceBounds lo hi none n).2.1 = ((HT.sIx n n hi : Nat) : Int) ∧ (sliceBounds lo hi none n).2.2 = 1 := by
  refine ⟨?_, ?_, rfl⟩
  · cases lo with
    | none => simp [sliceBounds, HT.sIx]
    | some i =>
      simp only [sliceBounds, HT.sIx, Option.getD_none, show (1 : Int) > 0 by decide, if_true]
      by_cases h : i < 0
      · simp only [h, if_true] <;> omega
      · simp only [h, if_false] <;> omega
  · cases hi with
    | none => simp [sliceBounds, HT.sIx]
    | some i =>
      simp only [sliceBounds, HT.sIx, Option.getD_none, show (1 : Int) > 0 by decide, if_true]
      by_cases h : i < 0
      · simp only [h, if_true] <;> omega
      · simp only [h, if_false] <;> omega
theorem slicePick_cut (its : List Value) (lo hi : Option Int) : slicePick its.toArray lo hi none = ((its.drop (HT.sIx its.length 0 lo)).take (HT.sIx its.length its.length hi - HT.sIx its.length 0 lo)).toArray := by
  obtain ⟨h1, h2, h3⟩ := slice_bounds lo hi its.toArray.size
  unfold slicePick
  rw [h1, h2, h3]
  simp only [sliceRange_one, pick_run, List.size_toArray] <;> rfl
/-- xs[lo:hi] of a list: a new list -/
def rSlL (K : PySem.W.Frag) : V → Option Int → Option Int → Hp → VK → Prop := fun x lo hi H Q => ∃ a xs, x = .ref a ∧ SqL K H a xs ∧ ∀ p, H p = none → Q (.ref p) (upd H p (.lst (cutV xs lo hi)))
theorem sl_list : SlR X (rSlL X.K) := by
  intro pins s σ H x v vl vu lo hi sl Q I rx hs pl pu h
  obtain ⟨a, xs, rfl, hx, q⟩ := h
  cases rx
  obtain ⟨its, r, ht, hz⟩ := I.list hx
  have hlen := r.length
  refine ⟨"list", _, slot_list_getitem.lookup, ht.isList.typeIs, ?_⟩
  refine wpAny_getItem_list_slice ht.isList hs pl pu .none (by simp) ?_ (by rw [List.size_toArray] <;> omega)
  rw [slicePick_cut, ← hlen]
  refine ⟨.ref s.heap.objs.size, _, I.laid (t' := s.toks) (o := .lst (cutV xs lo hi)) (fun b ob q => Heap.get?_push_of_some _ q) (Nat.le_refl _) ?_, rfl, q _ (I.hok.fresh (Nat.le_refl _))⟩
  exact ⟨Nat.le_trans (cutV_length xs lo hi) hz, _, 0, (r.drop (HT.sIx xs.length 0 lo)).take (HT.sIx xs.length xs.length hi - HT.sIx xs.length 0 lo), Heap.get?_push_size _ rfl⟩

/-! ### in, not in: flat items -/
def flatV : V → Bool
  | .non => true
  | .bl _ => true
  | .int _ => true
  | .str _ => true
  | _ => false
/-- == of flat values -/
def eqV : V → V → Bool
  | .non, .non => true
  | .bl a, .bl b => a == b
  | .bl a, .int b => (if a then 1 else 0) == b
  | .int a, .bl b => a == (if b then 1 else 0)
  | .int a, .int b => a == b
  | .str a, .str b => a == b
  | _, _ => false
theorem eqAt_V {A : Around} {s : Shared} {y x : V} {u v : Value} (ry : RelV y u) (rx : RelV x v) (fy : flatV y = true) (fx : flatV x = true) : SeqAt.EqAt A s u v (eqV y x) := by
  cases y with
  | non =>
    cases ry
    cases x with
    | non => cases rx; exact SeqAt.EqAt.same _
    | bl b => cases rx; exact SeqAt.EqAt.none_bool b
    | int b => obtain ⟨t, rfl⟩ := rx; exact SeqAt.EqAt.none_int b t
    | str b => obtain ⟨t, rfl⟩ := rx; exact SeqAt.EqAt.none_str b t
    | _ => exact absurd (show false = true from fx) Bool.false_ne_true
  | bl a =>
    cases ry
    cases x with
    | non => cases rx; exact SeqAt.EqAt.bool_none a
    | bl b => cases rx; exact SeqAt.EqAt.bool_bool a b
    | int b => obtain ⟨t, rfl⟩ := rx; exact SeqAt.EqAt.bool_int a b t
    | str b => obtain ⟨t, rfl⟩ := rx; exact SeqAt.EqAt.bool_str a b t
    | _ => exact absurd (show false = true from fx) Bool.false_ne_true
  | int a =>
    obtain ⟨t', rfl⟩ := ry
    cases x with
    | non => cases rx; exact SeqAt.EqAt.int_none a t'
    | bl b => cases rx; exact SeqAt.EqAt.int_bool a t' b
    | int b => obtain ⟨t, rfl⟩ := rx; exact SeqAt.EqAt.int_int a t' b t
    | str b => obtain ⟨t, rfl⟩ := rx; exact SeqAt.EqAt.int_str a t' b t
    | _ => exact absurd (show false = true from fx) Bool.false_ne_true
  | str a =>
    obtain ⟨t', rfl⟩ := ry
    cases x with
    | non => cases rx; exact SeqAt.EqAt.str_none a t'
    | bl b => cases rx; exact SeqAt.EqAt.str_bool a t' b
    | int b => obtain ⟨t, rfl⟩ := rx; exact SeqAt.EqAt.str_int a t' b t
    | str b => obtain ⟨t, rfl⟩ := rx; exact SeqAt.EqAt.str_str a t' b t
    | _ => exact absurd (show false = true from fx) Bool.false_ne_true
  | _ => exact absurd (show false = true from fy) Bool.false_ne_true
/-- the items' answers, read off the values (a value's own answer does not lean on its token) -/
def eqU (x : V) (u : Value) : Bool := match u with
  | .none => eqV .non x
  | .bool b => eqV (.bl b) x
  | .int i _ => eqV (.int i) x
  | .str z _ => eqV (.str z) x
  | _ => false
theorem eqU_of {x y : V} {u : Value} (r : RelV y u) (f : flatV y = true) : eqU x u = eqV y x := by
  cases y with
  | non => cases r; rfl
  | bl b => cases r; rfl
  | int i => obtain ⟨t, rfl⟩ := r; rfl
  | str z => obtain ⟨t, rfl⟩ := r; rfl
  | _ => exact absurd (show false = true from f) Bool.false_ne_true
theorem mem_eqAt {A : Around} {s : Shared} {x : V} {v : Value} (rx : RelV x v) (fx : flatV x = true) : ∀ {xs : List V} {us : List Value}, Vals xs us → xs.all flatV = true → ∀ u ∈ us, SeqAt.EqAt A s u v (eqU x u)
  | _, _, .nil, _ => fun u hu => by cases hu
  | y :: xs, u :: us, .cons r t, f => fun u' hu => by
    rw [List.all_cons, Bool.and_eq_true] at f
    rcases List.mem_cons.mp hu with rfl | hu
    · rw [eqU_of r f.1]; exact eqAt_V r rx f.1 fx
    · exact mem_eqAt rx fx t f.2 u' hu

/-! ### len, list(x), tuple(x) of any list or tuple that is read -/
theorem call_len_seq : CallR X (.builtin "len") (fun xs H Q => ∃ p ys, xs = [.ref p] ∧ (SqL X.K H p ys ∨ SqT X.K H p ys) ∧ Q (.int ys.length) H) := by
  intro pins s σ H xs us Q I r h
  obtain ⟨p, ys, rfl, hq, q⟩ := h
  obtain ⟨u, rfl, rx⟩ := vals1 r
  cases rx
  have hn := line63
  rcases hq with hq | hq
  · obtain ⟨its, r', pl, hz⟩ := I.list hq
    have hlen := r'.length
    exact Calls.call_len_list pl.isList (by simp only [List.size_toArray] <;> omega) ⟨.int ys.length, H, I.tok _, ⟨s.toks + 1, by rw [List.size_toArray, hlen]⟩, q⟩
  · obtain ⟨its, r', pl, hz⟩ := I.tuple hq
    have hlen := r'.length
    exact len_tuple pl (by simp only [List.size_toArray] <;> omega) ⟨.int ys.length, H, I.tok _, ⟨s.toks + 1, by rw [List.size_toArray, hlen]⟩, q⟩
theorem call_tuple_of : CallR X (.type "tuple") (fun xs H Q => ∃ p ys, xs = [.ref p] ∧ ((SqL X.K H p ys ∧ ∀ l, H l = none → Q (.ref l) (upd H l (.tup ys))) ∨ (SqT X.K H p ys ∧ Q (.ref p) H))) := by
  intro pins s σ H xs us Q I r h
  obtain ⟨p, ys, rfl, h⟩ := h
  obtain ⟨u, rfl, rx⟩ := vals1 r
  cases rx
  rcases h with ⟨hq, q⟩ | ⟨hq, q⟩
  · obtain ⟨its, r', pl, hz⟩ := I.list hq
    have hlen := r'.length
    refine call_tuple_list pl.isList (fun h' kp => ?_) (by simp only [List.size_toArray] <;> omega)
    have I1 : Inv X pins σ H { s with heap := h' } := I.kept (t' := s.toks) kp
    have I2 : Inv X pins σ (upd H h'.objs.size (.tup ys)) { s with heap := h'.push { cls := .type "tuple", data := .seq its.toArray } } :=
      I1.laid (t' := s.toks) (fun b o e => Heap.get?_push_of_some _ e) (Nat.le_refl _) (show ObjOk X.prog X.w _ _ _ (.tup ys) from ⟨hz, its, r', IsTup.new _ _⟩)
    exact ⟨.ref h'.objs.size, _, I2, rfl, q _ (I1.hok.fresh (Nat.le_refl _))⟩
  · obtain ⟨its, r', pl, hz⟩ := I.tuple hq
    exact call_tuple_same pl ⟨.ref p, H, I, rfl, q⟩

/-! ### the call of a builtin's method: o.m(..) -/
/-- the value is of that builtin type -/
def tyV (K : PySem.W.Frag) (T : String) (x : V) (H : Hp) : Prop := match x with
  | .str _ => T = "str"
  | .int _ => T = "int"
  | .ref p => (T = "list" ∧ ∃ xs, SqL K H p xs) ∨ (T = "tuple" ∧ ∃ o, K.lookup p = some o ∧ o.cls = .type "tuple" ∧ o.dict = none) ∨
      (T = "dict" ∧ ((∃ kvs, H p = some (.dK kvs)) ∨ ∃ kvs, H p = some (.dT kvs))) ∨ (T = "set" ∧ ∃ S n, H p = some (.set S n))
  | _ => False
theorem tyV_is {pins : List (Addr × Obj)} {σ : St} {H : Hp} {s : Shared} {T : String} {x : V} {v : Value} (I : Inv X pins σ H s) (r : RelV x v) (ty : tyV X.K T x H) :
    s.TypeIs v T ∧ ∀ a, v = .ref a → ∃ ob, s.heap.get? a = some ob ∧ ob.dict = none := by
  cases x with
  | str z =>
    obtain ⟨t, rfl⟩ := r
    cases (show T = "str" from ty)
    exact ⟨typeIs_str s z t, fun _ e => nomatch e⟩
  | int i =>
    obtain ⟨t, rfl⟩ := r
    cases (show T = "int" from ty)
    exact ⟨typeIs_int s i t, fun _ e => nomatch e⟩
  | ref p =>
    cases r
    rcases ty with ⟨rfl, xs, hq⟩ | ⟨rfl, o, hk, hc, hd⟩ | ⟨rfl, hk⟩ | ⟨rfl, S, n, hk⟩
    · obtain ⟨its, _, pl, _⟩ := I.list hq
      refine ⟨pl.isList.typeIs, fun a e => ?_⟩
      cases e
      obtain ⟨o, n, e, c, hd, _⟩ := pl
      exact ⟨o, e, hd⟩
    · refine ⟨⟨o, I.kIn p o hk, hc⟩, fun a e => ?_⟩
      cases e
      exact ⟨o, I.kIn _ o hk, hd⟩
    · have z : ∃ o, s.heap.get? p = some o ∧ o.ExactDict := by
        rcases hk with ⟨kvs, hk⟩ | ⟨kvs, hk⟩
        · obtain ⟨_, _, _, _, o, _, _, e, ex, _⟩ := I.hok p _ hk
          exact ⟨o, e, ex⟩
        · obtain ⟨_, _, _, _, o, _, _, e, ex, _⟩ := I.hok p _ hk
          exact ⟨o, e, ex⟩
      obtain ⟨o, e, ex⟩ := z
      refine ⟨⟨o, e, ex.1⟩, fun a e2 => ?_⟩
      cases e2
      exact ⟨o, e, ex.2.1⟩
    · obtain ⟨o, _, _, _, e, ex, _⟩ := I.hok p _ hk
      refine ⟨⟨o, e, ex.1⟩, fun a e2 => ?_⟩
      cases e2
      exact ⟨o, e, ex.2.1⟩
  | _ => exact False.elim ty
def tBM0 (K : PySem.W.Frag) (T : String) (r : V → List V → Hp → VK → Prop) (to : TE) : TE := fun σ H Q => to σ H fun x H1 => tyV K T x H1 ∧ r x [] H1 Q
def tBM (K : PySem.W.Frag) (T : String) (r : V → List V → Hp → VK → Prop) (to : TE) (t : TA) : TE := fun σ H Q => to σ H fun x H1 => tyV K T x H1 ∧ t σ H1 fun xs H2 => r x xs H2 Q
variable {o e : Expr} {es : List Expr} {to : TE} {t : TA} {name : Str} {apos cpos : Pos} {T id : String} {r : V → List V → Hp → VK → Prop}
theorem pe_bm0 (pa : PlainAttrs T) (slot : Slot T name id) (hty : typeOf (.builtin id) = pure (.type "method_descriptor")) (hm : MtR X id r) (ho : PE X o to)
    (hbase : attributeBase o name X.env (eval o X.env) = eval o X.env := by rfl) (hline : (apos.endLine == cpos.line) = true := by rfl) : PE X (.Call (.Attribute o name apos) [] [] cpos) (tBM0 X.K T r to) := by
  intro pins s σ H Q I h
  refine wpAny_Call_method0_late hbase hline (thn (ho pins s σ H _ I h) fun v s1 ⟨x, H1, I1, r1, ty, q1⟩ => ?_)
  obtain ⟨h1, h2⟩ := tyV_is I1 r1 ty
  exact ⟨T, id, pa, slot, hty, h1, h2, Calls.callWith_builtin rfl (PySem.evalArgs_none (hm pins s1 σ H1 x [] v [] Q I1 r1 .nil q1))⟩
theorem pe_bm (pa : PlainAttrs T) (slot : Slot T name id) (hty : typeOf (.builtin id) = pure (.type "method_descriptor")) (hm : MtR X id r) (ho : PE X o to) (ha : PA X (e :: es) t)
    (hbase : attributeBase o name X.env (eval o X.env) = eval o X.env := by rfl)
    (hfew : ((backTo cpos (starEach (e :: es) X.env)).all (fun x => !x.1) && (backToKw cpos (keywordEach [] X.env)).all (fun x => x.1.isSome)
      && decide ((e :: es).length + ([] : List Keyword).length + (if ([] : List Keyword).isEmpty then 0 else 1) < 30)) = true := by rfl)
    (hline : (apos.endLine == cpos.line) = true := by rfl) (hs : starEach (e :: es) X.env = (false, eval e X.env) :: starEach es X.env := by rfl) (hplain : (backTo cpos (starEach es X.env)).any (·.1) = false := by rfl) :
    PE X (.Call (.Attribute o name apos) (e :: es) [] cpos) (tBM X.K T r to t) := by
  intro pins s σ H Q I h
  refine wpAny_Call_method_late hbase hfew hline rfl (thn (ho pins s σ H _ I h) fun v s1 ⟨x, H1, I1, r1, ty, q1⟩ => ?_)
  obtain ⟨h1, h2⟩ := tyV_is I1 r1 ty
  refine ⟨T, id, pa, slot, hty, h1, h2, ?_⟩
  have hA := ha cpos pins s1 σ H1 _ I1 q1
  rw [hs] at hA ⊢
  refine Calls.callWith_builtin (by show (false || (backTo cpos (starEach es X.env)).any (·.1)) = false; rw [hplain] <;> rfl) (Calls.evalArgs_plain ?_)
  exact thn hA fun us s2 ⟨vs, H2, I2, r2, q2⟩ => hm pins s2 σ H2 x vs v us Q I2 r1 r2 q2
/- xs.append(e), list.index on a module's tuple .. are MtR facts of 06m -/
end
end L2

namespace L2
open PySem PySem.Spec PyProof.Rows

def MtM (X : Cx) (id : String) (r : V → List V → Hp → VK → Prop) : Prop :=
  ∀ (pins : List (Addr × Obj)) (s : Shared) (σ : St) (H : Hp) (x : V) (xs : List V) (v : Value) (us : List Value) (Q : VK), Inv X pins σ H s → RelV x v → Vals xs us → r x xs H Q →
    wpAny (model X.prog X.w) X.A (call (.builtin id) (v :: us)) (EP X pins σ Q) X.xe s

/-! ### lists of values -/
theorem Vals.one : ∀ {x : V} {us : List Value}, Vals [x] us → ∃ u, us = [u] ∧ RelV x u
  | _, _, .cons r .nil => ⟨_, rfl, r⟩
theorem Vals.eraseIdx : ∀ {xs : List V} {us : List Value} (i : Nat), Vals xs us → Vals (xs.eraseIdx i) (us.eraseIdx i)
  | _, _, _, .nil => .nil
  | _, _, 0, .cons _ t => t
  | _, _, i + 1, .cons r t => .cons r (Vals.eraseIdx i t)
theorem Vals.rep {xs : List V} {us : List Value} (h : Vals xs us) : ∀ k : Nat, Vals (List.replicate k xs).flatten (List.replicate k us).flatten
  | 0 => .nil
  | k + 1 => by
    rw [List.replicate_succ, List.replicate_succ, List.flatten_cons, List.flatten_cons]
    exact Vals.append h (Vals.rep h k)
theorem len_erase {α : Type} : ∀ (l : List α) (i : Nat), (l.eraseIdx i).length ≤ l.length
  | [], _ => Nat.le_refl _
  | _ :: _, 0 => Nat.le_succ _
  | _ :: r, i + 1 => Nat.succ_le_succ (len_erase r i)
theorem foldl_rep (its : List Value) : ∀ (k : Nat) (acc : List Value),
    List.foldl (fun x1 x2 => x1 ++ x2) acc.toArray (List.replicate k its.toArray) = (acc ++ (List.replicate k its).flatten).toArray
  | 0, acc => by simp
  | k + 1, acc => by
    have e : acc.toArray ++ its.toArray = (acc ++ its).toArray := by simp
    have e2 : (acc ++ its) ++ (List.replicate k its).flatten = acc ++ (List.replicate (k + 1) its).flatten := by
      rw [List.replicate_succ, List.flatten_cons, List.append_assoc]
    rw [← e2, ← foldl_rep its k (acc ++ its), ← e, List.replicate_succ, List.foldl_cons]

section
variable {X : Cx} {pins : List (Addr × Obj)} {σ : St} {H : Hp} {s : Shared} {l b : Addr} {xs ys zs : List V}

/-! ### the two steps: a tracked list is rewritten, a new list is laid -/
theorem Inv.lset {its its' : List Value} {n : Nat} {f : Array Value → Array Value} {t' : Nat} (I : Inv X pins σ H s) (hH : H l = some (.lst xs))
    (e : s.heap.get? l = some { cls := .type "list", data := .seq its.toArray n }) (hf : f its.toArray = its'.toArray) (hv : Vals ys its') (hz : ys.length ≤ sizeLine) :
    Inv X pins σ (upd H l (.lst ys)) { s with heap := s.heap.update l (Obj.mapSeq f), toks := t' } := by
  have q := PySem.IsL.update e f
  rw [hf] at q
  refine I.write (x := l) (e := l) (by rw [hH]; exact trivial) (.inl rfl) (fun b' u hb hu => (Heap.get?_update_other s.heap (Obj.mapSeq f) (Ne.symm hb)).trans hu) ⟨_, q⟩ ?_
  exact ⟨hz, its', _, hv, q⟩
theorem Inv.lnew {its : List Value} {t' : Nat} (I : Inv X pins σ H s) (hv : Vals ys its) (hz : ys.length ≤ sizeLine) :
    Inv X pins σ (upd H s.heap.objs.size (.lst ys)) { s with heap := s.heap.push { cls := .type "list", data := .seq its.toArray }, toks := t' } :=
  I.laid (fun _ _ q => Heap.get?_push_of_some _ q) (Nat.le_refl _) ⟨hz, its, 0, hv, Heap.get?_push_size _ rfl⟩
theorem Inv.fresh (I : Inv X pins σ H s) : H s.heap.objs.size = none := I.hok.fresh (Nat.le_refl _)
theorem Inv.lstM (I : Inv X pins σ H s) (hH : H l = some (.lst xs)) : xs.length ≤ sizeLine ∧ ∃ (its : List Value) (n : Nat), Vals xs its ∧ xs.length = its.length ∧ s.heap.get? l = some { cls := .type "list", data := .seq its.toArray n } := by
  obtain ⟨z, its, n, r, e⟩ := I.hok l _ hH
  exact ⟨z, its, n, r, r.length, e⟩

end

section
variable {X : Cx}

/-! ### methods -/
def rAppend : V → List V → Hp → VK → Prop := fun x vs H Q => ∃ l xs y, x = .ref l ∧ vs = [y] ∧ H l = some (.lst xs) ∧ xs.length < sizeLine ∧ Q .non (upd H l (.lst (xs ++ [y])))
theorem mt_append : MtM X "list.append" rAppend := by
  intro pins s σ H x vs v us Q I rx rv h
  obtain ⟨l, xs, y, rfl, rfl, hH, hz, q⟩ := h
  cases rx
  obtain ⟨u, rfl, ru⟩ := rv.one
  obtain ⟨z, its, n, r, hl, e⟩ := I.lstM hH
  refine call_meets F.slot_list_append ⟨_, e, rfl⟩ F.entry_list_append (F.args_list_append_2 _ _) (PySem.list_append l its.toArray n u (by rw [List.size_toArray]; omega)) ⟨e, ?_⟩
  refine ⟨.non, _, I.lset (its' := its ++ [u]) hH e (by simp) (r.append (.cons ru .nil)) ?_, rfl, q⟩
  rw [List.length_append, List.length_singleton]
  omega



def rPopAt : V → List V → Hp → VK → Prop := fun x vs H Q => ∃ l xs i k y, x = .ref l ∧ vs = [.int i] ∧ H l = some (.lst xs) ∧ -(2 ^ 63) ≤ i ∧ i < 2 ^ 63 ∧ seqIndex? i xs.length = some k ∧ xs[k]? = some y ∧ Q y (upd H l (.lst (xs.eraseIdx k)))
theorem mt_popAt : MtM X "list.pop" rPopAt := by
  intro pins s σ H x vs v us Q I rx rv h
  obtain ⟨l, xs, i, k, y, rfl, rfl, hH, h1, h2, hk, hy, q⟩ := h
  cases rx
  obtain ⟨u, rfl, ru⟩ := rv.one
  obtain ⟨t, rfl⟩ := ru
  obtain ⟨z, its, n, r, hl, e⟩ := I.lstM hH
  obtain ⟨w, hw, rw'⟩ := r.get hy
  refine call_meets F.slot_list_pop ⟨_, e, rfl⟩ F.entry_list_pop (F.args_list_pop_2 _ _)
    (MeetsSeq.list_pop_at l its.toArray n i t k w (fitsIndex_both h1 h2) (by rw [List.size_toArray, ← hl]; exact hk) (by rw [← Array.getElem?_toList]; exact hw) (by rw [List.size_toArray]; omega)) ⟨e, ?_⟩
  refine ⟨y, _, I.lset (its' := its.eraseIdx k) hH e ?_ (r.eraseIdx k) ?_, rw', q⟩
  · show its.toArray.eraseIdxIfInBounds k = (its.eraseIdx k).toArray
    rw [List.eraseIdxIfInBounds_toArray]
  · have := len_erase xs k
    omega



/-! ### list + list, list += list, list * int -/
theorem len_rep {α : Type} (xs : List α) (k : Nat) : (List.replicate k xs).flatten.length = k * xs.length := by
  induction k with
  | zero => simp
  | succ k ih => rw [List.replicate_succ, List.flatten_cons, List.length_append, ih, Nat.succ_mul, Nat.add_comm]

/-! ### del xs[i] -/
end

/-! ### xs[a:b] = ys -/
section
variable {prog : Program} {w : World} {A : Around} {E : Value → Shared → Prop} {s : Shared}
end

section
variable {X : Cx}
end
end L2

namespace Att
open PySem PySem.W PySem.Calls PyProof.Rows

/-! ### the script -/
theorem ints_of_wellAll {P : Params} {h : Heap} : ∀ (ns : List Int) (vs : List Value), WellAll P h vs (ns.map WData.int) → IntsAre vs ns := by
  intro ns
  induction ns with
  | nil =>
    intro vs w
    rw [List.map_nil] at w
    cases w
    exact .nil
  | cons n ns ih =>
    intro vs w
    rw [List.map_cons] at w
    cases w with
    | cons a b =>
      cases a
      exact .cons _ _ (ih _ b)

theorem script_of {l : OpenLaw} {n : Nat} (hn : l.most = some n) {P : Params} {h : Heap} {args : List WData} {vals : List Value}
    (hpre : l.row.toRowW.claim.pre args = true) (hwl : WellAll P h vals args) :
    ∃ a vs ns, vals = [Value.ref a] ∧ args = [WData.list (ns.map WData.int)] ∧ h.get? a = some { cls := .type "list", data := .seq vs.toArray } ∧ IntsAre vs ns ∧ ns.length ≤ n := by
  have hsh : WShape.hasAll [] args [.list .int] = true := (pre_splitW hpre).1
  have hc : l.pre.holds [] { args := args } = true := (pre_splitW hpre).2
  obtain ⟨d, r, rfl, h1, h2⟩ := hasAllW_cons hsh
  obtain rfl := hasAllW_nil h2
  obtain ⟨xs, rfl, h3⟩ := hasW_list h1
  obtain ⟨ns, rfl⟩ := items_int h3
  have hlen : ns.length ≤ n := by
    unfold OpenLaw.pre at hc
    have h4 : (WTm.not (.lt (.lit (.int (n : Int))) (.len (.arg 0)))).holds [] { args := [.list (ns.map .int)] } = true := by
      have h4 := (holds_andW hc).1
      rw [hn] at h4
      exact h4
    have h5 := condW_of h4 (w_not (w_lt w_lit (w_len_list (w_arg rfl))))
    rw [List.length_map] at h5
    refine Nat.le_of_not_lt fun q => ?_
    have q' : (n : Int) < ((ns.length : Nat) : Int) := by omega
    first
      | (rw [decide_eq_true q'] at h5; exact absurd h5 (by decide))
      | (simp at h5; omega)
  cases hwl with
  | cons w1 w2 =>
    cases w2
    cases w1 with
    | list ho hall => exact ⟨_, _, ns, rfl, rfl, ho, ints_of_wellAll ns _ hall, hlen⟩

theorem post_true (l : OpenLaw) (args : List WData) : l.row.toRowW.claim.post args (.bool true) args = true :=
  postW_of (r := l.row.toRowW) (X := (true == true))
    (show WShape.has [] (.bool true) .bool = true by first | rfl | decide | simp [WShape.has, WShape.arms, WShape.armsAll])
    (show (WTm.eq .res (.lit (.bool true))).value [] { args := args, res := some (.bool true), after := args } = some (.bool (true == true)) from w_eq_bool (w_res rfl) w_lit) rfl

/-! ### the attachment: holds_open's last premise (the goal 'hc' behind k_head) from a wpAny of the law's body -/

/-- the same from a codeAny of the CALL (for a layer whose function contracts speak of calls) -/
theorem attach_call {l : OpenLaw} {n : Nat} {q : Program} {loose : List Str} {XP : (Str → Option Value) → Heap → Prop} {YP : World → Heap → Prop} {d : DefRec}
    (hn : l.most = some n) (hdf : d.params.defaults = [])
    (call : ∀ (w : World) (s₀ s₁ : Shared) (mg mb : Str → Option Value) (fa : Addr) (o : Obj) (pm cd doc : Value) (a : Addr) (vs : List Value) (ns : List Int),
      Ground q loose [] XP w s₀ mg mb s₁.heap → YP w s₁.heap →
      s₁.heap.get? fa = some o → o.data = .func (docDef d.name d.params d.body d.scope pm cd doc) → s₁.heap.CodeRec cd d.name → mg d.name = some (.ref fa) →
      s₁.heap.get? a = some { cls := .type "list", data := .seq vs.toArray } → IntsAre vs ns → ns.length ≤ n → s₁.gens = #[] →
      codeAny (model l.prog w) callerA (.call (.ref fa) ⟨[.ref a], []⟩) (fun r s' => r = .ok (.ret (.bool true)) ∧ OldK s₁.heap s'.heap ∧ s'.os = s₁.os ∧ AllBare s'.gens) s₁) :
    WalkO q loose XP YP l.row.toRowW d [] (fun f vs => PySem.call f vs) := by
  intro w s₀ s₁ mg mb G Y fa o pm cd doc dV kV ho hd hcd hD hmg hg args vals as hpre hlay hrd hwl hlo
  obtain rfl : dV = .none := Dflts.none hD hdf
  obtain rfl : kV = .none := Dflts.noKw hD
  obtain ⟨a, vs, ns, rfl, rfl, hobj, hints, hlen⟩ := script_of hn hpre hwl
  refine enter_call (codeAny_mono (call w s₀ s₁ mg mb fa o pm cd doc a vs ns G Y ho (fd_plain hd) hcd hmg hobj hints hlen hg) fun r s' hq => ?_)
  obtain ⟨rfl, h2, h3, h4⟩ := hq
  exact ⟨.inl ⟨.bool true, .bool true, [], rfl, fun _ => rfl, .bool true, post_true l _, fun _ => ⟨List.Pairwise.nil, fun _ hm => (nomatch hm)⟩⟩, h2, h3, h4⟩


/-! ### rules over ANY heap (no ledger) from facts about the written part K: the library's own take a ledger (News) for what they write -/
section
variable {prog : Program} {w : World} {A : Around} {E : Value → Shared → Prop} {s : Shared} {K : Frag}





/-! the whole heap as the ledger: makes every rule that writes through a ledger a rule over any heap -/

end
end Att

namespace L2
open PySem PySem.Spec PyProof.Rows

theorem vals_ints : ∀ {vs : List Value} {ns : List Int}, IntsAre vs ns → Vals (ns.map V.int) vs
  | _, _, .nil => .nil
  | _, _, .cons n t h => .cons ⟨t, rfl⟩ (vals_ints h)

/-- nothing is tracked but the script, known to the object (or it is an object of the module) -/
def Only (H : Hp) : Prop := ∀ b, H b = none ∨ ∃ o xs, H b = some (.frz o (.lst xs))

/-- THE HEAD: the law's promise, at the heap behind the top. F, the promise of the law's def, may use that base is part of the heap (so K.In base, base.Ns mainGlobals mg stand in Mod) -/
theorem law_call {P : Program} {w : World} {K : PySem.W.Frag} {mg mb : Str → Option Value} {CX : CXT} {k : Nat} {fa a : Addr} {fd : FuncData} {x : Str} {sp : Sp} {s₁ : Shared} {vs : List Value} {ns : List Int}
    (KX : K.In s₁.heap) (hns : s₁.heap.Ns mainGlobals mg) (hb : s₁.heap.Ns builtinsNs mb) (hbb : ∀ x : Str, x ≠ "__name__" → mb x = bootBuiltins x) (hlim : s₁.heap.NoLimit) (hg : s₁.gens = #[])
    (ha : s₁.heap.get? a = some { cls := .type "list", data := .seq vs.toArray }) (hi : IntsAre vs ns) (hl : ns.length ≤ sizeLine) (hr : Room k callerA)
    (F : ∀ base : Heap, K.In base → base.Ns mainGlobals mg → FnOk P w K mg base CX k fa fd [x] sp) (hbind : ∀ (s : Shared) (u : Value), BindsTo s fd ⟨[u], []⟩ [(x, u)])
    (hsp : ∀ H : Hp, Only H → SqL K H a (ns.map V.int) → sp [.ref a] H (fun v _ => v = .bl true) fun _ _ _ => False)
    (hCX : ∀ H e s', CX [] H s₁ (fun _ _ _ => False) e s' → False) :
    codeAny (model P w) callerA (.call (.ref fa) ⟨[.ref a], []⟩) (fun r s' => r = .ok (.ret (.bool true)) ∧ OldK s₁.heap s'.heap ∧ s'.os = s₁.os ∧ AllBare s'.gens) s₁ := by
  have rv := vals_ints hi
  have lenV := hi.length
  -- from an abstract heap in which nothing but the script may be tracked
  have core : ∀ H : Hp, Only H → SqL K H a (ns.map V.int) → HOk P w H s₁.heap → (∀ b, H b ≠ none → b = a) → (H a ≠ none → K.lookup a = none) →
      codeAny (model P w) callerA (.call (.ref fa) ⟨[.ref a], []⟩) (fun r s' => r = .ok (.ret (.bool true)) ∧ OldK s₁.heap s'.heap ∧ s'.os = s₁.os ∧ AllBare s'.gens) s₁ := by
    intro H hO hS hok hA hK
    have base_of : ∀ {b : Addr} {o : Obj}, s₁.heap.get? b = some o → H b = none → (hidT s₁.heap H).get? b = some o := fun e n => hidT_get e n
    have noA : ∀ {b : Addr} {o : Obj} {es : Array DictEntry} {ep : Nat}, s₁.heap.get? b = some o → o.data = .dict es ep → H b = none := fun {b o es ep} e d => by
      cases q : H b with
      | none => rfl
      | some u =>
        have e' : b = a := hA b (by rw [q]; simp)
        subst e'
        rw [ha] at e; cases e
        have d' : Data.seq vs.toArray _ = Data.dict es ep := d
        cases d'
    have nsK : ∀ {b : Addr} {m : Str → Option Value}, s₁.heap.Ns b m → (hidT s₁.heap H).Ns b m := fun {b m} ⟨o, es, ep, e, d, r⟩ => ⟨o, es, ep, base_of e (noA e d), d, r⟩
    have hKb : K.In (hidT s₁.heap H) := fun b o e => base_of (KX b o e) (by
      cases q : H b with
      | none => rfl
      | some u =>
        have e' : b = a := hA b (by rw [q]; simp)
        subst e'
        rw [hK (by rw [q]; simp)] at e; cases e)
    have hM : Mod K mg (hidT s₁.heap H) := ⟨hKb, nsK hns, ⟨mb, nsK hb, hbb⟩, let ⟨mc, h1, h2⟩ := hlim; ⟨mc, nsK h1, h2⟩⟩
    have e0 : Env0 P w K mg (hidT s₁.heap H) callerA [] s₁ H := ⟨rfl, hM, fun b o e => of_hidT e, Nat.le_of_eq (hidT_size _ _), trivial, fun b hb => absurd (show b ∈ ([] : List Addr) from hb) (by simp), hok, .of_eq hg⟩
    refine codeAny_mono ((F _ hKb (nsK hns)).run callerA [] s₁ H ⟨[.ref a], []⟩ [.ref a] [.ref a] _ _ hr e0 (hbind s₁ (.ref a)) (.cons rfl .nil) (hsp H hO hS)) fun r s' h => ?_
    cases r with
    | error e => exact (hCX H e s' h).elim
    | ok fl =>
      cases fl with
      | next => exact False.elim h
      | brk => exact False.elim h
      | cont => exact False.elim h
      | ret u =>
        obtain ⟨v, H', os, bare, un, hok', r', q⟩ := h
        have q' : v = .bl true := q
        subst q'
        obtain rfl : u = Value.bool true := r'
        refine ⟨rfl, OldK.of_keep fun b o e => ?_, os, bare⟩
        cases q : H b with
        | none => exact un.keep b o e q (by intro z; exact absurd (show b ∈ ([] : List Addr) from z) (by simp)) (by simp)
        | some u =>
          rcases hO b with z | ⟨ob, xs, z⟩
          · rw [q] at z; cases z
          · have z2 := un.frzs b ob _ z
            obtain ⟨e1, _⟩ := hok b _ z
            obtain ⟨e2, _⟩ := hok' b _ z2
            rw [e] at e1; cases e1
            exact e2
  cases hk : K.lookup a with
  | some o =>
    -- the script is one of the module's own objects
    have e := KX a o hk
    rw [ha] at e
    cases e
    refine core (fun _ => none) (fun _ => .inl rfl) (.inr ⟨_, vs.toArray, _, hk, rfl, rfl, rfl, by rw [List.size_toArray, lenV]; exact hl, by simpa using rv⟩) (fun b u z => by have z' : (none : Option HO) = some u := z; cases z') (fun b z => absurd rfl z) fun z => absurd rfl z
  | none =>
    refine core (fun b => if b = a then some (.frz { cls := .type "list", data := .seq vs.toArray } (.lst (ns.map V.int))) else none) (fun b => ?_) (.inl (.inr ⟨{ cls := .type "list", data := .seq vs.toArray }, if_pos rfl⟩)) (fun b u z => ?_) (fun b z => ?_) fun _ => hk
    · by_cases hb : b = a
      · exact .inr ⟨_, _, if_pos hb⟩
      · exact .inl (if_neg hb)
    · by_cases hb : b = a
      · have z' := (if_pos hb).symm.trans z
        cases z'
        subst hb
        exact ⟨ha, by rw [List.length_map]; exact hl, vs, _, rv, ha⟩
      · have z' := (if_neg hb).symm.trans z
        cases z'
    · by_cases hb : b = a
      · exact hb
      · exact absurd (if_neg hb) z
end L2

namespace L2
open PySem PySem.Spec PyProof.Rows


/-- the goal that k_head leaves (case hc), from the law's promise. F gives the function object fd (K's own) once, then the promise over every base -/
theorem walk_of {l : PySem.W.OpenLaw} {n k : Nat} {q : Program} {loose : List Str} {XP : (Str → Option Value) → Heap → Prop} {YP : World → Heap → Prop} {d : DefRec} {K : Params → PySem.W.Frag} {CX : World → CXT} {sp : World → Sp} {x : Str}
    (hn : l.most = some n) (hn2 : n ≤ sizeLine) (hdf : d.params.defaults = []) (hr : Room k callerA)
    (hY : ∀ (w : World) (h : Heap), YP w h → (K w.params).In h)
    (F : ∀ (w : World) (mg : Str → Option Value) (fa : Addr) (h : Heap), (K w.params).In h → h.Ns mainGlobals mg → mg d.name = some (.ref fa) →
      ∃ fd : FuncData, (∀ (s : Shared) (u : Value), BindsTo s fd ⟨[u], []⟩ [(x, u)]) ∧
        ∀ base : Heap, (K w.params).In base → base.Ns mainGlobals mg → FnOk l.prog w (K w.params) mg base (CX w) k fa fd [x] (sp w))
    (hsp : ∀ (w : World) (H : Hp) (a : Addr) (ns : List Int), ns.length ≤ n → Only H → SqL (K w.params) H a (ns.map V.int) → sp w [.ref a] H (fun v _ => v = .bl true) fun _ _ _ => False)
    (hCX : ∀ (w : World) (H : Hp) (s : Shared) (e : Value) (s' : Shared), CX w [] H s (fun _ _ _ => False) e s' → False) :
    PySem.W.WalkO q loose XP YP l.row.toRowW d [] (fun f vs => PySem.call f vs) := by
  refine Att.attach_call hn hdf fun w s₀ s₁ mg mb fa o pm cd doc a vs ns G Y ho hd hcd hmg hobj hints hlen hg => ?_
  have KX := hY w _ Y
  obtain ⟨fd, hb, hF⟩ := F w mg fa _ KX G.T.g hmg
  exact law_call KX G.T.g G.T.b G.T.builtins G.T.nolimit hg hobj hints (Nat.le_trans hlen hn2) hr hF hb (fun H hO hS => hsp w H a ns hlen hO hS) fun H e s' => hCX w H s₁ e s'
end L2

/- THE LAST THEOREM (shape; LID, My.* are yours):
   My.Adr: a structure of the addresses that your layer names (classes, functions); My.Txt K t: a structure (Prop) of the equations over K;
   My.txt_mk : {K} {implicit addresses ..} (e1 : nsIn K mainGlobals "law" = some (some (.ref f))) (e2 : K.lookup f = some ⟨oc, od, .func (fnOf "law" "law" params body scope dV kV doc pm an cdv ct), sl⟩) (e3 : codeIn K cdv "law" = true) .. : ∃ t, My.Txt K t

set_option maxRecDepth 100000 in
set_option maxHeartbeats 0 in
theorem PySem.Challenge.cw_LID_holds : PySem.Challenge.rw_LID.Holds := by
  w_on; o_law; k_head; (case hw => w_witness2)
  k_fill
  refine L2.walk_of (l := PySem.Challenge.rw_LID) (n := 63) (k := 40) (x := "script") (CX := fun w => ..) (sp := fun _ => My.sp_law) rfl (by decide) rfl ⟨rfl, by decide, by decide⟩ (fun w h Y => PySem.W.kIn_of Y) ?F ?S ?C
  case F =>
    intro w mg fa h KX G hmg
    have T : ∃ t, My.Txt (L2.KOf KX) t := by
      dsimp only [L2.KOf]                          -- K must stand as «<heap const> w.params» for k_is
      refine' My.txt_mk ?e1 ?e2 ?e3 ..
      (case e1 => PySem.W.k_is)                    -- in the order: a name -> its address -> its object -> its parts
      (case e2 => PySem.W.k_is)
      ..
    obtain ⟨t, T⟩ := T
    have e0 := hmg.symm.trans (PySem.W.mg_of KX G T.law)
    cases e0                                       -- fa is the law's own address
    exact ⟨_, fun s u => .of_eq rfl, fun base kb nb => My.law_fn T kb nb⟩     -- if «.of_eq rfl» comes too early: refine' ⟨_, ?b, fun base kb nb => My.law_fn T kb nb⟩; exact fun s u => .of_eq rfl
  case S => exact fun w H a ns hl hO hS => ..
  case C => exact ..
(the tactic k_is has no namespace: write k_is) -/

/-! SHORT WORDS over the layer: a def of the text, its body, what a loop and a test want. -/
namespace L2
open PySem PySem.Spec PyProof.Rows

/-! ### the text by places -/
def defArgs (s : Stmt) : Arguments := match s with
  | .FunctionDef _ a _ _ _ _ _ _ _ _ => a
  | _ => { posonlyargs := [], args := [], vararg := none, kwonlyargs := [], kw_defaults := [], kwarg := none, defaults := [] }
def defBody (s : Stmt) : List Stmt := match s with
  | .FunctionDef _ _ b _ _ _ _ _ _ _ => b
  | _ => []
def defScope (s : Stmt) : Scope := match s with
  | .FunctionDef _ _ _ _ _ _ sc _ _ _ => sc
  | _ => { kind := .function, names := [], isGenerator := false, isCoroutine := false }

/-! ### no exception leaves a def -/
abbrev CX0 : CXT := fun _ _ _ _ _ _ => False
abbrev E0 : XK := fun _ _ _ => False
theorem pass0 {X : Cx} : Passes CX0 X E0 := fun _ _ _ _ _ _ _ h => h.elim

/-! ### a def (or method) of the text as it stands behind the top -/
structure Fun (K : PySem.W.Frag) (x qual : Str) (st : Stmt) (f : Addr) (fd : FuncData) : Prop where
  ex : ∃ (oc : Value) (od : Option Addr) (kV doc pm : Value) (an : Option Addr) (cdv ct : Value) (osl : Array (Option Value)),
    fd = PySem.W.fnOf x qual (defArgs st) (defBody st) (defScope st) .none kV doc pm an cdv ct ∧ K.lookup f = some ⟨oc, od, .func fd, osl⟩ ∧ PySem.W.codeIn K cdv qual = true
  kp : PySem.W.keepIn K (.ref f) = true
section
variable {P : Program} {w : World} {K : PySem.W.Frag} {mg : Str → Option Value} {base : Heap}
/-- THE RULE for a def: its body as a term of rules, and the reading of that term -/
theorem Fun.ok {x qual : Str} {st : Stmt} {f : Addr} {fd : FuncData} {N ps : List Str} {k : Nat} {sp : Sp} (F : Fun K x qual st f fd) (S : FnScope N ps (defScope st)) (len : ∀ vs H Q E, sp vs H Q E → vs.length = ps.length)
    (hbody : ∀ (cdv : Value) (A : Around) (outer : List Env) (s : Shared) (H : Hp) (vs : List V) (Q : VK) (E : XK), Room k (A.deeper (envOfC qual (defScope st) s.heap.objs.size f cdv)) → sp vs H Q E →
      ∃ t, PSs (cxOf CX0 P w K mg base N qual (defScope st) f cdv A outer s H E).nox (defBody st) t ∧ t { nx := fun _ H' => Q .non H', rt := Q } (start N vs) H) : FnOk P w K mg base CX0 (k + 1) f fd ps sp := by
  obtain ⟨oc, od, kV, doc, pm, an, cdv, ct, osl, rfl, lk, hcd⟩ := F.ex
  refine fn_of lk hcd S len fun A outer s H vs Q E hr hsp => ?_
  obtain ⟨t, h, q⟩ := hbody cdv A outer s H vs Q E hr hsp
  exact ⟨t, h.nox, q⟩
/-- how its arguments bind (no defaults): h is «fun _ _ _ _ _ _ us hl => match us, hl with | [_, _], _ => rfl», one _ a parameter -/
theorem Fun.binds {x qual : Str} {st : Stmt} {f : Addr} {fd : FuncData} {ps : List Str} (F : Fun K x qual st f fd)
    (h : ∀ (kV doc pm : Value) (an : Option Addr) (cdv ct : Value) (us : List Value), us.length = ps.length → bindArgs (PySem.W.fnOf x qual (defArgs st) (defBody st) (defScope st) .none kV doc pm an cdv ct) ⟨us, []⟩ = pure (ps.zip us)) : Binds K fd ps [] := by
  obtain ⟨oc, od, kV, doc, pm, an, cdv, ct, osl, rfl, lk, hcd⟩ := F.ex
  exact .all (h kV doc pm an cdv ct)
theorem fun_mk {x qual : Str} {st : Stmt} {f : Addr} {oc : Value} {od an : Option Addr} {osl : Array (Option Value)} {kV doc pm cdv ct : Value} (l : K.lookup f = some ⟨oc, od, .func (PySem.W.fnOf x qual (defArgs st) (defBody st) (defScope st) .none kV doc pm an cdv ct), osl⟩)
    (c : PySem.W.codeIn K cdv qual = true) (k : PySem.W.keepIn K (.ref f) = true) : Fun K x qual st f (PySem.W.fnOf x qual (defArgs st) (defBody st) (defScope st) .none kV doc pm an cdv ct) := ⟨⟨oc, od, kV, doc, pm, an, cdv, ct, osl, rfl, l, c⟩, k⟩
end

/-! ### expressions in short: the name that stands in the i-th slot -/
section
variable {X : Cx}
theorem pv (i : Nat) {x : Str} {pos : Pos} (hN : X.N[i]? = some x := by rfl) (hv : Vis X.env.scope x := by first | exact Or.inl rfl | exact Or.inr (Or.inl rfl) | exact Or.inr (Or.inr rfl)) (hd : (x == ("__debug__" : Str)) = false := by decide)
    (hcd : (x == ("__classdict__" : Str)) = false := by decide) : PE X (.Name x pos) (tVar i) := pe_var hN hv hd hcd
end

/-! ### tests -/
theorem iteF {A B : Prop} (h : B) : if false = true then A else B := by
  rw [if_neg Bool.false_ne_true]
  exact h
theorem iteT {A B : Prop} (h : A) : if true = true then A else B := by
  rw [if_pos rfl]
  exact h
theorem ite2 {c A B : Prop} [Decidable c] (h1 : c → A) (h2 : ¬ c → B) : if c then A else B := by
  by_cases h : c
  · rw [if_pos h]
    exact h1 h
  · rw [if_neg h]
    exact h2 h

/-! ### heaps -/
/-- all that was tracked is as it was -/
def Same (H H' : Hp) : Prop := ∀ b o, H b = some o → H' b = some o
theorem Same.refl (H : Hp) : Same H H := fun _ _ h => h
theorem Same.trans {H H1 H2 : Hp} (a : Same H H1) (b : Same H1 H2) : Same H H2 := fun c o h => b c o (a c o h)
theorem Same.free {H H' : Hp} (e : Same H H') {l : Addr} (h : H' l = Option.none) : H l = Option.none := by
  cases q : H l with
  | none => rfl
  | some o =>
    rw [e l o q] at h
    cases h
theorem Same.seq {K : PySem.W.Frag} {H H' : Hp} {a : Addr} {xs : List V} (e : Same H H') (h : SqL K H a xs) : SqL K H' a xs := by
  rcases h with (h | ⟨o, h⟩) | h
  · exact .inl (.inl (e _ _ h))
  · exact .inl (.inr ⟨o, e _ _ h⟩)
  · exact .inr h

end L2
set_option maxHeartbeats 4000000

/-! ## trees, apart from any heap -/
namespace Sw
namespace All2
variable {α β : Type} {R S : α → β → Prop}
end All2
/-- a tree -/
inductive T where
  | node (ts : List T)

namespace T
def kids : T → List T | .node ts => ts
mutual
def parts : T → Nat | .node ts => 1 + partsL ts
def partsL : List T → Nat
  | [] => 0
  | t :: ts => parts t + partsL ts
end
mutual
def deep : T → Nat | .node ts => deepL ts
/-- one more than the deepest of them; 0 of none -/
def deepL : List T → Nat
  | [] => 0
  | t :: ts => max (deep t + 1) (deepL ts)
end
mutual
def beq : T → T → Bool | .node ts, .node us => beqL ts us
def beqL : List T → List T → Bool
  | [], [] => true
  | t :: ts, u :: us => beq t u && beqL ts us
  | _, _ => false
end
mutual
theorem beq_iff : ∀ t u : T, beq t u = true ↔ t = u
  | .node ts, .node us => by
    unfold beq
    rw [beqL_iff ts us]
    exact ⟨fun h => by rw [h], fun h => by injection h⟩
theorem beqL_iff : ∀ ts us : List T, beqL ts us = true ↔ ts = us
  | [], [] => by simp [beqL]
  | [], _ :: _ => by simp [beqL]
  | _ :: _, [] => by simp [beqL]
  | t :: ts, u :: us => by
    unfold beqL
    rw [Bool.and_eq_true, beq_iff t u, beqL_iff ts us]
    simp
end
theorem beq_self (t : T) : beq t t = true := (beq_iff t t).mpr rfl
instance : DecidableEq T := fun t u => if h : beq t u = true then isTrue ((beq_iff t u).mp h) else isFalse fun e => h ((beq_iff t u).mpr e)

theorem parts_node (ts : List T) : (T.node ts).parts = 1 + partsL ts := by unfold parts; rfl
theorem deep_node (ts : List T) : (T.node ts).deep = deepL ts := by unfold deep; rfl
theorem partsL_nil : partsL [] = 0 := by unfold partsL; rfl
theorem partsL_cons (t : T) (ts : List T) : partsL (t :: ts) = t.parts + partsL ts := by rw [partsL]
theorem deepL_nil : deepL [] = 0 := by unfold deepL; rfl
theorem deepL_cons (t : T) (ts : List T) : deepL (t :: ts) = max (t.deep + 1) (deepL ts) := by rw [deepL]
theorem parts_pos (t : T) : 1 ≤ t.parts := by cases t; rw [parts_node]; omega
theorem parts_kids (t : T) : t.parts = 1 + partsL t.kids := by cases t; rw [parts_node]; rfl
theorem deep_kids (t : T) : t.deep = deepL t.kids := by cases t; rw [deep_node]; rfl

theorem partsL_append : ∀ a b : List T, partsL (a ++ b) = partsL a + partsL b
  | [], b => by rw [partsL_nil, List.nil_append]; omega
  | t :: a, b => by rw [List.cons_append, partsL_cons, partsL_cons, partsL_append a b]; omega
theorem deepL_append : ∀ a b : List T, deepL (a ++ b) = max (deepL a) (deepL b)
  | [], b => by rw [deepL_nil, List.nil_append]; omega
  | t :: a, b => by rw [List.cons_append, deepL_cons, deepL_cons, deepL_append a b]; omega
theorem len_le_parts : ∀ ts : List T, ts.length ≤ partsL ts
  | [] => by simp
  | t :: ts => by
    have h1 := parts_pos t
    have h2 := len_le_parts ts
    rw [partsL_cons, List.length_cons]
    omega
theorem partsL_le_of {B : Nat} : ∀ {ts : List T}, (∀ t ∈ ts, t.parts ≤ B) → partsL ts ≤ ts.length * B
  | [], _ => by rw [partsL_nil]; omega
  | t :: ts, h => by
    have h1 := h t List.mem_cons_self
    have h2 := partsL_le_of fun u hu => h u (List.mem_cons_of_mem _ hu)
    rw [partsL_cons, List.length_cons, Nat.succ_mul]
    omega
theorem deepL_le_of {B : Nat} : ∀ {ts : List T}, (∀ t ∈ ts, t.deep + 1 ≤ B) → deepL ts ≤ B
  | [], _ => by rw [deepL_nil]; omega
  | t :: ts, h => by
    have h1 := h t List.mem_cons_self
    have h2 := deepL_le_of fun u hu => h u (List.mem_cons_of_mem _ hu)
    rw [deepL_cons]
    omega
theorem mem_parts : ∀ {ts : List T} {t : T}, t ∈ ts → t.parts ≤ partsL ts
  | _ :: ts, t, h => by
    rw [partsL_cons]
    rcases List.mem_cons.mp h with rfl | h
    · omega
    · have := mem_parts h
      omega
theorem mem_deep : ∀ {ts : List T} {t : T}, t ∈ ts → t.deep + 1 ≤ deepL ts
  | _ :: ts, t, h => by
    rw [deepL_cons]
    rcases List.mem_cons.mp h with rfl | h
    · omega
    · have := mem_deep h
      omega
end T
end Sw

/-! ## more rules over the layer: comprehensions, whole slices, sums, greatest, extend by a tuple, isinstance -/
namespace Sw
open PySem PySem.Spec PyProof.Rows L2

abbrev Sg := List (Option V)
/-! ### a comprehension -/
/-- where a comprehension's block runs -/
def blk (X : Cx) (scope : Scope) (cl : List (Str × Addr)) (C : Addr) (N : List Str) (s : Shared) (H : Hp) (fp : List Addr) (pins : List (Addr × Obj)) : Cx :=
  { X with N := N, s₀ := s, H₀ := H, env := compEnvC scope cl C X.env, outer := X.stack, ex := fp, fn := fun _ => false, calm := true, pn := X.pn ++ pins, xe := fun _ _ => False }

/-- the names of the block that the def around has as cells: y stands in slot j there -/
def FrOk (X : Cx) (scope : Scope) : List Str → List Nat → Prop
  | [], [] => True
  | y :: fr, j :: js => (X.N[j]? = some y ∧ X.env.scope.names.lookup y = some .cell ∧ (relabel scope X.env).names.lookup y = some .cell) ∧ FrOk X scope fr js
  | _, _ => False
theorem FrOk.len {X : Cx} {scope : Scope} : ∀ {fr : List Str} {js : List Nat}, FrOk X scope fr js → fr.length = js.length
  | [], [], _ => rfl
  | _ :: _, _ :: _, h => congrArg (· + 1) (FrOk.len h.2)
theorem FrOk.get {X : Cx} {scope : Scope} : ∀ {fr : List Str} {js : List Nat}, FrOk X scope fr js → ∀ {i : Nat} {y : Str}, fr[i]? = some y →
    ∃ j : Nat, js[i]? = some j ∧ X.N[j]? = some y ∧ X.env.scope.names.lookup y = some .cell ∧ (relabel scope X.env).names.lookup y = some .cell
  | [], [], _, i, y, e => by simp at e
  | z :: fr, j :: js, h, 0, y, e => by
    have e' : z = y := by simpa using e
    subst e'
    exact ⟨j, rfl, h.1⟩
  | z :: fr, j :: js, h, i + 1, y, e => by
    obtain ⟨k, h1, h2⟩ := FrOk.get h.2 (i := i) (y := y) (by simpa using e)
    exact ⟨k, by simpa using h1, h2⟩

/-- what the block's scope must be -/
structure LcOk (X : Cx) (scope : Scope) (x : Str) (fr : List Str) (js : List Nat) (cl : List (Str × Addr)) : Prop where
  kind : scope.kind = .function
  clos : closureFor scope X.env = pure cl
  cell : ∀ y ∈ scope.names, y.2 ≠ .cell
  loc : ∀ y ∈ scope.names, y.2 = .local → scope.names.lookup y.1 = some .local
  var : scope.names.lookup x = some .local
  sub : ∀ y c, cl.lookup y = some c → X.env.cells.lookup y = some c
  has : ∀ y, ((relabel scope X.env).names.lookup y = some .cell ∨ (relabel scope X.env).names.lookup y = some .free) → ∃ c, cl.lookup y = some c
  frk : FrOk X scope fr js
  nd : (x :: fr).Nodup

section
variable {X : Cx} {pins : List (Addr × Obj)} {σ : Sg} {H : Hp} {s : Shared} {scope : Scope} {cl : List (Str × Addr)} {x : Str} {fr : List Str} {js : List Nat} {fp : List Addr}

theorem blk_ok {N : List Str} (I : Inv X pins σ H s) (L : LcOk X scope x fr js cl) (hc : X.calm = true) (hfp : ∀ b ∈ fp, FpOk X pins H b) (hsz : ∀ b ∈ fp, b < s.heap.objs.size) :
    (blk X scope cl s.heap.objs.size N s H fp pins).Ok where
  mod := I.ok.mod
  kind := L.kind
  glob := I.ok.glob
  blt := I.ok.blt
  above := Nat.le_refl _
  inj := fun y z c h1 h2 => I.ok.inj y z c (L.sub y c h1) (L.sub z c h2)
  has := fun y hy => L.has y hy
  cab := fun y c h _ => absurd (show false = true from h) Bool.false_ne_true
  hd := fun _ => I.ok.hd hc
  frames := I.ok.frames
  stk := .inl rfl
  exf := fun b hb => ⟨Nat.ne_of_lt (hsz b hb), fun y c h => (hfp b hb).2.2.2.2.1 y c (L.sub y c h)⟩
  bs := I.bs
  bsz := Nat.le_trans I.ok.bsz I.sz
  noex := fun b o e hb => by
    rcases (hfp b hb).2.2.2.1 with z | z
    · exact I.ok.noex b o e z
    · exact absurd (Nat.lt_of_lt_of_le (Nat.lt_of_lt_of_le (Heap.lt_size e) I.ok.bsz) z) (Nat.lt_irrefl _)
  exfs := fun b hb z => by
    rcases List.mem_cons.mp (I.stkSub b z) with e | e
    · exact (hfp b hb).2.1 e
    · exact (hfp b hb).2.2.1 e
  funs := I.stack
  frf := I.stkFree

/-- the values of the names from around -/
def frv (σ : Sg) (js : List Nat) : Sg := js.map fun j => (σ[j]?).getD none

theorem blk_inv {h1 : Heap} {m1 : Str → Option Value} {tk : Nat} (I : Inv X pins σ H s) (L : LcOk X scope x fr js cl) (hc : X.calm = true) (hfp : ∀ b ∈ fp, FpOk X pins H b) (hsz : ∀ b ∈ fp, b < s.heap.objs.size)
    (hn : h1.Ns s.heap.objs.size m1) (hk : ∀ b o, s.heap.get? b = some o → h1.get? b = some o) :
    Inv (blk X scope cl s.heap.objs.size (x :: fr) s H fp pins) [] (none :: frv σ js) H { s with heap := h1, toks := tk } := by
  refine ⟨blk_ok I L hc hfp hsz, rfl, I.bare, Un.kept hk, ⟨m1, hn, fun i y v e1 e2 _ => ?_⟩, fun y c e => ?_, I.hok.fresh (Nat.le_refl _), fun y c e => I.freeC y c (L.sub y c e), fun p hp => ?_, I.hok.kept hk, ?_⟩
  · cases i with
    | zero => exact absurd e2 (by simp)
    | succ i =>
      have e1' : fr[i]? = some y := by simpa [blk] using e1
      obtain ⟨j, hj, hN, hcell, hrel⟩ := L.frk.get e1'
      have e2' : σ[j]? = some (some v) := by
        have q : (frv σ js)[i]? = some (some v) := by simpa using e2
        unfold frv at q
        rw [List.getElem?_map, hj] at q
        have q' : (σ[j]?).getD none = some v := by simpa using q
        cases hs : σ[j]? with
        | none => rw [hs] at q'; cases q'
        | some o => rw [hs] at q'; exact congrArg some q'
      obtain ⟨m, _, hl⟩ := I.loc
      obtain ⟨u, r, lk⟩ := hl j y v hN e2' (.inr (.inl hcell))
      refine ⟨u, r, .inr ⟨.inl hrel, ?_⟩⟩
      rcases lk with ⟨hloc, _⟩ | ⟨_, c, hc1, hc2⟩
      · have : X.env.scope.names.lookup y = some .local := hloc
        rw [hcell] at this; cases this
      · obtain ⟨c', hc'⟩ := L.has y (.inl hrel)
        have e3 := L.sub y c' hc'
        rw [hc1] at e3; cases e3
        exact ⟨c, hc', hc2.keeps hk⟩
  · obtain ⟨v, hv⟩ := I.cell y c (L.sub y c e)
    exact ⟨v, hv.keeps hk⟩
  · have hp' : p ∈ X.pn ++ pins := by simpa [blk] using hp
    obtain ⟨a1, a2, a3, a4, a5⟩ := I.pin p hp'
    refine ⟨hk _ _ a1, a2, Nat.ne_of_lt (Heap.lt_size a1), fun z => ?_, a5⟩
    rcases List.mem_cons.mp (I.stkSub _ z) with e | e
    · exact a3 e
    · exact a4 e
  · show (none :: frv σ js).length = (x :: fr).length
    simp [frv, L.frk.len]

/-- back from the block -/
theorem blk_back {H' : Hp} {s' : Shared} {h' : Heap} {σ' : Sg} {N : List Str} {pins' : List (Addr × Obj)} (I : Inv X pins σ H s) (J : Inv (blk X scope cl s.heap.objs.size N s H fp pins) pins' σ' H' s') (hfp : ∀ b ∈ fp, FpOk X pins H b)
    (hsb : Heap.SameBut s.heap.objs.size s'.heap h') : Inv X pins σ H' { s' with heap := h' } := by
  have hos : s'.os = s.os := J.os
  have nC : H' s.heap.objs.size = none := J.free
  have kp : ∀ b, b ≠ s.heap.objs.size → h'.get? b = s'.heap.get? b := hsb.2
  have low : ∀ b o, s.heap.get? b = some o → b ≠ s.heap.objs.size := fun b o e => Nat.ne_of_lt (Heap.lt_size e)
  have u : Un (frs X.stack) fp H H' s.heap h' := by
    have u0 : Un (frs X.stack) fp H H' s.heap s'.heap := J.base
    exact ⟨fun b o e n h1 h2 => (kp b (low b o e)).trans (u0.keep b o e n h1 h2), fun b o e n h1 h2 => by
        obtain ⟨sl, q⟩ := u0.slot b o e n h1 h2
        exact ⟨sl, (kp b (low b o e)).trans q⟩, u0.free, fun b o e h1 => by
        obtain ⟨o', q⟩ := u0.there b o e h1
        exact ⟨o', (kp b (low b o e)).trans q⟩, u0.tups, u0.frzs, u0.tbls⟩
  have hok : HOk X.prog X.w H' h' := fun b o e => by
    refine (J.hok b o e).stay (fun c v hc q => (kp c ?_).trans q) (fun _ q => q) fun _ _ q => q
    rcases hc with z | z
    · rw [z]; intro z'; rw [z', nC] at e; cases e
    · intro z'; rw [z', nC] at z; cases z
  have q := I.call (g' := s'.gens) (t' := s'.toks) (d' := s'.drawn) u hok J.bare fun b hb => ⟨(hfp b hb).2.2.2.1, (hfp b hb).2.1, (hfp b hb).2.2.2.2.1, (hfp b hb).2.2.2.2.2⟩
  obtain ⟨hp, g, d, tk, os⟩ := s'
  have : os = s.os := hos
  subst this
  exact q
end

/-- a comprehension over a new list at D, turn by turn -/
def LcRun (J : It) (js : List Nat) (te : TE) (σ : Sg) (Q : VK) (H1 : Hp) : Prop := ∀ D, H1 D = none →
  ∃ W : Nat → Nat → List V → Hp → Prop, (∃ m, W 0 m [] (upd H1 D (.lst []))) ∧ ∀ i m ys H', W i m ys H' → H' D = some (.lst ys) ∧
    ((J.stop i H' ∧ Q (.ref D) H') ∨ (J.go i H' ∧ ∀ x H2, J.yld i H' x H2 → te (some x :: frv σ js) H2 fun y H3 => H3 D = some (.lst ys) ∧ ys.length < sizeLine ∧
      ∃ m', m' < m ∧ W (i + 1) m' (ys ++ [y]) (upd H3 D (.lst (ys ++ [y])))))
/-- the reading of a comprehension -/
def tLC (wi : TI) (js : List Nat) (te : TE) : TE := fun σ H Q => wi σ H fun J H1 => LcRun J js te σ Q H1

section
variable {X : Cx} {scope : Scope} {cl : List (Str × Addr)} {x : Str} {fr : List Str} {js : List Nat} {elt iter : Expr} {px pos : Pos} {wi : TI} {te : TE}

/-- one turn of a list comprehension without tests, whatever the target -/
theorem lc_loop {prog : Program} {w : World} {A : Around} {R : Result → Shared → Prop} {s : Shared} {tg : Expr} {it acc : Value} {env : Env} (Iv : Nat → Shared → Prop)
    (turn : ∀ n s, Iv n s → wpAny (model prog w) A (pyNext it) (fun r s1 => match r with
      | none => R (.ok .next) s1
      | some v => wpAny (model prog w) A (letOwnedTupleGo tg it v) (fun _ s2 => wpAny (model prog w) A (assign tg env v) (fun _ s3 => wpAny (model prog w) A (eval elt env) (fun y s4 =>
          wpAny (model prog w) A (call (.builtin "list.append") [acc, y]) (fun _ s5 => ∃ m, m < n ∧ Iv m s5) (fun _ _ => False) s4) (fun _ _ => False) s3) (fun _ _ => False) s2) (fun _ _ => False) s1) (fun _ _ => False) s)
    (n : Nat) (h : Iv n s) : codeAny (model prog w) A (.compLoop (.ListComp elt [⟨tg, iter, [], 0⟩] scope pos) 0 it acc env) R s := by
  refine codeAny_loop rfl Iv (fun n s hI => ?_) n h
  refine wpAny_noted ?_
  rw [compTurn_list1]
  refine wpAny_bind (wpAny_standAt (wpAny_bind (wpAny_mono (turn n s hI) (fun r s1 h1 => ?_) fun _ _ z => z.elim)))
  cases r with
  | none => exact wpAny_pure h1
  | some v =>
    refine wpAny_bind (wpAny_mono h1 (fun _ s2 h2 => ?_) fun _ _ z => z.elim)
    refine wpAny_bind (wpAny_mono h2 (fun _ s3 h3 => ?_) fun _ _ z => z.elim)
    refine wpAny_bind (wpAny_bind (wpAny_mono h3 (fun y s4 h4 => ?_) fun _ _ z => z.elim))
    refine wpAny_bind (wpAny_mono h4 (fun _ s5 h5 => ?_) fun _ _ z => z.elim)
    exact wpAny_pure (wpAny_pure ⟨rfl, h5⟩)

theorem pe_lc (hc : X.calm = true) (L : LcOk X scope x fr js cl) (hi : PI X (.Name x px) iter wi)
    (he : ∀ C s H fp pins, PE (blk X scope cl C (x :: fr) s H fp pins) elt te)
    (hs : ∀ v, foldedSetIterable iter X.env v = pure v := by intro _; rfl) :
    PE X (.ListComp elt [⟨.Name x px, iter, [], 0⟩] scope pos) (tLC wi js te) := by
  intro pins s σ H Q I h
  rw [eval_ListComp]
  refine wpAny_comprehension_free (use := none) rfl hs L.clos L.kind L.loc (thn (hi pins s σ H _ I h) fun v s1 h1 => thn h1 fun itv s2 h2 => ?_)
  obtain ⟨it, fp, tn, J, H2, e, I2, T, st2, f2, rd⟩ := h2
  subst e
  obtain ⟨W, ⟨m0, w0⟩, turn⟩ := rd _ I2.fresh
  have I3 := I2.lnew (ys := []) (its := []) (t' := s2.toks) .nil (Nat.zero_le _)
  refine wpAny_newObj_type ?_
  have fsz2 : ∀ b ∈ fp, b < s2.heap.objs.size := fun b hb => by
    obtain ⟨o, ho, _⟩ := T.obj 0 _ st2 b hb
    exact Heap.lt_size ho
  generalize hs3 : ({ s2 with heap := s2.heap.push { cls := .type "list", dict := none, data := .seq ([] : List Value).toArray } } : Shared) = s3
  have I3' : Inv X pins σ (upd H2 s2.heap.objs.size (.lst [])) s3 := by rw [← hs3]; exact I3
  have sz3 : s3.heap.objs.size = s2.heap.objs.size + 1 := by rw [← hs3]; exact Heap.size_push ..
  have k23 : ∀ b o, s2.heap.get? b = some o → s3.heap.get? b = some o := fun b o e => by rw [← hs3]; exact Heap.get?_push_of_some _ e
  have fsz : ∀ b ∈ fp, b < s3.heap.objs.size := fun b hb => by rw [sz3]; exact Nat.lt_succ_of_lt (fsz2 b hb)
  have f3 : ∀ b ∈ fp, FpOk X pins (upd H2 s2.heap.objs.size (.lst [])) b := fun b hb => ⟨by rw [upd_ne (Nat.ne_of_lt (fsz2 b hb))]; exact (f2 b hb).1, (f2 b hb).2⟩
  refine wpAny_newFunctionEnv L.cell (by intro y hy; simp at hy) (fun h4 hn4 hsb4 => ?_) L.kind
  have k34 : ∀ b o, s3.heap.get? b = some o → h4.get? b = some o := fun b o e => (hsb4.2 b (Nat.ne_of_lt (Heap.lt_size e))).trans (Heap.get?_push_of_some _ e)
  generalize hX' : blk X scope cl s3.heap.objs.size (x :: fr) s3 (upd H2 s2.heap.objs.size (.lst [])) fp pins = X'
  have I4 : Inv X' [] (none :: frv σ js) (upd H2 s2.heap.objs.size (.lst [])) { s3 with heap := h4, toks := s3.toks + ([] : List (Str × Value)).length } := by
    rw [← hX']; exact blk_inv I3' L hc f3 fsz hn4 k34
  have st4 : tn 0 h4 := T.keep _ _ _ st2 fun b _ o e => k34 b o (k23 b o e)
  have he' : PE X' elt te := by rw [← hX']; exact he _ _ _ _ _
  have xp : X'.prog = X.prog := by rw [← hX']; rfl
  have xw : X'.w = X.w := by rw [← hX']; rfl
  have xK : X'.K = X.K := by rw [← hX']; rfl
  have xA : X'.A = X.A := by rw [← hX']; rfl
  have xc : X'.calm = true := by rw [← hX']; rfl
  have xe : X'.xe = fun _ _ => False := by rw [← hX']; rfl
  have xn : X'.N = x :: fr := by rw [← hX']; rfl
  have xv : X'.env = compEnvC scope cl s3.heap.objs.size X.env := by rw [← hX']; rfl
  have xpn : X'.pn = X.pn ++ pins := by rw [← hX']; rfl
  have xex : X'.ex = fp := by rw [← hX']; rfl
  have xfs : X'.fs = frs X.stack := by rw [← hX']; rfl
  have back : ∀ {H' : Hp} {s' : Shared} {h' : Heap} {σ' : Sg}, Inv X' [] σ' H' s' → Heap.SameBut s3.heap.objs.size s'.heap h' → Inv X pins σ H' { s' with heap := h' } := fun {H' s' h' σ'} J' hsb => by
    rw [← hX'] at J'; exact blk_back I3' J' f3 hsb
  have frame : ∀ b ∈ fp, b ∉ frs X.stack := fun b hb z => by
    rcases List.mem_cons.mp (I3'.stkSub b z) with e | e
    · exact (f3 b hb).2.1 e
    · exact (f3 b hb).2.2.1 e
  have stat : ∀ {H' : Hp}, (∀ b ∈ fp, H' b = none) → ∀ b ∈ fp, FpOk X' [] H' b := fun {H'} hn b hb => by
    refine ⟨hn b hb, ?_, ?_, .inl (by rw [xex]; exact hb), ?_, ?_⟩
    · rw [xv]; exact Nat.ne_of_lt (fsz b hb)
    · rw [xfs]; exact frame b hb
    · rw [xv]; exact fun y c e => (f3 b hb).2.2.2.2.1 y c (L.sub y c e)
    · rw [xpn, List.append_nil]; exact (f3 b hb).2.2.2.2.2
  have loop : codeAny (model X.prog X.w) X.A (.compLoop (.ListComp elt [⟨.Name x px, iter, [], 0⟩] scope pos) 0 (.ref it) (.ref s2.heap.objs.size) (compEnvC scope cl s3.heap.objs.size X.env))
      (compPost (model X.prog X.w) X.A X.xe none (EP X pins σ Q) (.ref s2.heap.objs.size) s3.heap.objs.size) { s3 with heap := h4, toks := s3.toks + ([] : List (Str × Value)).length } := by
    refine lc_loop (fun n s' => ∃ i ys o H', Inv X' [] (o :: frv σ js) H' s' ∧ tn i s'.heap ∧ (∀ b ∈ fp, H' b = none) ∧ W i n ys H') ?_ m0 ⟨0, [], none, _, I4, st4, fun b hb => (f3 b hb).1, w0⟩
    rintro n s5 ⟨i, ys, o, H5, I5, st5, fr5, w5⟩
    obtain ⟨hD, hstep⟩ := turn i n ys H5 w5
    rcases hstep with ⟨stop, qn⟩ | ⟨go, step⟩
    · have q := T.done X' xp xw xK xc i [] s5 _ H5 (fun _ _ => False) I5 (stat fr5) st5 stop
      rw [xA] at q
      refine thn q fun r s6 ⟨hr, I6⟩ => ?_
      subst hr
      obtain ⟨m6, hn6, _⟩ := I6.loc
      rw [xv] at hn6
      exact ⟨m6, hn6, fun h' hsb => ⟨.ref s2.heap.objs.size, H5, back I6 hsb, rfl, qn⟩⟩
    · have q := T.item X' xp xw xK xc i [] s5 _ H5 (fun _ _ => False) I5 (stat fr5) st5 go
      rw [xA] at q
      refine thn q fun r s6 ⟨u, hr, h6⟩ => ?_
      subst hr
      refine thn h6 fun _ s7 ⟨xx, H7, I7, r7, y7, st7, fr7⟩ => ?_
      have I7' := I7.pinned (stat fr7) (T.obj _ _ st7)
      have hg : PG X' (.Name x px) (gName 0) := by
        refine pg_name (i := 0) (x := x) (by rw [xn]; exact L.nd) (by rw [xn]; rfl) ?_ ?_
        · rw [xv]; exact .inl (lookup_relabel_local L.var)
        · rw [xv]; exact .inr (lookup_relabel_local L.var)
      have q7 := hg _ s7 _ H7 xx u (fun σ8 H8 => σ8 = some xx :: frv σ js ∧ H8 = H7) I7' r7 ⟨rfl, rfl⟩
      rw [xp, xw, xA, xe, xv] at q7
      refine thn q7 fun _ s8 ⟨σ8, H8, I8, e8, e8'⟩ => ?_
      subst e8 e8'
      have q8 := he' _ s8 _ _ _ I8 (step xx _ y7)
      rw [xp, xw, xA, xe, xv] at q8
      refine thn q8 fun yv s9 ⟨y, H9, I9, r9, d9, z9, m9, hm9, w9⟩ => ?_
      have q9 := mt_append (X := X') _ s9 _ H9 (.ref s2.heap.objs.size) [y] (.ref s2.heap.objs.size) [yv] (fun z H' => H' = upd H9 s2.heap.objs.size (.lst (ys ++ [y]))) I9 rfl (.cons r9 .nil) ⟨_, ys, y, rfl, rfl, d9, z9, rfl⟩
      rw [xp, xw, xA, xe] at q9
      refine thn q9 fun _ s10 ⟨_, H10, I10, _, e10⟩ => ?_
      subst e10
      refine ⟨m9, hm9, i + 1, ys ++ [y], some xx, _, I10.unpinned, T.keep _ _ _ st7 fun b hb ob e => (I10.pin (b, ob) (List.mem_append_right _ (List.mem_append_right _ (mem_pinsAt hb e)))).1, fun b hb => ?_, w9⟩
      obtain ⟨ob, e, _⟩ := T.obj _ _ st7 b hb
      exact (I10.pin (b, ob) (List.mem_append_right _ (List.mem_append_right _ (mem_pinsAt hb e)))).2.1
  exact codeAny_compStart_list loop (T.self _ 0 _ _ _ st4 loop)
end
end Sw

namespace Sw
open PySem PySem.Spec PyProof.Rows L2
/-! ### a block that looks at names from around -/
def clOf (cells : List (Str × Addr)) : List (Str × NameKind) → List (Str × Addr) → List (Str × Addr)
  | [], acc => acc
  | (n, .free) :: r, acc => match cells.lookup n with
    | some c => clOf cells r ((n, c) :: acc)
    | none => clOf cells r acc
  | (_, _) :: r, acc => clOf cells r acc
theorem clOf_skip {cells : List (Str × Addr)} {n : Str} {k : NameKind} {r : List (Str × NameKind)} {acc : List (Str × Addr)} (h : k ≠ .free) : clOf cells ((n, k) :: r) acc = clOf cells r acc := by
  cases k <;> first | rfl | exact absurd rfl h
theorem clOf_free {cells : List (Str × Addr)} {n : Str} {c : Addr} {r : List (Str × NameKind)} {acc : List (Str × Addr)} (h : cells.lookup n = some c) : clOf cells ((n, .free) :: r) acc = clOf cells r ((n, c) :: acc) := by
  rw [clOf, h]
theorem clOf_sub {cells : List (Str × Addr)} : ∀ {names : List (Str × NameKind)} {acc : List (Str × Addr)}, (∀ y ∈ names, y.2 = .free → ∃ c, cells.lookup y.1 = some c) → (∀ y c, acc.lookup y = some c → cells.lookup y = some c) →
    ∀ y c, (clOf cells names acc).lookup y = some c → cells.lookup y = some c
  | [], _, _, h, y, c, e => h y c e
  | (n, k) :: r, acc, hf, h, y, c, e => by
    have hr : ∀ y ∈ r, y.2 = .free → ∃ c, cells.lookup y.1 = some c := fun y hy => hf y (List.mem_cons_of_mem _ hy)
    by_cases hk : k = .free
    · subst hk
      obtain ⟨d, hd⟩ := hf (n, .free) List.mem_cons_self rfl
      rw [clOf_free hd] at e
      refine clOf_sub hr (fun z b hz => ?_) y c e
      rw [List.lookup_cons] at hz
      cases hzn : z == n with
      | true =>
        rw [hzn] at hz
        have : z = n := eq_of_beq hzn
        rw [this, hd]
        exact hz
      | false =>
        rw [hzn] at hz
        exact h z b hz
    · rw [clOf_skip hk] at e
      exact clOf_sub hr h y c e
theorem clOf_has {cells : List (Str × Addr)} : ∀ {names : List (Str × NameKind)} {acc : List (Str × Addr)}, (∀ y ∈ names, y.2 = .free → ∃ c, cells.lookup y.1 = some c) →
    ∀ y : Str, ((y, NameKind.free) ∈ names ∨ ∃ c, acc.lookup y = some c) → ∃ c, (clOf cells names acc).lookup y = some c
  | [], _, _, y, h => by
    rcases h with h | h
    · simp at h
    · exact h
  | (n, k) :: r, acc, hf, y, h => by
    have hr : ∀ y ∈ r, y.2 = .free → ∃ c, cells.lookup y.1 = some c := fun y hy => hf y (List.mem_cons_of_mem _ hy)
    by_cases hk : k = .free
    · subst hk
      obtain ⟨d, hd⟩ := hf (n, .free) List.mem_cons_self rfl
      rw [clOf_free hd]
      refine clOf_has hr y ?_
      by_cases hyn : y = n
      · subst hyn
        exact .inr ⟨d, by simp [List.lookup_cons]⟩
      · rcases h with h | ⟨c, h⟩
        · rcases List.mem_cons.mp h with e | e
          · exact absurd (congrArg Prod.fst e) hyn
          · exact .inl e
        · refine .inr ⟨c, ?_⟩
          rw [List.lookup_cons]
          have : (y == n) = false := by simpa using hyn
          rw [this]
          exact h
    · rw [clOf_skip hk]
      refine clOf_has hr y ?_
      rcases h with h | h
      · rcases List.mem_cons.mp h with e | e
        · exact absurd (congrArg Prod.snd e).symm hk
        · exact .inl e
      · exact .inr h
theorem closure_eq {scope : Scope} {env : Env} (hf : ∀ y ∈ scope.names, y.2 = .free → ∃ c, env.cells.lookup y.1 = some c) : closureFor scope env = pure (clOf env.cells scope.names []) := by
  have key : ∀ (names : List (Str × NameKind)) (acc : List (Str × Addr)), (∀ y ∈ names, y.2 = .free → ∃ c, env.cells.lookup y.1 = some c) →
      (forIn names acc fun (x : Str × NameKind) (cs : List (Str × Addr)) => (match x with | (name, kind) => if (kind == NameKind.free) = true then (cellOf env name >>= fun a => pure (ForInStep.yield ((name, a) :: cs))) else pure (ForInStep.yield cs) : Sem (ForInStep (List (Str × Addr))))) = pure (clOf env.cells names acc) := by
    intro names
    induction names with
    | nil => intro acc _; rfl
    | cons x r ih =>
      intro acc h
      obtain ⟨n, k⟩ := x
      have hr : ∀ y ∈ r, y.2 = .free → ∃ c, env.cells.lookup y.1 = some c := fun y hy => h y (List.mem_cons_of_mem _ hy)
      rw [List.forIn_cons]
      by_cases hk : k = .free
      · subst hk
        obtain ⟨d, hd⟩ := h (n, .free) List.mem_cons_self rfl
        have hc : cellOf env n = pure d := by unfold cellOf; rw [hd]
        rw [clOf_free hd, ← ih _ hr]
        simp only [beq_self_eq_true, if_true, hc, pure_bind]
      · have hb : (k == NameKind.free) = false := by simpa using hk
        rw [clOf_skip hk, ← ih _ hr]
        simp only [hb, Bool.false_eq_true, if_false, pure_bind]
  have := key scope.names [] hf
  unfold closureFor
  simp only [bind_pure_comp, map_pure] at this ⊢
  first
    | exact this
    | (rw [this]; rfl)
    | (simp only [this]; rfl)
theorem lc_free {X : Cx} {scope sc : Scope} {x : Str} {fr : List Str} {js : List Nat} (hk : scope.kind = .function) (hsc : X.env.scope = sc) (hkf : sc.kind = .function)
    (hcell : ∀ y ∈ scope.names, y.2 ≠ .cell) (hloc : ∀ y ∈ scope.names, y.2 = .local → scope.names.lookup y.1 = some .local) (hvar : scope.names.lookup x = some .local)
    (hfree : ∀ y ∈ scope.names, y.2 = .free → sc.names.lookup y.1 = some .cell) (hfr : FrOk X scope fr js) (hnd : (x :: fr).Nodup)
    (hcs : ∀ y, X.env.scope.names.lookup y = some .cell → ∃ c, X.env.cells.lookup y = some c) : LcOk X scope x fr js (clOf X.env.cells scope.names []) := by
  have hall : ∀ y ∈ scope.names, y.2 = .free → ∃ c, X.env.cells.lookup y.1 = some c := fun y hy e => hcs _ (by rw [hsc]; exact hfree y hy e)
  refine ⟨hk, closure_eq hall, hcell, hloc, hvar, clOf_sub hall fun y c e => by simp at e, fun y hy => clOf_has hall y (.inl ?_), hfr, hnd⟩
  have get : ∀ k, (k = NameKind.cell ∨ k = NameKind.free) → (relabel scope X.env).names.lookup y = some k → (y, NameKind.free) ∈ scope.names := fun k hkk e => by
    have hm := PySem.mem_of_lookup e
    unfold relabel at hm
    obtain ⟨⟨n, k0⟩, hin, heq⟩ := List.mem_map.mp hm
    dsimp only at heq
    split at heq
    · rename_i hc
      have e1 : n = y := congrArg Prod.fst heq
      have e2 : k0 = .free := by
        rw [Bool.and_eq_true, Bool.and_eq_true] at hc
        exact eq_of_beq hc.1.1
      rw [← e1, ← e2]
      exact hin
    · have e1 : n = y := congrArg Prod.fst heq
      have e2 : k0 = k := congrArg Prod.snd heq
      rcases hkk with z | z
      · exact absurd (by rw [e2, z]) (hcell _ hin)
      · rw [← e1, ← z, ← e2]
        exact hin
  rcases hy with h | h
  · exact get _ (.inl rfl) h
  · exact get _ (.inr rfl) h
end Sw

namespace Sw
open PySem PySem.Spec PyProof.Rows L2

/-! ### what stays true while the heap grows -/
theorem same_new {H : Hp} {p : Addr} (h : H p = none) (o : HO) : Same H (upd H p o) := fun b u q => by rw [upd_ne (ne_of_none q h)]; exact q
/-- the tuples stay (and what is frozen) -/
structure Kt (H H' : Hp) : Prop where
  t : ∀ b xs, H b = some (.tup xs) → H' b = some (.tup xs)
  f : ∀ b o u, H b = some (.frz o u) → H' b = some (.frz o u)
theorem Kt.of {H H' : Hp} (S : Same H H') : Kt H H' := ⟨fun b _ e => S b _ e, fun b _ _ e => S b _ e⟩
theorem Kt.trans {H H1 H2 : Hp} (a : Kt H H1) (b : Kt H1 H2) : Kt H H2 := ⟨fun _ _ e => b.t _ _ (a.t _ _ e), fun _ _ _ e => b.f _ _ _ (a.f _ _ _ e)⟩
theorem Kt.new {H : Hp} {p : Addr} {o : HO} (h : H p = none) : Kt H (upd H p o) := .of (same_new h o)
theorem Kt.lst {H : Hp} {p : Addr} {ys : List V} {o : HO} (h : H p = some (.lst ys)) : Kt H (upd H p o) :=
  ⟨fun b xs e => by rw [upd_ne (ne_of e h (fun z => by cases z))]; exact e, fun b o' u e => by rw [upd_ne (ne_of e h (fun z => by cases z))]; exact e⟩
theorem sqT_mono {K : PySem.W.Frag} {H H' : Hp} {a : Addr} {xs : List V} (S : Kt H H') (h : SqT K H a xs) : SqT K H' a xs := by
  rcases h with (h | ⟨o, h⟩) | h
  · exact .inl (.inl (S.t _ _ h))
  · exact .inl (.inr ⟨o, S.f _ _ _ h⟩)
  · exact .inr h
/-- what is new to H may change -/
theorem same_upd {H H' : Hp} {p : Addr} {o : HO} (S : Same H H') (h : H p = none) : Same H (upd H' p o) := fun b u q => by rw [upd_ne (ne_of_none q h)]; exact S b u q

section
variable {X : Cx}
/-! ### sum and max of a list of ints -/

/-! ### xs.extend(t), t a tuple -/

/-! ### the whole of a tuple as a slice of it -/
theorem getItem_tuple_whole {prog : Program} {w : World} {A : Around} {E : Value → Shared → Prop} {s : Shared} {t sl : Addr} {items : Array Value} {vl vu : Value} {lo hi : Option Int} {Q : Value → Shared → Prop}
    (ht : IsTup s.heap t items) (hs : s.heap.IsSliceOf sl vl vu .none) (pl : IsPart vl lo) (pu : IsPart vu hi)
    (h1 : HT.sIx items.size 0 lo = 0) (h2 : HT.sIx items.size items.size hi = items.size) (h : Q (.ref t) s) : wpAny (model prog w) A (getItem (.ref t) (.ref sl)) Q E s := by
  obtain ⟨os, hos, hcs, hds⟩ := id hs
  have hTs : s.TypeIs (.ref sl) "slice" := ⟨os, hos, hcs⟩
  unfold getItem
  try with_reducible refine wpAny_holding ?_
  first | refine wpAny_bind (wpAny_pure ?_) | skip
  refine wpAny_bind (wpAny_sequenceKey ht.typeIs (by decide) ?_)
  refine wpAny_bind (wpAny_callSpecial?_slot (name := Str.ofString "__getitem__") ht.typeIs PyProof.Rows.slot_tuple_getitem
    (wpAny_call_entry PyProof.Rows.slot_tuple_getitem ht.typeIs entry_tuple_getitem ?_ (args_tuple_getitem _ _)))
  show wpAny _ _ (Builtin.Tuple.tupleItemsOf (.ref t) >>= _) _ _ s
  refine wpAny_bind (tupleItemsOf_ ht ?_)
  refine wpAny_bind (wpAny_typeOf hTs ?_)
  rw [if_pos (by decide)]
  refine wpAny_bind (HT.sliceApplied_gen hs pl pu ?_)
  have hyes : (((HT.sIx items.size 0 lo : Nat) : Int) == 0 && (1 : Int) == 1 && (HT.sIx items.size items.size hi - HT.sIx items.size 0 lo) == items.size) = true := by
    rw [h1, h2]
    simp
  show wpAny _ _ (if (((HT.sIx items.size 0 lo : Nat) : Int) == 0 && (1 : Int) == 1 && (HT.sIx items.size items.size hi - HT.sIx items.size 0 lo) == items.size) = true then _ else _) _ _ s
  rw [if_pos hyes]
  unfold Builtin.Tuple.tupleIsExact
  refine wpAny_bind (wpAny_bind (wpAny_typeOf ht.typeIs (wpAny_pure ?_)))
  rw [if_pos (by decide)]
  refine wpAny_bind (wpAny_rule ?_)
  exact wpAny_pure ⟨_, rfl, wpAny_pure h⟩
def rSlTW (K : PySem.W.Frag) : V → Option Int → Option Int → Hp → VK → Prop := fun x lo hi H Q => ∃ a xs, x = .ref a ∧ SqT K H a xs ∧
  HT.sIx xs.length 0 lo = 0 ∧ HT.sIx xs.length xs.length hi = xs.length ∧ Q (.ref a) H
theorem sl_tupW : SlR X (rSlTW X.K) := by
  intro pins s σ H x v vl vu lo hi sl Q I rx hs pl pu h
  obtain ⟨a, xs, rfl, hx, w1, w2, q⟩ := h
  cases rx
  obtain ⟨its, r, ht, hz⟩ := I.tuple hx
  have hlen : its.toArray.size = xs.length := by rw [List.size_toArray]; exact r.length.symm
  refine ⟨"tuple", _, PyProof.Rows.slot_tuple_getitem.lookup, ht.typeIs, ?_⟩
  exact getItem_tuple_whole ht hs pl pu (by rw [hlen]; exact w1) (by rw [hlen]; exact w2) ⟨.ref a, H, I, rfl, q⟩
/-- any slice of a tuple -/
def rSlTA (K : PySem.W.Frag) : V → Option Int → Option Int → Hp → VK → Prop := fun x lo hi H Q => ∃ a xs, x = .ref a ∧ SqT K H a xs ∧ ∀ p H', Same H H' → SqT K H' p (cutV xs lo hi) → Q (.ref p) H'
theorem cutV_whole {xs : List V} {lo hi : Option Int} (h1 : HT.sIx xs.length 0 lo = 0) (h2 : HT.sIx xs.length xs.length hi = xs.length) : cutV xs lo hi = xs := by
  unfold cutV
  rw [h1, h2]
  simp
theorem sl_tupA : SlR X (rSlTA X.K) := by
  intro pins s σ H x v vl vu lo hi sl Q I rx hs pl pu h
  obtain ⟨a, xs, rfl, hx, q⟩ := h
  by_cases hw : HT.sIx xs.length 0 lo = 0 ∧ HT.sIx xs.length xs.length hi = xs.length
  · exact sl_tupW pins s σ H _ v vl vu lo hi sl Q I rx hs pl pu ⟨a, xs, rfl, hx, hw.1, hw.2, q a H (Same.refl H) (by rw [cutV_whole hw.1 hw.2]; exact hx)⟩
  · exact sl_tup pins s σ H _ v vl vu lo hi sl Q I rx hs pl pu ⟨a, xs, rfl, hx, hw, fun p hp => q p _ (same_new hp _) (SqT.of upd_same)⟩

/-! ### isinstance(x, T), T a type of Python's own -/
end

/-! ### trees in the heap -/
mutual
def TR (K : PySem.W.Frag) (H : Hp) : T → V → Prop
  | .node ts, x => ∃ a xs, x = .ref a ∧ SqT K H a xs ∧ TRs K H ts xs
def TRs (K : PySem.W.Frag) (H : Hp) : List T → List V → Prop
  | [], xs => xs = []
  | t :: ts, xs => ∃ x r, xs = x :: r ∧ TR K H t x ∧ TRs K H ts r
end
section
variable {K : PySem.W.Frag} {H H' : Hp}
theorem TR_node {ts : List T} {x : V} : TR K H (.node ts) x ↔ ∃ a xs, x = .ref a ∧ SqT K H a xs ∧ TRs K H ts xs := by rw [TR]
theorem TRs_nil {xs : List V} : TRs K H [] xs ↔ xs = [] := by rw [TRs]
theorem TRs_cons {t : T} {ts : List T} {xs : List V} : TRs K H (t :: ts) xs ↔ ∃ x r, xs = x :: r ∧ TR K H t x ∧ TRs K H ts r := by rw [TRs]
theorem TR_of {t : T} {x : V} (h : TR K H t x) : ∃ a xs, x = .ref a ∧ SqT K H a xs ∧ TRs K H t.kids xs := by
  cases t with
  | node ts => exact TR_node.mp h
theorem TR_mk {ts : List T} {a : Addr} {xs : List V} (h : SqT K H a xs) (q : TRs K H ts xs) : TR K H (.node ts) (.ref a) := TR_node.mpr ⟨a, xs, rfl, h, q⟩
mutual
theorem TR.mono (S : Kt H H') : ∀ {t : T} {x : V}, TR K H t x → TR K H' t x
  | .node ts, x, h => by
    obtain ⟨a, xs, e, h1, h2⟩ := TR_node.mp h
    exact TR_node.mpr ⟨a, xs, e, sqT_mono S h1, TRs.mono S h2⟩
theorem TRs.mono (S : Kt H H') : ∀ {ts : List T} {xs : List V}, TRs K H ts xs → TRs K H' ts xs
  | [], xs, h => by rw [TRs_nil] at h ⊢; exact h
  | t :: ts, xs, h => by
    obtain ⟨x, r, e, h1, h2⟩ := TRs_cons.mp h
    exact TRs_cons.mpr ⟨x, r, e, TR.mono S h1, TRs.mono S h2⟩
end
theorem TRs.length : ∀ {ts : List T} {xs : List V}, TRs K H ts xs → xs.length = ts.length
  | [], xs, h => by rw [TRs_nil] at h; rw [h]; rfl
  | t :: ts, xs, h => by
    obtain ⟨x, r, e, h1, h2⟩ := TRs_cons.mp h
    rw [e, List.length_cons, List.length_cons, TRs.length h2]
theorem TRs.append : ∀ {ts us : List T} {xs ys : List V}, TRs K H ts xs → TRs K H us ys → TRs K H (ts ++ us) (xs ++ ys)
  | [], us, xs, ys, h, g => by rw [TRs_nil] at h; rw [h]; exact g
  | t :: ts, us, xs, ys, h, g => by
    obtain ⟨x, r, e, h1, h2⟩ := TRs_cons.mp h
    rw [e]
    exact TRs_cons.mpr ⟨x, r ++ ys, rfl, h1, TRs.append h2 g⟩
theorem TRs.get : ∀ {ts : List T} {xs : List V}, TRs K H ts xs → ∀ {i : Nat} {x : V}, xs[i]? = some x → ∃ t, ts[i]? = some t ∧ TR K H t x
  | [], xs, h, i, x, e => by rw [TRs_nil] at h; rw [h] at e; simp at e
  | t :: ts, xs, h, i, x, e => by
    obtain ⟨y, r, rfl, h1, h2⟩ := TRs_cons.mp h
    cases i with
    | zero => exact ⟨t, rfl, by have e' : y = x := by simpa using e
                                rw [← e']; exact h1⟩
    | succ i => exact TRs.get h2 (i := i) (by simpa using e)
theorem TRs.take : ∀ (n : Nat) {ts : List T} {xs : List V}, TRs K H ts xs → TRs K H (ts.take n) (xs.take n)
  | 0, ts, xs, h => by rw [List.take_zero, List.take_zero, TRs_nil]
  | n + 1, [], xs, h => by rw [TRs_nil] at h; rw [h]; exact TRs_nil.mpr rfl
  | n + 1, t :: ts, xs, h => by
    obtain ⟨x, r, rfl, h1, h2⟩ := TRs_cons.mp h
    exact TRs_cons.mpr ⟨x, r.take n, rfl, h1, TRs.take n h2⟩
theorem TRs.drop : ∀ (n : Nat) {ts : List T} {xs : List V}, TRs K H ts xs → TRs K H (ts.drop n) (xs.drop n)
  | 0, ts, xs, h => h
  | n + 1, [], xs, h => by rw [TRs_nil] at h; rw [h]; exact TRs_nil.mpr rfl
  | n + 1, t :: ts, xs, h => by
    obtain ⟨x, r, rfl, h1, h2⟩ := TRs_cons.mp h
    exact TRs.drop n h2
end

section
variable {X : Cx} {pins : List (Addr × Obj)} {σ : Sg} {H : Hp} {s : Shared}
theorem tr_inj (I : Inv X pins σ H s) : ∀ (n : Nat), (∀ (t u : T) (x : V), t.parts ≤ n → TR X.K H t x → TR X.K H u x → t = u) ∧ (∀ (ts us : List T) (xs : List V), T.partsL ts ≤ n → TRs X.K H ts xs → TRs X.K H us xs → ts = us)
  | 0 => ⟨fun t u x h _ _ => absurd (T.parts_pos t) (by omega), fun ts us xs h q r => by
      have h1 := T.len_le_parts ts
      have h2 := q.length
      have h3 := r.length
      have e1 : ts = [] := List.length_eq_zero_iff.mp (by omega)
      have e2 : us = [] := List.length_eq_zero_iff.mp (by omega)
      rw [e1, e2]⟩
  | n + 1 => by
    have ih := tr_inj I n
    have A : ∀ (t u : T) (x : V), t.parts ≤ n + 1 → TR X.K H t x → TR X.K H u x → t = u := fun t u x h q r => by
      cases t with
      | node ts =>
        cases u with
        | node us =>
          obtain ⟨a, xs, e1, q1, q2⟩ := TR_node.mp q
          obtain ⟨b, ys, e2, r1, r2⟩ := TR_node.mp r
          rw [e1] at e2
          cases e2
          have := I.tuple_inj q1 r1
          subst this
          rw [T.parts_node] at h
          rw [ih.2 ts us xs (by omega) q2 r2]
    refine ⟨A, fun ts us xs h q r => ?_⟩
    cases ts with
    | nil =>
      rw [TRs_nil] at q
      subst q
      have := r.length
      exact (List.length_eq_zero_iff.mp (by simpa using this.symm)).symm
    | cons t ts =>
      obtain ⟨x, r', rfl, q1, q2⟩ := TRs_cons.mp q
      cases us with
      | nil => rw [TRs_nil] at r; cases r
      | cons u us =>
        obtain ⟨x2, r2', e, r1, r2⟩ := TRs_cons.mp r
        cases e
        rw [T.partsL_cons] at h
        have h1 := T.parts_pos t
        rw [A t u x (by omega) q1 r1, ih.2 ts us r' (by omega) q2 r2]

/-- the item's answers -/
def eqsAt (ts us : List T) (j : Nat) : Bool := match ts[j]?, us[j]? with
  | some t, some u => T.beq t u
  | _, _ => false
theorem beqL_range : ∀ ts us : List T, ((List.range (min ts.length us.length)).all (eqsAt ts us) && ts.length == us.length) = T.beqL ts us
  | [], [] => by simp [T.beqL]
  | [], u :: us => by simp [T.beqL]
  | t :: ts, [] => by simp [T.beqL]
  | t :: ts, u :: us => by
    have ih := beqL_range ts us
    have e : min (t :: ts).length (u :: us).length = min ts.length us.length + 1 := by simp only [List.length_cons]; omega
    rw [e, List.range_succ_eq_map, List.all_cons, List.all_map]
    have e2 : (eqsAt (t :: ts) (u :: us) ∘ Nat.succ) = eqsAt ts us := by
      funext j
      simp [eqsAt]
    have e3 : eqsAt (t :: ts) (u :: us) 0 = T.beq t u := rfl
    have e4 : ((t :: ts).length == (u :: us).length) = (ts.length == us.length) := by simp
    rw [e2, e3, e4, Bool.and_assoc, ih]
    rw [T.beqL]

theorem rc_tree (I : Inv X pins σ H s) : ∀ (n : Nat) (t u : T) (A : Around) (a b : Addr), t.deep ≤ n → TR X.K H t (.ref a) → TR X.K H u (.ref b) → A.units + n < cLine → SeqAt.RcAt A s (.ref a) (.ref b) (T.beq t u) := by
  intro n
  induction n with
  | zero =>
    intro t u A a b hd q r hu
    cases t with
    | node ts =>
      cases u with
      | node us =>
        obtain ⟨a', xs, e1, q1, q2⟩ := TR_node.mp q
        cases e1
        obtain ⟨b', ys, e2, r1, r2⟩ := TR_node.mp r
        cases e2
        rw [T.deep_node] at hd
        have hts : ts = [] := by
          cases ts with
          | nil => rfl
          | cons t ts => rw [T.deepL_cons] at hd; omega
        subst hts
        rw [TRs_nil] at q2
        subst q2
        obtain ⟨its, rv, ht, _⟩ := I.tuple q1
        obtain ⟨its2, rv2, ht2, _⟩ := I.tuple r1
        have h0 := rv.length
        have h2 := rv2.length
        have h3 := r2.length
        have key := SeqAt.RcAt.tuples (A := A) (e := fun _ => true) ht ht2 (by omega) (fun j j1 _ => absurd j1 (by rw [List.size_toArray, ← h0]; simp))
        have ev : ((List.range (min its.toArray.size its2.toArray.size)).all (fun _ => true) && its.toArray.size == its2.toArray.size) = T.beq (.node []) (.node us) := by
          rw [List.size_toArray, List.size_toArray, ← h0, ← h2, h3, T.beq, ← beqL_range]
          simp
        rw [ev] at key
        exact key
  | succ n ih =>
    intro t u A a b hd q r hu
    cases t with
    | node ts =>
      cases u with
      | node us =>
        obtain ⟨a', xs, e1, q1, q2⟩ := TR_node.mp q
        cases e1
        obtain ⟨b', ys, e2, r1, r2⟩ := TR_node.mp r
        cases e2
        rw [T.deep_node] at hd
        obtain ⟨its, rv, ht, _⟩ := I.tuple q1
        obtain ⟨its2, rv2, ht2, _⟩ := I.tuple r1
        have l1 := rv.length
        have l2 := rv2.length
        have l3 := q2.length
        have l4 := r2.length
        have key := SeqAt.RcAt.tuples (A := A) (e := eqsAt ts us) ht ht2 (by omega) (fun j j1 j2 => ?_)
        · have ev : ((List.range (min its.toArray.size its2.toArray.size)).all (eqsAt ts us) && its.toArray.size == its2.toArray.size) = T.beq (.node ts) (.node us) := by
            rw [List.size_toArray, List.size_toArray, ← l1, ← l2, l3, l4, T.beq, ← beqL_range]
          rw [ev] at key
          exact key
        · have j1' : j < xs.length := by rw [l1]; simpa using j1
          have j2' : j < ys.length := by rw [l2]; simpa using j2
          obtain ⟨u1, hu1, ru1⟩ := rv.get (List.getElem?_eq_getElem j1')
          obtain ⟨u2, hu2, ru2⟩ := rv2.get (List.getElem?_eq_getElem j2')
          obtain ⟨t1, ht1, tr1⟩ := q2.get (List.getElem?_eq_getElem j1')
          obtain ⟨t2, ht2', tr2⟩ := r2.get (List.getElem?_eq_getElem j2')
          have ee : eqsAt ts us j = T.beq t1 t2 := by unfold eqsAt; rw [ht1, ht2']
          have g1 : its.toArray[j] = u1 := by
            have : its[j]? = some u1 := hu1
            rw [List.getElem?_eq_some_iff] at this
            obtain ⟨_, e⟩ := this
            simpa using e
          have g2 : its2.toArray[j] = u2 := by
            have : its2[j]? = some u2 := hu2
            rw [List.getElem?_eq_some_iff] at this
            obtain ⟨_, e⟩ := this
            simpa using e
          rw [ee, g1, g2]
          obtain ⟨a1, zs1, e1, _⟩ := TR_of tr1
          obtain ⟨a2, zs2, e2, _⟩ := TR_of tr2
          rw [e1] at ru1 tr1
          rw [e2] at ru2 tr2
          obtain rfl : u1 = Value.ref a1 := ru1
          obtain rfl : u2 = Value.ref a2 := ru2
          by_cases hne : a1 = a2
          · subst hne
            have et : t1 = t2 := (tr_inj I t1.parts).1 t1 t2 _ (Nat.le_refl _) tr1 tr2
            rw [et, T.beq_self]
            exact SeqAt.EqAt.same _
          · have hd1 : t1.deep ≤ n := by
              have := T.mem_deep (List.mem_of_getElem? ht1)
              omega
            exact SeqAt.EqAt.of_refs hne (ih t1 t2 A.in1 a1 a2 hd1 tr1 tr2 (by rw [Around.in1_units]; omega))
end

section
variable {X : Cx}
/-- == of two trees -/
def rEqTr (K : PySem.W.Frag) (n : Nat) : R2 := fun x y H Q => ∃ t u, TR K H t x ∧ TR K H u y ∧ t.deep ≤ n ∧ Q (.bl (T.beq t u)) H
theorem op_eqTr {n : Nat} (hu : X.A.units + n < cLine) : OpR X (compareOp .Eq) (rEqTr X.K n) := by
  intro pins s σ H x y v u Q I rx ry h
  obtain ⟨t, t', h1, h2, hd, q⟩ := h
  obtain ⟨a, xs, e1, _⟩ := TR_of h1
  obtain ⟨b, ys, e2, _⟩ := TR_of h2
  subst e1 e2
  cases rx
  cases ry
  exact rc_tree I n t t' X.A a b hd h1 h2 hu _ _ _ _ ⟨.bl _, H, I, rfl, q⟩
end

/-! ### rules by the written part itself (inside a comprehension's block) -/
section
variable {X : Cx} {K : PySem.W.Frag}
end

/-! ### comprehensions in use -/
end Sw

/-! ## reversed(t) of a tuple, and the list of it -/
namespace SwR
open PySem PySem.Spec PyProof.Rows L2 Sw


section
variable {prog : Program} {w : World} {A : Around} {E : Value → Shared → Prop} {s : Shared}


end


section
variable {prog : Program} {w : World} {A : Around} {E : Value → Shared → Prop} {s : Shared}


end

section
variable {prog : Program} {w : World} {A : Around} {E : Value → Shared → Prop} {s : Shared}
end

theorem bt_reversed : bootBuiltins "reversed" = some (.type "reversed") := by decide +kernel
end SwR

/-! ## texts by their codes -/
namespace Sw
open PySem PySem.Spec PyProof.Rows L2


section
variable {X : Cx}


/-! ### for c in text -/

/-! ### != of two trees -/
theorem eq_items {pins : List (Addr × Obj)} {σ : Sg} {H : Hp} {s : Shared} (I : Inv X pins σ H s) {ts us : List T} {xs ys : List V} {its its2 : List Value} (q2 : TRs X.K H ts xs) (r2 : TRs X.K H us ys) (rv : Vals xs its) (rv2 : Vals ys its2) {n : Nat} {A : Around}
    (hd : T.deepL ts ≤ n + 1) (hu : A.units + n < cLine) : ∀ j (h1 : j < its.toArray.size) (h2 : j < its2.toArray.size), SeqAt.EqAt A s its.toArray[j] its2.toArray[j] (eqsAt ts us j) := by
  intro j j1 j2
  have l1 := rv.length
  have l2 := rv2.length
  have j1' : j < xs.length := by rw [l1]; simpa using j1
  have j2' : j < ys.length := by rw [l2]; simpa using j2
  obtain ⟨u1, hu1, ru1⟩ := rv.get (List.getElem?_eq_getElem j1')
  obtain ⟨u2, hu2, ru2⟩ := rv2.get (List.getElem?_eq_getElem j2')
  obtain ⟨t1, ht1, tr1⟩ := q2.get (List.getElem?_eq_getElem j1')
  obtain ⟨t2, ht2', tr2⟩ := r2.get (List.getElem?_eq_getElem j2')
  have ee : eqsAt ts us j = T.beq t1 t2 := by unfold eqsAt; rw [ht1, ht2']
  have g1 : its.toArray[j] = u1 := by
    have : its[j]? = some u1 := hu1
    rw [List.getElem?_eq_some_iff] at this
    obtain ⟨_, e⟩ := this
    simpa using e
  have g2 : its2.toArray[j] = u2 := by
    have : its2[j]? = some u2 := hu2
    rw [List.getElem?_eq_some_iff] at this
    obtain ⟨_, e⟩ := this
    simpa using e
  rw [ee, g1, g2]
  obtain ⟨a1, zs1, e1, _⟩ := TR_of tr1
  obtain ⟨a2, zs2, e2, _⟩ := TR_of tr2
  rw [e1] at ru1 tr1
  rw [e2] at ru2 tr2
  obtain rfl : u1 = Value.ref a1 := ru1
  obtain rfl : u2 = Value.ref a2 := ru2
  by_cases hne : a1 = a2
  · subst hne
    have et : t1 = t2 := (tr_inj I t1.parts).1 t1 t2 _ (Nat.le_refl _) tr1 tr2
    rw [et, T.beq_self]
    exact SeqAt.EqAt.same _
  · have hd1 : t1.deep ≤ n := by
      have := T.mem_deep (List.mem_of_getElem? ht1)
      omega
    exact SeqAt.EqAt.of_refs hne (rc_tree I n t1 t2 A a1 a2 hd1 tr1 tr2 hu)
def rNeTr (K : PySem.W.Frag) (n : Nat) : R2 := fun x y H Q => ∃ t u, TR K H t x ∧ TR K H u y ∧ t.deep ≤ n ∧ Q (.bl (!T.beq t u)) H
theorem op_neTr {n : Nat} (hu : X.A.units + n + 1 < cLine) : OpR X (compareOp .NotEq) (rNeTr X.K n) := by
  intro pins s σ H x y v u Q I rx ry h
  obtain ⟨t, t', h1, h2, hd, q⟩ := h
  cases t with
  | node ts =>
    cases t' with
    | node us =>
      obtain ⟨a, xs, rfl, q1, q2⟩ := TR_node.mp h1
      obtain ⟨b, ys, rfl, r1, r2⟩ := TR_node.mp h2
      cases rx
      cases ry
      rw [T.deep_node] at hd
      obtain ⟨its, rv, ht, _⟩ := I.tuple q1
      obtain ⟨its2, rv2, ht2, _⟩ := I.tuple r1
      have key := SeqAt.RcNeAt.tuples (A := X.A) (e := eqsAt ts us) ht ht2 (by omega) (eq_items I q2 r2 rv rv2 (n := n) (by omega) (by rw [Around.in1_units]; omega))
      have ev : ((List.range (min its.toArray.size its2.toArray.size)).all (eqsAt ts us) && its.toArray.size == its2.toArray.size) = T.beq (.node ts) (.node us) := by
        rw [List.size_toArray, List.size_toArray, ← rv.length, ← rv2.length, q2.length, r2.length, T.beq, ← beqL_range]
      rw [ev] at key
      exact key _ _ _ _ ⟨.bl _, H, I, rfl, q⟩
end
end Sw

/-! ## trees as rows of brackets, apart from any heap -/
namespace Sw
namespace T

/-! ### reading: the rows that are open, the innermost first -/
/-! ### writing: what still waits, the next one last; none is a bracket to be closed -/
/-! ### a chain -/
end T
end Sw

/-! ## which rows of brackets write a tree -/
namespace Sw
namespace T
end T
end Sw

/-! ## enumerate(text), xs[::-1], slices of texts -/
namespace Sw
open PySem PySem.Spec PyProof.Rows L2

/-! ### for k, c in enumerate(text) -/

/-! ### xs[::-1] -/
end Sw

/-! ## errors of one's own: raise C(), and try: f(e) except B as n -/
namespace Sw
open PySem PySem.Spec PyProof.Rows L2




section
variable {P : Program} {w : World} {K : PySem.W.Frag} {mg : Str → Option Value} {base : Heap} {N : List Str} {qual : Str} {scope : Scope} {f : Addr} {cd : Value} {A : Around} {outer : List Env} {s₀ : Shared} {H₀ : Hp} {E : XK}


end


/-! ### a handler's suite -/
section
variable {X : Cx} {pins : List (Addr × Obj)} {σ : Sg} {H : Hp} {s : Shared}




/-! ### try: f(e, ..) except B as n: .. -/
end
end Sw

namespace Sw
open PySem PySem.Spec PyProof.Rows L2
/-! ### text[lo:hi] -/
end Sw

/-! ## errors of one's own as values -/
namespace Sw
open PySem PySem.Spec PyProof.Rows L2

/-! ### isinstance of an error -/
section
variable {K : PySem.W.Frag} {C a : Addr} {prog : Program} {w : World} {A : Around}
end
end Sw

/-! ## the judgements, shut: their rules under other names -/
namespace Sw
open PySem PySem.Spec PyProof.Rows L2
structure QE (X : Cx) (e : Expr) (t : TE) : Prop where
  run : PE X e t
structure QT (X : Cx) (e : Expr) (t : TT) : Prop where
  run : PT X e t
structure QW (X : Cx) (e : Expr) (t : TT) : Prop where
  run : PW X e t
structure QA (X : Cx) (es : List Expr) (t : TA) : Prop where
  run : PA X es t
structure QS (X : Cx) (st : Stmt) (t : TS) : Prop where
  run : PS X st t
structure QSs (X : Cx) (st : List Stmt) (t : TS) : Prop where
  run : PSs X st t
structure QI (X : Cx) (tg iter : Expr) (wi : TI) : Prop where
  run : PI X tg iter wi
structure QG (X : Cx) (tg : Expr) (t : TG) : Prop where
  run : PG X tg t
structure QGs (X : Cx) (ts : List Expr) (t : TGs) : Prop where
  run : PGs X ts t
structure QO (X : Cx) (o : Option Expr) (t : TO) : Prop where
  run : PO X o t
theorem QW.pt {X : Cx} {e : Expr} {t : TT} (h : QW X e t) : QT X e t := ⟨h.run.pt⟩
theorem qv {X : Cx} (i : Nat) {x : Str} {pos : Pos} (hN : X.N[i]? = some x := by rfl) (hv : Vis X.env.scope x := by first | exact Or.inl rfl | exact Or.inr (Or.inl rfl) | exact Or.inr (Or.inr rfl)) (hd : (x == ("__debug__" : Str)) = false := by decide) (hcd : (x == ("__classdict__" : Str)) = false := by decide) : QE X (.Name x pos) (tVar i) := ⟨L2.pv (i := i) (hN := hN) (hv := hv) (hd := hd) (hcd := hcd)⟩
theorem qe_int {X : Cx} {i j pos} : QE X (.Constant (.int i) j pos) (tC (.int i)) := ⟨L2.pe_int ⟩
theorem qe_bl {X : Cx} {b j pos} : QE X (.Constant (.bool b) j pos) (tC (.bl b)) := ⟨L2.pe_bl ⟩
theorem qe_non {X : Cx} {j pos} : QE X (.Constant .none j pos) (tC .non) := ⟨L2.pe_non ⟩
theorem qe_str {X : Cx} {x j pos} : QE X (.Constant (.str x) j pos) (tC (.str x)) := ⟨L2.pe_str ⟩
theorem qe_glob {X : Cx} {x : Str} {v : V} {u : Value} {pos : Pos} (hg : Gl X x) (hm : X.mg x = some u) (r : RelV v u) (hd : (x == ("__debug__" : Str)) = false := by decide) : QE X (.Name x pos) (tC v) := ⟨L2.pe_glob (hg := hg) (hm := hm) (r := r) (hd := hd)⟩
theorem qe_op {X : Cx} {a b : Expr} {ta tb : TE} {pos : Pos} {op : Operator} {r : R2} (ho : OpR X (binaryOp op) r) (ha : QE X a ta) (hb : QE X b tb) : QE X (.BinOp a op b pos) (tOp r ta tb) := ⟨L2.pe_op (ho := ho) (ha := ha.run) (hb := hb.run)⟩
theorem qe_cmpR {X : Cx} {a b : Expr} {ta tb : TE} {pos : Pos} {op : CmpOp} {r : R2} (ho : OpR X (compareOp op) r) (ha : QE X a ta) (hb : QE X b tb) (hm : behindInMarks op b = false) : QE X (.Compare a [op] [b] pos) (tOp r ta tb) := ⟨L2.pe_cmpR (ho := ho) (ha := ha.run) (hb := hb.run) (hm := hm)⟩
theorem qe_lst {X : Cx} {es : List Expr} {t : TA} {pos : Pos} (h : QA X es t) : QE X (.List es pos) (tLst t) := ⟨L2.pe_lst (h := h.run)⟩
theorem qe_tup {X : Cx} {es : List Expr} {t : TA} {pos : Pos} {x1} (h : QA X es t) : QE X (.Tuple es x1 pos) (tTup t) := ⟨L2.pe_tup (h := h.run)⟩
theorem qe_ifExp {X : Cx} {a b : Expr} {ta tb : TE} {pos : Pos} {tA : TT} {c : Expr} (hc : QT X c tA) (ha : QE X a ta) (hb : QE X b tb) : QE X (.IfExp c a b pos) (tIf tA ta tb) := ⟨L2.pe_ifExp (hc := hc.run) (ha := ha.run) (hb := hb.run)⟩
theorem qe_slice {X : Cx} {e : Expr} {te : TE} {lo hi : Option Expr} {tl th : TO} {pos p2 : Pos} {r : V → Option Int → Option Int → Hp → VK → Prop} (hr : SlR X r) (he : QE X e te) (hl : QO X lo tl) (hu : QO X hi th) : QE X (.Subscript e (.Slice lo hi none p2) pos) (tSl r te tl th) := ⟨L2.pe_slice (hr := hr) (he := he.run) (hl := hl.run) (hu := hu.run)⟩
theorem qe_ix {X : Cx} {a b : Expr} {ta tb : TE} {pos : Pos} {r : R2} (hr : IxR X r) (ha : QE X a ta) (hb : QE X b tb) (hs : PlainIx b) : QE X (.Subscript a b pos) (tOp r ta tb) := ⟨L2.pe_ix (hr := hr) (ha := ha.run) (hb := hb.run) (hs := hs)⟩
theorem qe_lc {X : Cx} {scope : Scope} {cl : List (Str × Addr)} {x : Str} {fr : List Str} {js : List Nat} {elt iter : Expr} {px pos : Pos} {wi : TI} {te : TE} (hc : X.calm = true) (L : LcOk X scope x fr js cl) (hi : QI X (.Name x px) iter wi) (he : ∀ C s H fp pins, QE (blk X scope cl C (x :: fr) s H fp pins) elt te) (hs : ∀ v, foldedSetIterable iter X.env v = pure v := by intro _; rfl) : QE X (.ListComp elt [⟨.Name x px, iter, [], 0⟩] scope pos) (tLC wi js te) := ⟨Sw.pe_lc (hc := hc) (L := L) (hi := hi.run) (he := fun C s H fp pins => (he C s H fp pins).run) (hs := hs)⟩
theorem qe_call {X : Cx} {CX : CXT} {k : Nat} {f : Addr} {fd : FuncData} {ps : List Str} {sp : Sp} {dvs : List V} {ds : List Value} {E : XK} {x : Str} {p pos : Pos} {e : Expr} {es : List Expr} {t : TA} (F : FnOk X.prog X.w X.K X.mg X.base CX k f fd ps sp) (hr : Room k X.A) (hg : Gl X x) (hm : X.mg x = some (.ref f)) (hk : PySem.W.keepIn X.K (.ref f) = true) (hb : Binds X.K fd ps ds) (hd : Vals dvs ds) (hx : Passes CX X E) (ha : QA X (e :: es) t) (hdb : (x == ("__debug__" : Str)) = false := by decide) (he : starEach (e :: es) X.env = (false, eval e X.env) :: starEach es X.env := by rfl) (hpl : (backTo pos (starEach es X.env)).any (·.1) = false := by rfl) : QE X (.Call (.Name x p) (e :: es) [] pos) (tCall sp dvs E t) := ⟨L2.pe_call (F := F) (hr := hr) (hg := hg) (hm := hm) (hk := hk) (hb := hb) (hd := hd) (hx := hx) (ha := ha.run) (hdb := hdb) (he := he) (hpl := hpl)⟩
theorem qe_call0 {X : Cx} {CX : CXT} {k : Nat} {f : Addr} {fd : FuncData} {ps : List Str} {sp : Sp} {dvs : List V} {ds : List Value} {E : XK} {x : Str} {p pos : Pos} (F : FnOk X.prog X.w X.K X.mg X.base CX k f fd ps sp) (hr : Room k X.A) (hg : Gl X x) (hm : X.mg x = some (.ref f)) (hk : PySem.W.keepIn X.K (.ref f) = true) (hb : Binds X.K fd ps ds) (hd : Vals dvs ds) (hx : Passes CX X E) (hdb : (x == ("__debug__" : Str)) = false := by decide) : QE X (.Call (.Name x p) [] [] pos) (tCall sp dvs E tNil) := ⟨L2.pe_call0 (F := F) (hr := hr) (hg := hg) (hm := hm) (hk := hk) (hb := hb) (hd := hd) (hx := hx) (hdb := hdb)⟩
theorem qe_callTy {X : Cx} {x : Str} {p pos : Pos} {e : Expr} {es : List Expr} {t : TA} {T : String} {r : List V → Hp → VK → Prop} (hc : CallR X (.type T) r) (hg : Gl X x) (hm : X.mg x = none) (hv : bootBuiltins x = some (.type T)) (ha : QA X (e :: es) t) (hn : x ≠ "__name__" := by decide) (hdb : (x == ("__debug__" : Str)) = false := by decide) (he : starEach (e :: es) X.env = (false, eval e X.env) :: starEach es X.env := by rfl) (hpl : (backTo pos (starEach es X.env)).any (·.1) = false := by rfl) : QE X (.Call (.Name x p) (e :: es) [] pos) (tCB r t) := ⟨L2.pe_callTy (hc := hc) (hg := hg) (hm := hm) (hv := hv) (ha := ha.run) (hn := hn) (hdb := hdb) (he := he) (hpl := hpl)⟩
theorem qe_callB {X : Cx} {x : Str} {p pos : Pos} {e : Expr} {es : List Expr} {t : TA} {id : String} {r : List V → Hp → VK → Prop} (hc : CallR X (.builtin id) r) (hg : Gl X x) (hm : X.mg x = none) (hv : bootBuiltins x = some (.builtin id)) (ha : QA X (e :: es) t) (hn : x ≠ "__name__" := by decide) (hdb : (x == ("__debug__" : Str)) = false := by decide) (he : starEach (e :: es) X.env = (false, eval e X.env) :: starEach es X.env := by rfl) (hpl : (backTo pos (starEach es X.env)).any (·.1) = false := by rfl) : QE X (.Call (.Name x p) (e :: es) [] pos) (tCB r t) := ⟨L2.pe_callB (hc := hc) (hg := hg) (hm := hm) (hv := hv) (ha := ha.run) (hn := hn) (hdb := hdb) (he := he) (hpl := hpl)⟩
theorem qe_bm {X : Cx} {o e : Expr} {es : List Expr} {to : TE} {t : TA} {name : Str} {apos cpos : Pos} {T id : String} {r : V → List V → Hp → VK → Prop} (pa : PlainAttrs T) (slot : Slot T name id) (hty : typeOf (.builtin id) = pure (.type "method_descriptor")) (hm : MtR X id r) (ho : QE X o to) (ha : QA X (e :: es) t) (hbase : attributeBase o name X.env (eval o X.env) = eval o X.env := by rfl) (hfew : ((backTo cpos (starEach (e :: es) X.env)).all (fun x => !x.1) && (backToKw cpos (keywordEach [] X.env)).all (fun x => x.1.isSome)
      && decide ((e :: es).length + ([] : List Keyword).length + (if ([] : List Keyword).isEmpty then 0 else 1) < 30)) = true := by rfl) (hline : (apos.endLine == cpos.line) = true := by rfl) (hs : starEach (e :: es) X.env = (false, eval e X.env) :: starEach es X.env := by rfl) (hplain : (backTo cpos (starEach es X.env)).any (·.1) = false := by rfl) : QE X (.Call (.Attribute o name apos) (e :: es) [] cpos) (tBM X.K T r to t) := ⟨L2.pe_bm (pa := pa) (slot := slot) (hty := hty) (hm := hm) (ho := ho.run) (ha := ha.run) (hbase := hbase) (hfew := hfew) (hline := hline) (hs := hs) (hplain := hplain)⟩
theorem qe_bm0 {X : Cx} {o : Expr} {to : TE} {name : Str} {apos cpos : Pos} {T id : String} {r : V → List V → Hp → VK → Prop} (pa : PlainAttrs T) (slot : Slot T name id) (hty : typeOf (.builtin id) = pure (.type "method_descriptor")) (hm : MtR X id r) (ho : QE X o to) (hbase : attributeBase o name X.env (eval o X.env) = eval o X.env := by rfl) (hline : (apos.endLine == cpos.line) = true := by rfl) : QE X (.Call (.Attribute o name apos) [] [] cpos) (tBM0 X.K T r to) := ⟨L2.pe_bm0 (pa := pa) (slot := slot) (hty := hty) (hm := hm) (ho := ho.run) (hbase := hbase) (hline := hline)⟩
theorem qt_val {X : Cx} {e : Expr} {t : TE} (h : QE X e t) (he : ∀ whole, isTrue e X.env whole = (do let v ← whole; standAt e.pos; holding [v] (truthy v)) := by intro _; rfl) : QT X e (tB t) := ⟨L2.pt_val (h := h.run) (he := he)⟩
theorem qt_cmpR {X : Cx} {a b : Expr} {ta tb : TE} {pos : Pos} {op : CmpOp} {r : R2} (ho : OpR X (compareOp op) r) (ha : QE X a ta) (hb : QE X b tb) (hm : behindInMarks op b = false) : QT X (.Compare a [op] [b] pos) (tTest (tOp r ta tb)) := ⟨L2.pt_cmpR (ho := ho) (ha := ha.run) (hb := hb.run) (hm := hm)⟩
theorem qt_not {X : Cx} {a : Expr} {pos : Pos} {tA : TT} (ha : QT X a tA) : QT X (.UnaryOp .Not a pos) (tNot tA) := ⟨L2.pt_not (ha := ha.run)⟩
theorem qw_and {X : Cx} {a b : Expr} {pos : Pos} {tA tB' : TT} {rest : List Expr} (ha : QT X a tA) (hb : QW X (.BoolOp .And (b :: rest) pos) tB') : QW X (.BoolOp .And (a :: b :: rest) pos) (tAnd tA tB') := ⟨L2.pw_and (ha := ha.run) (hb := hb.run)⟩
theorem qw_and1 {X : Cx} {a : Expr} {pos : Pos} {tA : TT} (ha : QT X a tA) : QW X (.BoolOp .And [a] pos) tA := ⟨L2.pw_and1 (ha := ha.run)⟩
theorem qw_or {X : Cx} {a b : Expr} {pos : Pos} {tA tB' : TT} {rest : List Expr} (ha : QT X a tA) (hb : QW X (.BoolOp .Or (b :: rest) pos) tB') : QW X (.BoolOp .Or (a :: b :: rest) pos) (tOr tA tB') := ⟨L2.pw_or (ha := ha.run) (hb := hb.run)⟩
theorem qw_or1 {X : Cx} {a : Expr} {pos : Pos} {tA : TT} (ha : QT X a tA) : QW X (.BoolOp .Or [a] pos) tA := ⟨L2.pw_or1 (ha := ha.run)⟩
theorem qa_nil {X : Cx} : QA X [] tNil := ⟨L2.pa_nil ⟩
theorem qa_cons {X : Cx} {e : Expr} {es : List Expr} {te : TE} {t : TA} (ha : QE X e te) (hr : QA X es t) (hs : starEach (e :: es) X.env = (false, eval e X.env) :: starEach es X.env := by rfl) : QA X (e :: es) (tCons te t) := ⟨L2.pa_cons (ha := ha.run) (hr := hr.run) (hs := hs)⟩
theorem qs_ret {X : Cx} {e : Expr} {te : TE} {pos : Pos} (he : QE X e te) : QS X (.Return (some e) pos) (tRet te) := ⟨L2.ps_ret (he := he.run)⟩
theorem qs_set {X : Cx} {pos : Pos} {i : Nat} {x : Str} {e : Expr} {te : TE} {pos' : Pos} (hN : X.N.Nodup) (hi : X.N[i]? = some x) (hx : Loc X.env.scope x) (he : QE X e te) (hs : swapsWith e (some (.Name x pos')) pos.line X.env = pure false := by rfl) (hf : X.fn x = true ∨ X.env.scope.names.lookup x = some .local := by first | exact .inl rfl | exact .inr rfl | assumption) : QS X (.Assign [.Name x pos'] e pos) (tAsg te (gName i)) := ⟨L2.ps_set (hN := hN) (hi := hi) (hx := hx) (he := he.run) (hs := hs) (hf := hf)⟩
theorem qs_if {X : Cx} {t u : TS} {pos : Pos} {c : Expr} {a b : List Stmt} {tc : TT} (hc : QT X c tc) (ha : QSs X a t) (hb : QSs X b u) : QS X (.If c a b pos) (tIfS tc t u) := ⟨L2.ps_if (hc := hc.run) (ha := ha.run) (hb := hb.run)⟩
theorem qs_for {X : Cx} {tg : Expr} {iter : Expr} {body : List Stmt} {wi : TI} {g : TG} {tb : TS} {pos : Pos} (hp : PassesOwn (model X.prog X.w) X.A X.env X.xe) (hc : X.calm = true) (hi : QI X tg iter wi) (hg : QG X tg g) (hb : QSs X body tb) (hs : ∀ x, foldedSetIterable iter X.env x = pure x := by intro _; rfl) : QS X (.For tg iter body [] pos) (tFor wi g tb) := ⟨L2.ps_for (hp := hp) (hc := hc) (hi := hi.run) (hg := hg.run) (hb := hb.run) (hs := hs)⟩
theorem qs_expr {X : Cx} {e : Expr} {te : TE} {pos : Pos} (he : QE X e te) (hs : swapsWith e none pos.line X.env = pure false := by rfl) : QS X (.Expr e pos) (tDrop te) := ⟨L2.ps_expr (he := he.run) (hs := hs)⟩
theorem qs_break {X : Cx} {pos : Pos} : QS X (.Break pos) tBreak := ⟨L2.ps_break ⟩
theorem qs_never {X : Cx} {st : Stmt} : QS X st tNever := ⟨L2.ps_never ⟩
theorem qs_asg {X : Cx} {pos : Pos} {tg e : Expr} {te : TE} {g : TG} (he : QE X e te) (hg : QG X tg g) (hs : swapsWithSole [tg] e pos.line X.env = pure false := by rfl) (hw : swappedStores [tg] e X.env = pure none := by rfl) (h1 : (assignEach [tg] X.env).map (·.2) = [assign tg X.env] := by rfl) : QS X (.Assign [tg] e pos) (tAsg te g) := ⟨L2.ps_asg (he := he.run) (hg := hg.run) (hs := hs) (hw := hw) (h1 := h1)⟩
theorem qss_nil {X : Cx} : QSs X [] tNext := ⟨L2.pss_nil ⟩
theorem qss_cons {X : Cx} {st : Stmt} {rest : List Stmt} {t u : TS} (h1 : QS X st t) (h2 : QSs X rest u) : QSs X (st :: rest) (tSeq t u) := ⟨L2.pss_cons (h1 := h1.run) (h2 := h2.run)⟩
theorem qss_one {X : Cx} {st : Stmt} {t : TS} (h1 : QS X st t) : QSs X [st] t := ⟨L2.pss_one (h1 := h1.run)⟩
theorem qi_range1 {X : Cx} {tg : Expr} {a : Expr} {ta : TA} {p pos : Pos} (hg : Gl X "range") (hm : X.mg "range" = none) (ha : QA X [a] ta) (hs : starEach [a] X.env = [(false, eval a X.env)] := by rfl) : QI X tg (.Call (.Name "range" p) [a] [] pos) (iRng1 ta) := ⟨L2.pi_range1 (hg := hg) (hm := hm) (ha := ha.run) (hs := hs)⟩
theorem qi_list {X : Cx} {tg : Expr} {l : Expr} {tl : TE} (hl : QE X l tl) : QI X tg l (iList X.K tl) := ⟨L2.pi_list (hl := hl.run)⟩
theorem qg_name {X : Cx} {pos : Pos} {i : Nat} {x : Str} (hN : X.N.Nodup) (hi : X.N[i]? = some x) (hx : Loc X.env.scope x) (hf : X.fn x = true ∨ X.env.scope.names.lookup x = some .local := by first | exact .inl rfl | exact .inr rfl | assumption) : QG X (.Name x pos) (gName i) := ⟨L2.pg_name (hN := hN) (hi := hi) (hx := hx) (hf := hf)⟩
theorem qg_tup {X : Cx} {pos : Pos} {es : List Expr} {k : Nat} {t : TGs} {n : Nat} (hc : X.calm = true) (h : QGs X es t) (hn : (assignEach es X.env).length = n := by rfl) (hst : (assignEach es X.env).findIdx? (·.1) = none := by rfl) : QG X (.Tuple es k pos) (gTup X.K n t) := ⟨L2.pg_tup (hc := hc) (h := h.run) (hn := hn) (hst := hst)⟩
theorem qgs_nil {X : Cx} : QGs X [] gNil := ⟨L2.pgs_nil ⟩
theorem qgs_cons {X : Cx} {e : Expr} {es : List Expr} {t : TG} {u : TGs} (h1 : QG X e t) (h2 : QGs X es u) (hs : (assignEach (e :: es) X.env).map (·.2) = assign e X.env :: (assignEach es X.env).map (·.2) := by rfl) : QGs X (e :: es) (gCons t u) := ⟨L2.pgs_cons (h1 := h1.run) (h2 := h2.run) (hs := hs)⟩
theorem qo_none {X : Cx} : QO X none tNoPart := ⟨L2.po_none ⟩
theorem qo_some {X : Cx} {e : Expr} {te : TE} (h : QE X e te) : QO X (some e) (tPart te) := ⟨L2.po_some (h := h.run)⟩
/-- a def's body, shut -/
theorem okQ {P : Program} {w : World} {K : PySem.W.Frag} {mg : Str → Option Value} {base : Heap} {x qual : Str} {st : Stmt} {f : Addr} {fd : FuncData} {N ps : List Str} {k : Nat} {sp : Sp} (F : Fun K x qual st f fd) (S : FnScope N ps (defScope st)) (len : ∀ vs H Q E, sp vs H Q E → vs.length = ps.length)
    (hb : ∀ (cdv : Value) (A : Around) (outer : List Env) (s : Shared) (H : Hp) (vs : List V) (Q : VK) (E : XK), Room k (A.deeper (envOfC qual (defScope st) s.heap.objs.size f cdv)) → sp vs H Q E →
      ∃ t, QSs (cxOf CX0 P w K mg base N qual (defScope st) f cdv A outer s H E).nox (defBody st) t ∧ t { nx := fun _ H' => Q .non H', rt := Q } (start N vs) H) : FnOk P w K mg base CX0 (k + 1) f fd ps sp :=
  F.ok S len fun cdv A outer s H vs Q E hr h => let ⟨t, q, r⟩ := hb cdv A outer s H vs Q E hr h; ⟨t, q.run, r⟩
end Sw

/-! ## small things in use by many laws -/
namespace Sw
open PySem PySem.Spec PyProof.Rows L2
theorem bt_len : bootBuiltins "len" = some (.builtin "len") := by decide +kernel
theorem bt_min : bootBuiltins "min" = some (.builtin "min") := by decide +kernel
theorem bt_int : bootBuiltins "int" = some (.type "int") := by decide +kernel
theorem bt_tuple : bootBuiltins "tuple" = some (.type "tuple") := by decide +kernel
theorem small {n : Nat} (h : n ≤ 1000000) : n ≤ sizeLine := Nat.le_trans h (by decide)
theorem smallL {n : Nat} (h : n ≤ 1000000) : n < sizeLine := Nat.lt_of_le_of_lt h (by decide)
theorem cut_from (xs : List V) (k : Nat) : cutV xs (some (k : Int)) none = xs.drop k := by
  unfold cutV
  rw [HT.sIx_nat, HT.sIx_none]
  by_cases h : k ≤ xs.length
  · rw [Nat.min_eq_left h, List.take_of_length_le (by rw [List.length_drop]; omega)]
  · rw [Nat.min_eq_right (by omega), List.drop_eq_nil_of_le (by omega), List.drop_eq_nil_of_le (by omega), List.take_nil]
theorem cut_to (xs : List V) (k : Nat) : cutV xs none (some (k : Int)) = xs.take k := by
  unfold cutV
  rw [HT.sIx_nat, HT.sIx_none, List.drop_zero, Nat.sub_zero]
  by_cases h : k ≤ xs.length
  · rw [Nat.min_eq_left h]
  · rw [Nat.min_eq_right (by omega), List.take_of_length_le (Nat.le_refl _), List.take_of_length_le (by omega)]
section
variable {K : PySem.W.Frag}

/-! ### tests, evaluated -/
theorem t_and {t u : TT} {σ : Sg} {H H1 H2 : Hp} {Q : Bool → Hp → Prop} {b1 b2 : Bool} (h1 : ∀ R : Bool → Hp → Prop, R b1 H1 → t σ H R) (h2 : ∀ R : Bool → Hp → Prop, R b2 H2 → u σ H1 R) (q1 : b1 = true → Q b2 H2) (q2 : b1 = false → Q false H1) : tAnd t u σ H Q := by
  refine h1 _ ?_
  cases b1 with
  | true => exact iteT (h2 _ (q1 rfl))
  | false => exact iteF (q2 rfl)
theorem t_and0 {t u : TT} {σ : Sg} {H : Hp} {Q : Bool → Hp → Prop} {b1 b2 : Bool} (h1 : ∀ R : Bool → Hp → Prop, R b1 H → t σ H R) (h2 : ∀ R : Bool → Hp → Prop, R b2 H → u σ H R) (q : Q (b1 && b2) H) : tAnd t u σ H Q :=
  t_and h1 h2 (fun e => by subst e; exact q) (fun e => by subst e; exact q)
end
end Sw

/-! ## tuples added and repeated, comprehensions whose elements change the heap, decks -/
namespace Sw
open PySem PySem.Spec PyProof.Rows L2
section
variable {X : Cx}
/-- t + u, any tuples -/
def rCatTA (K : PySem.W.Frag) : R2 := fun x y H Q => ∃ a b xs ys, x = .ref a ∧ y = .ref b ∧ SqT K H a xs ∧ SqT K H b ys ∧ xs.length + ys.length ≤ sizeLine ∧ ∀ p H', Same H H' → SqT K H' p (xs ++ ys) → Q (.ref p) H'
theorem op_catTA : OpR X (binaryOp .Add) (rCatTA X.K) := by
  intro pins s σ H x y v u Q I rx ry h
  obtain ⟨a, b, xs, ys, rfl, rfl, ha, hb, hz, q⟩ := h
  by_cases hx : xs = []
  · subst hx
    cases rx
    cases ry
    obtain ⟨its, r1, p1, _⟩ := I.tuple ha
    obtain ⟨its2, r2, p2, _⟩ := I.tuple hb
    have e1 : its = [] := r1.nil_iff.mpr rfl
    subst e1
    obtain ⟨⟨cls, dd, data, sl⟩, ho, hc, n, hd⟩ := id p1
    obtain ⟨⟨cls2, dd2, data2, sl2⟩, ho2, hc2, n2, hd2⟩ := id p2
    simp only at hc hd hc2 hd2
    subst hc hd hc2 hd2
    exact concat_meets ⟨_, ho, rfl⟩ ⟨_, ho2, rfl⟩ noFill_tuple_add seq_tuple_add PySem.F.slot_tuple_add PySem.F.entry_tuple_add (PySem.F.args_tuple_add_2 _ _)
      (tuple_addW0 a b ([] : List Value).toArray its2.toArray n n2 dd dd2 sl sl2 rfl) ⟨ho, ho2, ⟨.ref b, H, I, rfl, q b H (Same.refl H) hb⟩⟩
  · refine op_catT pins s σ H _ _ v u Q I rx ry ⟨a, b, xs, ys, rfl, rfl, ha, hb, hx, hz, fun e => ?_, fun _ p hp => q p _ (same_new hp _) (SqT.of upd_same)⟩
    subst e
    exact q a H (Same.refl H) (by rw [List.append_nil]; exact ha)

/-! ### t * n -/
theorem noFill_tuple_mul : fillsNumberSlot (.type "tuple") "mul" = pure false := by
  first | kernel_rfl | (unfold fillsNumberSlot; kernel_rfl)
theorem repeat_tuple : seqRepeat? (.type "tuple") = pure (some (.builtin "tuple.__mul__")) := by
  unfold seqRepeat?
  first | kernel_rfl | (simp only [typeLookup_type, builtinLookup_eq_fast]; kernel_rfl) | rfl
theorem rmul_tuple (a : Int) (t : Tok) (l : Addr) (items : Array Value) (n : Nat) (dd : Option Addr) (sl : Array (Option Value)) :
    Meets (Builtin.«int.__rmul__» ⟨[.int a t, .ref l], []⟩) (fun _ R s => s.heap.get? l = some { cls := .type "tuple", dict := dd, data := .seq items n, slots := sl } ∧ R (.ok (.ret Value.notImplemented)) s) :=
  .of_wp fun prog w A R s h => by
    obtain ⟨hp, g, d, tk, os⟩ := s
    obtain ⟨hl, h⟩ := h
    wp_walk
    exact ⟨_, rfl, h⟩
theorem tmul_same (l : Addr) (items : Array Value) (n : Nat) (dd : Option Addr) (sl : Array (Option Value)) (k : Int) (t : Tok) (h0 : (items.isEmpty || k == 1) = true) (h1 : ¬ (decide (k < -(2 ^ 63)) || decide (k ≥ 2 ^ 63)) = true) :
    Meets (Builtin.«tuple.__mul__» ⟨[.ref l, .int k t], []⟩) (fun _ R s => s.heap.get? l = some { cls := .type "tuple", dict := dd, data := .seq items n, slots := sl } ∧ R (.ok (.ret (.ref l))) s) :=
  .of_wp fun prog w A R s h => by
    obtain ⟨hp, g, d, tk, os⟩ := s
    obtain ⟨hl, h⟩ := h
    have f1 := AutoSeq1.idx_int
    have f2 := AutoSeq1.sub_tuple_tuple
    wp_walk using AutoSeq1.wpAny_loadPart' hl
    rw [if_neg h1]
    wp_walk using AutoSeq1.wpAny_loadPart' hl
    exact ⟨_, rfl, h⟩
theorem tmul_zero (l : Addr) (items : Array Value) (n : Nat) (dd : Option Addr) (sl : Array (Option Value)) (k : Int) (t : Tok) (h0 : ¬ (items.isEmpty || k == 1) = true) (h1 : ¬ (decide (k < -(2 ^ 63)) || decide (k ≥ 2 ^ 63)) = true) (h2 : (decide (k ≤ 0) || items.isEmpty) = true) :
    Meets (Builtin.«tuple.__mul__» ⟨[.ref l, .int k t], []⟩) (fun _ R s => s.heap.get? l = some { cls := .type "tuple", dict := dd, data := .seq items n, slots := sl } ∧ R (.ok (.ret (.ref s.heap.objs.size))) { s with heap := s.heap.push { cls := .type "tuple", data := .seq #[] } }) :=
  .of_wp fun prog w A R s h => by
    obtain ⟨hp, g, d, tk, os⟩ := s
    obtain ⟨hl, h⟩ := h
    have f1 := AutoSeq1.idx_int
    have f2 := AutoSeq1.sub_tuple_tuple
    wp_walk using AutoSeq1.wpAny_loadPart' hl
    rw [if_neg h1]
    wp_walk using AutoSeq1.wpAny_loadPart' hl
    exact ⟨_, rfl, h⟩
theorem tmul_more (l : Addr) (items : Array Value) (n : Nat) (dd : Option Addr) (sl : Array (Option Value)) (k : Int) (t : Tok) (h0 : ¬ (items.isEmpty || k == 1) = true) (h1 : ¬ (decide (k < -(2 ^ 63)) || decide (k ≥ 2 ^ 63)) = true) (h2 : ¬ (decide (k ≤ 0) || items.isEmpty) = true)
    (h3 : ¬ (items.size : Int) * k > (2 ^ 63 - 1) / 8) (h4 : ¬ Builtin.Tuple.tupleTooMany ((items.size : Int) * k) = true) (h5 : ((List.replicate k.toNat items).foldl (· ++ ·) #[]).size ≤ sizeLine) :
    Meets (Builtin.«tuple.__mul__» ⟨[.ref l, .int k t], []⟩) (fun _ R s => s.heap.get? l = some { cls := .type "tuple", dict := dd, data := .seq items n, slots := sl } ∧ R (.ok (.ret (.ref s.heap.objs.size))) { s with heap := s.heap.push { cls := .type "tuple", data := .seq ((List.replicate k.toNat items).foldl (· ++ ·) #[]) } }) :=
  .of_wp fun prog w A R s h => by
    obtain ⟨hp, g, d, tk, os⟩ := s
    obtain ⟨hl, h⟩ := h
    have f1 := AutoSeq1.idx_int
    have f2 := AutoSeq1.sub_tuple_tuple
    wp_walk using AutoSeq1.wpAny_loadPart' hl
    rw [if_neg h1]
    wp_walk using AutoSeq1.wpAny_loadPart' hl
    rw [if_neg h3]
    wp_walk using AutoSeq1.wpAny_loadPart' hl
    exact ⟨_, rfl, h⟩
def repV (xs : List V) (k : Int) : List V := (List.replicate k.toNat xs).flatten
/-- t * k -/
def rRepTA (K : PySem.W.Frag) : R2 := fun x y H Q => ∃ a k xs, x = .ref a ∧ y = .int k ∧ SqT K H a xs ∧ -(2 ^ 62) ≤ k ∧ k < 2 ^ 62 ∧ xs.length * k.toNat ≤ sizeLine ∧ ∀ p H', Same H H' → SqT K H' p (repV xs k) → Q (.ref p) H'
theorem op_repTA : OpR X (binaryOp .Mult) (rRepTA X.K) := by
  intro pins s σ H x y v u Q I rx ry h
  obtain ⟨a, k, xs, rfl, rfl, ha, h1, h2, hz, q⟩ := h
  cases rx
  obtain ⟨t, rfl⟩ := ry
  obtain ⟨its, r, p1, hzx⟩ := I.tuple ha
  have hlen := r.length
  obtain ⟨⟨cls, dd, data, sl⟩, ho, hc, n, hd⟩ := id p1
  simp only at hc hd
  subst hc hd
  have b1 : ¬ (decide (k < -(2 ^ 63)) || decide (k ≥ 2 ^ 63)) = true := by
    rw [decide_eq_false (by omega), decide_eq_false (by omega)]
    decide
  refine wpAny_binaryOp_repeat_ref (T := "tuple") (U := "int") (by decide) ⟨_, ho, rfl⟩ (fun s' => typeIs_int s' k t) noFill_tuple_mul F.fills_int_mul F.slot_int_rmul repeat_tuple F.slot_int_index.lookup
    (call_meets F.slot_int_rmul (typeIs_int s k t) F.entry_int_rmul (F.args_int_rmul_2 _ _) (rmul_tuple k t a its.toArray n dd sl) ⟨ho, rfl, ⟨_, ho, rfl⟩, ?_⟩)
  by_cases c0 : (its.toArray.isEmpty || k == 1) = true
  · refine call_meets F.slot_tuple_mul ⟨_, ho, rfl⟩ F.entry_tuple_mul (F.args_tuple_mul_2 _ _) (tmul_same a its.toArray n dd sl k t c0 b1) ⟨ho, ⟨.ref a, H, I, rfl, q a H (Same.refl H) ?_⟩⟩
    rcases Bool.or_eq_true_iff.mp c0 with z | z
    · have : its = [] := by simpa using z
      have hx : xs = [] := r.nil_iff.mp this
      subst hx
      have : repV ([] : List V) k = [] := by unfold repV; simp
      rw [this]
      exact ha
    · have : k = 1 := by simpa using z
      subst this
      have : repV xs 1 = xs := by unfold repV; simp
      rw [this]
      exact ha
  · by_cases c2 : (decide (k ≤ 0) || its.toArray.isEmpty) = true
    · refine call_meets F.slot_tuple_mul ⟨_, ho, rfl⟩ F.entry_tuple_mul (F.args_tuple_mul_2 _ _) (tmul_zero a its.toArray n dd sl k t c0 b1 c2) ⟨ho, ?_⟩
      have hk : k ≤ 0 := by
        rcases Bool.or_eq_true_iff.mp c2 with z | z
        · exact of_decide_eq_true z
        · rw [z] at c0
          exact absurd rfl c0
      have e0 : repV xs k = [] := by
        unfold repV
        rw [show k.toNat = 0 by omega]
        rfl
      refine ⟨.ref s.heap.objs.size, _, I.laid (t' := s.toks) (o := .tup []) (fun b ob z => Heap.get?_push_of_some _ z) (Nat.le_refl _) ?_, rfl, q _ _ (same_new (I.hok.fresh (Nat.le_refl _)) _) (by rw [e0]; exact SqT.of upd_same)⟩
      exact ⟨Nat.zero_le _, [], .nil, IsTup.new _ _⟩
    · have hk : 0 < k := by
        by_cases hk : k ≤ 0
        · rw [decide_eq_true hk] at c2
          exact absurd rfl c2
        · omega
      have hsz : its.toArray.size * k.toNat ≤ sizeLine := by rw [List.size_toArray, ← hlen]; exact hz
      have hsl : (sizeLine : Nat) = 16777216 := sizeLine_eq
      have hpr : (its.toArray.size : Int) * k = ((its.toArray.size * k.toNat : Nat) : Int) := by
        rw [Int.natCast_mul, show ((k.toNat : Nat) : Int) = k by omega]
      have hnew : (List.replicate k.toNat its.toArray).foldl (· ++ ·) #[] = (List.replicate k.toNat its).flatten.toArray := by
        have := foldl_rep its k.toNat []
        rw [List.nil_append] at this
        exact this
      have hrl : (List.replicate k.toNat its).flatten.length ≤ sizeLine := by
        rw [len_rep, Nat.mul_comm]
        simpa using hsz
      refine call_meets F.slot_tuple_mul ⟨_, ho, rfl⟩ F.entry_tuple_mul (F.args_tuple_mul_2 _ _) (tmul_more a its.toArray n dd sl k t c0 b1 c2 ?_ ?_ ?_) ⟨ho, ?_⟩
      · rw [hpr]
        have : ((2 : Int) ^ 63 - 1) / 8 = 1152921504606846975 := by decide
        rw [this]
        omega
      · unfold Builtin.Tuple.tupleTooMany
        rw [hpr, decide_eq_false (by omega)]
        decide
      · rw [hnew, List.size_toArray]
        exact hrl
      · rw [hnew]
        have rr := r.rep k.toNat
        refine ⟨.ref s.heap.objs.size, _, I.laid (t' := s.toks) (o := .tup (repV xs k)) (fun b ob z => Heap.get?_push_of_some _ z) (Nat.le_refl _) ?_, rfl, q _ _ (same_new (I.hok.fresh (Nat.le_refl _)) _) (SqT.of upd_same)⟩
        exact ⟨by unfold repV; rw [rr.length]; exact hrl, _, rr, IsTup.new _ _⟩
end

/-! ### a comprehension whose elements change the heap -/
theorem lc_rangeI {H : Hp} {lo : Int} {n : Nat} {σ : Sg} {js : List Nat} {te : TE} {Q : VK} (J : Addr → Nat → List V → Hp → Prop) (hz : n ≤ sizeLine) (h0 : ∀ D, H D = none → J D 0 [] (upd H D (.lst [])))
    (hD : ∀ D i ys H', J D i ys H' → H' D = some (.lst ys) ∧ ys.length = i)
    (hte : ∀ D i ys H' (R : VK), i < n → J D i ys H' → (∀ y H3, H3 D = some (.lst ys) → J D (i + 1) (ys ++ [y]) (upd H3 D (.lst (ys ++ [y]))) → R y H3) → te (some (.int (lo + i)) :: frv σ js) H' R)
    (q : ∀ D ys H', J D n ys H' → Q (.ref D) H') : LcRun (Itr lo n) js te σ Q H := by
  intro D hDn
  refine ⟨fun i m ys H' => m = n - i ∧ i ≤ n ∧ J D i ys H', ⟨n, by omega, Nat.zero_le _, h0 D hDn⟩, ?_⟩
  rintro i m ys H' ⟨rfl, hi, hj⟩
  obtain ⟨h1, h2⟩ := hD D i ys H' hj
  refine ⟨h1, ?_⟩
  by_cases hlt : i < n
  · refine .inr ⟨hlt, fun x H2 y => ?_⟩
    obtain ⟨e, y⟩ := y
    subst e
    subst y
    exact hte D i ys _ _ hlt hj fun y H3 g1 g2 => ⟨g1, by omega, n - (i + 1), by omega, rfl, hlt, g2⟩
  · have e : i = n := by omega
    subst e
    exact .inl ⟨Nat.le_refl _, q D ys H' hj⟩
theorem lc_listI {K : PySem.W.Frag} {H : Hp} {a : Addr} {xs : List V} {σ : Sg} {js : List Nat} {te : TE} {Q : VK} (J : Addr → Nat → List V → Hp → Prop) (hz : xs.length ≤ sizeLine) (h0 : ∀ D, H D = none → J D 0 [] (upd H D (.lst [])))
    (hD : ∀ D i ys H', J D i ys H' → H' D = some (.lst ys) ∧ ys.length = i ∧ SqL K H' a xs)
    (hte : ∀ D i x ys H' (R : VK), xs[i]? = some x → J D i ys H' → (∀ y H3, H3 D = some (.lst ys) → J D (i + 1) (ys ++ [y]) (upd H3 D (.lst (ys ++ [y]))) → R y H3) → te (some x :: frv σ js) H' R)
    (q : ∀ D ys H', J D xs.length ys H' → Q (.ref D) H') : LcRun (Itl K a) js te σ Q H := by
  intro D hDn
  refine ⟨fun i m ys H' => m = xs.length - i ∧ i ≤ xs.length ∧ J D i ys H', ⟨xs.length, by omega, Nat.zero_le _, h0 D hDn⟩, ?_⟩
  rintro i m ys H' ⟨rfl, hi, hj⟩
  obtain ⟨h1, h2, h3⟩ := hD D i ys H' hj
  refine ⟨h1, ?_⟩
  by_cases hlt : i < xs.length
  · refine .inr ⟨⟨xs, xs[i], h3, List.getElem?_eq_getElem hlt⟩, fun x H2 y => ?_⟩
    obtain ⟨e, y⟩ := y
    subst e
    exact hte D i x ys _ _ (y xs h3) hj fun y H3 g1 g2 => ⟨g1, by omega, xs.length - (i + 1), by omega, rfl, hlt, g2⟩
  · have e : i = xs.length := by omega
    subst e
    exact .inl ⟨⟨xs, h3, Nat.le_refl _⟩, q D ys H' hj⟩

/-! ### a deck: a list of ints that is drawn from -/
def DkAt (H : Hp) (p : Addr) : Prop := ∃ ns : List Int, H p = some (.lst (ns.map V.int))
/-- all but the deck at p stays -/
structure Dr (p : Addr) (H H' : Hp) : Prop where
  keep : ∀ b o, b ≠ p → H b = some o → H' b = some o
  deck : DkAt H' p
theorem Dr.refl {p : Addr} {H : Hp} (d : DkAt H p) : Dr p H H := ⟨fun _ _ _ e => e, d⟩
theorem Dr.trans {p : Addr} {H H1 H2 : Hp} (a : Dr p H H1) (b : Dr p H1 H2) : Dr p H H2 := ⟨fun c o n e => b.keep c o n (a.keep c o n e), b.deck⟩
theorem Dr.same {p : Addr} {H H1 H2 : Hp} (a : Dr p H H1) (S : Same H1 H2) : Dr p H H2 := ⟨fun c o n e => S c o (a.keep c o n e), let ⟨ns, e⟩ := a.deck; ⟨ns, S _ _ e⟩⟩
theorem Dr.kt {p : Addr} {H H' : Hp} (d : DkAt H p) (a : Dr p H H') : Kt H H' := by
  obtain ⟨ns, e⟩ := d
  exact ⟨fun b xs q => a.keep b _ (ne_of q e (fun z => by cases z)) q, fun b o u q => a.keep b _ (ne_of q e (fun z => by cases z)) q⟩
theorem Dr.upd {p b : Addr} {H H' : Hp} {o : HO} (a : Dr p H H') (h : H b = none) (hp : b ≠ p) : Dr p H (upd H' b o) :=
  ⟨fun c u n e => by rw [upd_ne (ne_of_none e h)]; exact a.keep c u n e, let ⟨ns, e⟩ := a.deck; ⟨ns, by rw [upd_ne (Ne.symm hp)]; exact e⟩⟩
end Sw

/-! ## a comprehension whose list goes straight into a name -/
namespace Sw
open PySem PySem.Spec PyProof.Rows L2
section
variable {X : Cx} {scope : Scope} {cl : List (Str × Addr)} {x : Str} {fr : List Str} {js : List Nat} {elt iter : Expr} {px pos : Pos} {wi : TI} {te : TE} {pins : List (Addr × Obj)} {s : Shared} {σ : Sg} {H : Hp}

end
end Sw

/-! ## what is done with trees, read as trees -/
namespace Sw
open PySem PySem.Spec PyProof.Rows L2
section
variable {K : PySem.W.Frag} {H : Hp} {Q : VK}
theorem nCat {ts us : List T} {x y : V} (hx : TR K H (.node ts) x) (hy : TR K H (.node us) y) (hz : ts.length + us.length ≤ sizeLine) (q : ∀ z H', Same H H' → TR K H' (.node (ts ++ us)) z → Q z H') : rCatTA K x y H Q := by
  obtain ⟨a, xs, rfl, ha, ra⟩ := TR_node.mp hx
  obtain ⟨b, ys, rfl, hb, rb⟩ := TR_node.mp hy
  refine ⟨a, b, xs, ys, rfl, rfl, ha, hb, by rw [ra.length, rb.length]; exact hz, fun p H' S h => q _ _ S (TR_mk h ((ra.append rb).mono (.of S)))⟩
theorem TRs.at {ts : List T} {xs : List V} (h : TRs K H ts xs) {i : Nat} {t : T} (e : ts[i]? = some t) : ∃ x, xs[i]? = some x ∧ TR K H t x := by
  have hl := h.length
  have hi : i < ts.length := (List.getElem?_eq_some_iff.mp e).1
  have e2 : xs[i]? = some (xs[i]'(by omega)) := List.getElem?_eq_getElem _
  obtain ⟨t', e3, h3⟩ := h.get e2
  rw [e] at e3
  cases e3
  exact ⟨_, e2, h3⟩
theorem nIx {ts : List T} {x y : V} {t : T} (hx : TR K H (.node ts) x) (i : Nat) (e : ts[i]? = some t) (q : ∀ z, TR K H t z → Q z H) (hy : y = .int ((i : Nat) : Int) := by rfl) : rIxT K x y H Q := by
  obtain ⟨a, xs, rfl, ha, ra⟩ := TR_node.mp hx
  obtain ⟨v, e2, h2⟩ := ra.at e
  exact ⟨a, xs, _, v, rfl, hy, ha, atI_nat e2, q v h2⟩
theorem nFrom {ts : List T} {x : V} (hx : TR K H (.node ts) x) (k : Nat) {j : Option Int} (q : ∀ z H', Same H H' → TR K H' (.node (ts.drop k)) z → Q z H') (hj : j = some ((k : Nat) : Int) := by rfl) : rSlTA K x j none H Q := by
  obtain ⟨a, xs, rfl, ha, ra⟩ := TR_node.mp hx
  subst hj
  refine ⟨a, xs, rfl, ha, fun p H' S h => q _ _ S (TR_mk h ?_)⟩
  rw [cut_from]
  exact (ra.drop k).mono (.of S)
theorem nTo {ts : List T} {x : V} (hx : TR K H (.node ts) x) (k : Nat) {j : Option Int} (q : ∀ z H', Same H H' → TR K H' (.node (ts.take k)) z → Q z H') (hj : j = some ((k : Nat) : Int) := by rfl) : rSlTA K x none j H Q := by
  obtain ⟨a, xs, rfl, ha, ra⟩ := TR_node.mp hx
  subst hj
  refine ⟨a, xs, rfl, ha, fun p H' S h => q _ _ S (TR_mk h ?_)⟩
  rw [cut_to]
  exact (ra.take k).mono (.of S)
theorem trs1 {t : T} {x : V} (h : TR K H t x) : TRs K H [t] [x] := TRs_cons.mpr ⟨x, [], rfl, h, TRs_nil.mpr rfl⟩
theorem trs2 {t u : T} {x y : V} (h : TR K H t x) (g : TR K H u y) : TRs K H [t, u] [x, y] := TRs_cons.mpr ⟨x, [y], rfl, h, trs1 g⟩
theorem trs3 {t u r : T} {x y z : V} (h : TR K H t x) (g : TR K H u y) (k : TR K H r z) : TRs K H [t, u, r] [x, y, z] := TRs_cons.mpr ⟨x, [y, z], rfl, h, trs2 g k⟩
end
section
variable {X : Cx} {K : PySem.W.Frag}
end
/-- a comprehension over a range, each turn drawing a tree out of the deck at p -/
theorem lc_draw {K : PySem.W.Frag} {p : Addr} {H1 : Hp} {n : Nat} {lo : Int} {σ : Sg} {js : List Nat} {te : TE} {Q : VK} (Sh : T → Prop) (hk : DkAt H1 p) (hn : n ≤ sizeLine)
    (hte : ∀ (i : Nat) H' (R : VK), i < n → Dr p H1 H' → (∀ y t H3, Dr p H' H3 → TR K H3 t y → Sh t → R y H3) → te (some (.int (lo + i)) :: frv σ js) H' R)
    (q : ∀ D ys ts H', Dr p H1 H' → H' D = some (.lst ys) → ts.length = n → TRs K H' ts ys → (∀ t ∈ ts, Sh t) → Q (.ref D) H') : LcRun (Itr lo n) js te σ Q H1 := by
  refine lc_rangeI (fun D i ys H' => D ≠ p ∧ H1 D = none ∧ Dr p H1 H' ∧ H' D = some (.lst ys) ∧ ys.length = i ∧ ∃ ts, TRs K H' ts ys ∧ ∀ t ∈ ts, Sh t) hn (fun D hD => ?_) (fun D i ys H' j => ⟨j.2.2.2.1, j.2.2.2.2.1⟩) (fun D i ys H' R hi j hR => ?_) (fun D ys H' j => ?_)
  · have hne : D ≠ p := fun z => by
      obtain ⟨ns, e1⟩ := hk
      rw [z, e1] at hD; cases hD
    exact ⟨hne, hD, (Dr.refl hk).upd hD hne, upd_same, rfl, [], TRs_nil.mpr rfl, fun _ h => by simp at h⟩
  · obtain ⟨hne, hD, Dh, h1, hl, ts, htr, hsh⟩ := j
    refine hte i H' R hi Dh fun y t H3 D3 ht hs => ?_
    have h3 := D3.keep D _ hne h1
    refine hR y H3 h3 ⟨hne, hD, (Dh.trans D3).upd hD hne, upd_same, by rw [List.length_append, hl]; rfl, ts ++ [t], ?_, fun u hu => ?_⟩
    · exact TRs.append ((htr.mono (D3.kt Dh.deck)).mono (Kt.lst h3)) (TRs_cons.mpr ⟨y, [], rfl, ht.mono (Kt.lst h3), TRs_nil.mpr rfl⟩)
    · rcases List.mem_append.mp hu with z | z
      · exact hsh u z
      · rw [List.mem_singleton.mp z]; exact hs
  · obtain ⟨hne, hD, Dh, h1, hl, ts, htr, hsh⟩ := j
    exact q D ys ts H' Dh h1 (by rw [← htr.length]; exact hl) htr hsh
/-! ### all([..]) of a list of truths; the same of trees -/
section
variable {X : Cx}
end
/-! ### bounds of trees -/
/-- at most a deep, of at most b parts -/
def B (a b : Nat) (t : T) : Prop := t.deep ≤ a ∧ t.parts ≤ b
theorem B.le {a b a' b' : Nat} {t : T} (h : B a b t) (h1 : a ≤ a') (h2 : b ≤ b') : B a' b' t := ⟨Nat.le_trans h.1 h1, Nat.le_trans h.2 h2⟩
theorem B_nil : B 0 1 (.node []) := ⟨by rw [T.deep_node, T.deepL_nil]; omega, by rw [T.parts_node, T.partsL_nil]; omega⟩
theorem B_cons {a b a' b' : Nat} {t : T} {ts : List T} (h : B a b t) (g : B a' b' (.node ts)) : B (max (a + 1) a') (b + b') (.node (t :: ts)) := by
  obtain ⟨h1, h2⟩ := h
  obtain ⟨g1, g2⟩ := g
  rw [T.deep_node] at g1
  rw [T.parts_node] at g2
  refine ⟨?_, ?_⟩
  · rw [T.deep_node, T.deepL_cons]; omega
  · rw [T.parts_node, T.partsL_cons]; omega
theorem B_cat {a b a' b' : Nat} {us : List T} (g : B a' b' (.node us)) : ∀ {ts : List T}, B a b (.node ts) → B (max a a') (b + b') (.node (ts ++ us))
  | [], _ => g.le (by omega) (by omega)
  | t :: ts, h => by
    obtain ⟨h1, h2⟩ := h
    rw [T.deep_node, T.deepL_cons] at h1
    rw [T.parts_node, T.partsL_cons] at h2
    have q := B_cat g (ts := ts) (a := a) (b := b - t.parts) ⟨by rw [T.deep_node]; omega, by rw [T.parts_node]; omega⟩
    have q1 := q.1
    have q2 := q.2
    rw [T.deep_node] at q1
    rw [T.parts_node] at q2
    refine ⟨?_, ?_⟩
    · rw [List.cons_append, T.deep_node, T.deepL_cons]; omega
    · rw [List.cons_append, T.parts_node, T.partsL_cons]; omega
theorem B_tup1 {a b : Nat} {t : T} (h : B a b t) : B (a + 1) (b + 1) (.node [t]) := (B_cons h B_nil).le (by omega) (by omega)
theorem B_row {a b n : Nat} : ∀ {ts : List T}, (∀ t ∈ ts, B a b t) → ts.length ≤ n → B (a + 1) (1 + n * b) (.node ts)
  | [], _, _ => B_nil.le (by omega) (by omega)
  | t :: ts, h, hl => by
    rw [List.length_cons] at hl
    obtain ⟨m, rfl⟩ : ∃ m, n = m + 1 := ⟨n - 1, by omega⟩
    refine (B_cons (h t List.mem_cons_self) (B_row (n := m) (fun u hu => h u (List.mem_cons_of_mem _ hu)) (by omega))).le (by omega) ?_
    rw [Nat.succ_mul]; omega
theorem B.len {a b : Nat} {ts : List T} (h : B a b (.node ts)) : ts.length < b := by
  have h2 := h.2
  rw [T.parts_node] at h2
  have : ∀ us : List T, us.length ≤ T.partsL us := fun us => by
    induction us with
    | nil => exact Nat.zero_le _
    | cons u us ih =>
      rw [List.length_cons, T.partsL_cons]
      have : 1 ≤ u.parts := by cases u; rw [T.parts_node]; omega
      omega
  have := this ts
  omega
/-- a tuple laid down, as a tree -/
theorem tupN {K : PySem.W.Frag} {H : Hp} {p : Addr} {xs : List V} {ts : List T} (hp : H p = none) (h : TRs K H ts xs) : Same H (upd H p (.tup xs)) ∧ TR K (upd H p (.tup xs)) (.node ts) (.ref p) :=
  ⟨same_new hp _, TR_mk (SqT.of upd_same) (h.mono (.new hp))⟩
/-- how many parts a drawn tree of so many deep has at most -/
def pbT : Nat → Nat
  | 0 => 1
  | d + 1 => 1 + 3 * pbT d
theorem partsL_le {ts : List T} {n b : Nat} (hl : ts.length ≤ n) (h : ∀ t ∈ ts, t.parts ≤ b) : T.partsL ts ≤ n * b :=
  Nat.le_trans (T.partsL_le_of h) (Nat.mul_le_mul_right b hl)
theorem leaf_tr {K : PySem.W.Frag} {H : Hp} {p : Addr} (h : H p = some (.tup [])) : TR K H (.node []) (.ref p) := TR_mk (xs := []) (SqT.of h) (TRs_nil.mpr rfl)
theorem trs_rep {K : PySem.W.Frag} {H : Hp} {t : T} {x : V} (h : TR K H t x) : ∀ n : Nat, TRs K H (List.replicate n t) (List.replicate n x)
  | 0 => TRs_nil.mpr rfl
  | n + 1 => by
    rw [List.replicate_succ, List.replicate_succ]
    exact TRs_cons.mpr ⟨x, _, rfl, h, trs_rep h n⟩

/-! ### drawing -/
def spDeck (K : PySem.W.Frag) : Sp := fun vs H Q _ => ∃ (a : Addr) (ns : List Int), vs = [.ref a] ∧ SqL K H a (ns.map V.int) ∧ ns.length ≤ 63 ∧ ∀ p H', Same H H' → H p = none → DkAt H' p → Q (.ref p) H'
def spNext : Sp := fun vs H Q _ => ∃ (p : Addr) (m : Int), vs = [.ref p, .int m] ∧ 0 < m ∧ DkAt H p ∧ ∀ i H', 0 ≤ i → i < m → Dr p H H' → Q (.int i) H'
/-- a drawn tree of at most d deep: at most three items each -/
def ShT : Nat → T → Prop := fun d t => t.deep ≤ d ∧ t.parts ≤ pbT d
def spTree (K : PySem.W.Frag) (n : Nat) : Sp := fun vs H Q _ => ∃ (p : Addr) (d : Nat), vs = [.ref p, .int (d : Int)] ∧ d ≤ n ∧ DkAt H p ∧ ∀ y t H', Dr p H H' → TR K H' t y → ShT d t → Q y H'
def leavesT (n : Nat) : T := .node (List.replicate n (.node []))

theorem B_leaves (n : Nat) : B 1 (1 + n) (leavesT n) := (B_row (n := n) (fun t ht => by rw [List.eq_of_mem_replicate ht]; exact B_nil) (by rw [List.length_replicate]; exact Nat.le_refl _)).le (by omega) (by omega)
theorem ShT.b {d : Nat} {t : T} (h : ShT d t) : B d (pbT d) t := h
theorem lit_at {ns : List Nat} {k : Nat} (hk : k < ns.length) : ∃ c ∈ ns, atI (ns.map fun n : Nat => V.int (n : Int)) (k : Int) = some (.int (c : Int)) :=
  ⟨ns[k], List.getElem_mem hk, atI_nat (by rw [List.getElem?_map, List.getElem?_eq_getElem hk]; rfl)⟩
def spLaw (K : PySem.W.Frag) : Sp := fun vs H Q _ => ∃ (a : Addr) (ns : List Int), vs = [.ref a] ∧ SqL K H a (ns.map V.int) ∧ ns.length ≤ 63 ∧ ∀ H', Q (.bl true) H'
/-! ### words -/
/-- a word's sort -/
def sortT (t : T) : Nat := match t.kids with
  | [] => 0
  | f :: _ => min 9 f.kids.length
def loadT (t : T) : T := .node (t.kids.drop 1)
theorem flat_rep {α : Type} (x : α) (n : Nat) : (List.replicate n [x]).flatten = List.replicate n x := by
  induction n with
  | zero => rfl
  | succ n ih => rw [List.replicate_succ, List.flatten_cons, ih, List.replicate_succ]; rfl
theorem at_mem {ns : List Int} {k : Int} (h0 : 0 ≤ k) (h : k < (ns.length : Int)) : ∃ i ∈ ns, atI (ns.map V.int) k = some (.int i) := by
  have hk : k.toNat < ns.length := by omega
  have e : (ns.map V.int)[k.toNat]? = some (.int ns[k.toNat]) := by rw [List.getElem?_map, List.getElem?_eq_getElem hk]; rfl
  have := atI_nat e
  rw [show ((k.toNat : Nat) : Int) = k by omega] at this
  exact ⟨_, List.getElem_mem hk, this⟩
theorem cut_mid (xs : List V) (i j : Nat) : ∃ k, cutV xs (some (i : Int)) (some (j : Int)) = (xs.drop (min i xs.length)).take k := ⟨_, by unfold cutV; rw [HT.sIx_nat, HT.sIx_nat]⟩
/-- a word of so many leaves in its first -/
def wordT (n : Nat) (us : List T) : T := .node (leavesT n :: us)
def spLay (K : PySem.W.Frag) : Sp := fun vs H Q _ => ∃ x t, vs = [x] ∧ TR K H t x ∧ t.deep ≤ 400 ∧ t.parts ≤ 1000000 ∧ ∀ y H', Same H H' → TR K H' (wordT 0 t.kids) y → Q y H'
def spLoop (K : PySem.W.Frag) : Sp := fun vs H Q _ => ∃ x t, vs = [x] ∧ TR K H t x ∧ t.deep ≤ 400 ∧ t.parts ≤ 1000000 ∧ ∀ y H', Same H H' → TR K H' (wordT 8 t.kids) y → Q y H'
def spPlain (K : PySem.W.Frag) : Sp := fun vs H Q _ => ∃ n : Nat, vs = [.int (n : Int)] ∧ 1 ≤ n ∧ n ≤ 6 ∧ ∀ y H', Same H H' → TR K H' (wordT n []) y → Q y H'
def spFork (K : PySem.W.Frag) : Sp := fun vs H Q _ => ∃ x t y u, vs = [x, y] ∧ TR K H t x ∧ TR K H u y ∧ (t.deep ≤ 400 ∧ t.parts ≤ 1000000) ∧ (u.deep ≤ 400 ∧ u.parts ≤ 1000000) ∧ ∀ z H', Same H H' → TR K H' (wordT 7 (t :: u.kids)) z → Q z H'
end Sw

/-! ## a step, apart from any heap -/
namespace Sw
open PySem PySem.Spec PyProof.Rows L2
theorem nFromP {K : PySem.W.Frag} {H : Hp} {Q : VK} {σ : L2.St} {ts : List T} {x : V} (hx : TR K H (.node ts) x) (k : Nat) {j : Option Int} (q : ∀ z H', Same H H' → TR K H' (.node (ts.drop k)) z → Q z H') (hj : j = some ((k : Nat) : Int) := by rfl) : tNoPart σ H (fun u H3 => rSlTA K x j u H3 Q) := nFrom hx k q hj
theorem nIxP {K : PySem.W.Frag} {H : Hp} {Q : VK} {σ : L2.St} {ts : List T} {x y : V} {t : T} (hx : TR K H (.node ts) x) (i : Nat) (e : ts[i]? = some t) (q : ∀ z, TR K H t z → Q z H) (hy : y = .int ((i : Nat) : Int) := by rfl) : tC y σ H (fun y H2 => rIxT K x y H2 Q) := nIx hx i e q hy
theorem B_loadT {a b : Nat} {t : T} (h : B a b t) : B a b (loadT t) := by
  cases t with
  | node ts =>
    cases ts with
    | nil => exact h
    | cons u us =>
      obtain ⟨h1, h2⟩ := h
      rw [T.deep_node, T.deepL_cons] at h1
      rw [T.parts_node, T.partsL_cons] at h2
      exact ⟨by show (T.node us).deep ≤ a; rw [T.deep_node]; omega, by show (T.node us).parts ≤ b; rw [T.parts_node]; omega⟩
def leaf : T := .node []
def ats (s : List T) (k : Nat) : T := (s[k]?).getD leaf
def many (k : Nat) : Nat := ([0, 1, 1, 2, 2, 1, 3, 1, 1, 0] : List Nat).getD k 0
def pad (s : List T) (n : Nat) : List T := s ++ List.replicate (n - s.length) leaf
theorem pad_of {s : List T} {n : Nat} (h : n ≤ s.length) : pad s n = s := by
  unfold pad
  rw [show n - s.length = 0 by omega, List.replicate_zero, List.append_nil]
theorem pad_len (s : List T) (n : Nat) : n ≤ (pad s n).length := by
  unfold pad
  rw [List.length_append, List.length_replicate]
  omega
/-- the stack behind a word -/
def behind (w : T) (s : List T) : List T :=
  if sortT w = 0 then loadT w :: s
  else if 6 < sortT w then pad s (many (sortT w))
  else if sortT w = 1 then (pad s 1).drop 1
  else if sortT w = 2 then ats (pad s 1) 0 :: ats (pad s 1) 0 :: (pad s 1).drop 1
  else if sortT w = 3 then ats (pad s 2) 1 :: ats (pad s 2) 0 :: (pad s 2).drop 2
  else if sortT w = 4 then .node (ats (pad s 2) 0 :: (ats (pad s 2) 1).kids) :: (pad s 2).drop 2
  else if sortT w = 5 then ats (ats (pad s 1) 0).kids 0 :: .node ((ats (pad s 1) 0).kids.drop 1) :: (pad s 1).drop 1
  else ats (pad s 3) 2 :: ats (pad s 3) 0 :: ats (pad s 3) 1 :: (pad s 3).drop 3
/-- the texts and the stack behind a step, and its place in a tally -/
def onward (tx s : List T) : List T × List T × Nat :=
  match (ats tx 0).kids with
  | [] => (tx.drop 1, s, 12)
  | w :: ws =>
    if sortT w = 7 then
      if (ats s 0).kids ≠ [] then (ats (w.kids.drop 1) 0 :: .node ws :: tx.drop 1, behind w s, 7) else (.node (w.kids.drop 2) :: .node ws :: tx.drop 1, behind w s, 8)
    else if sortT w = 8 then
      if (ats s 0).kids ≠ [] then (loadT w :: tx, behind w s, 9) else (.node ws :: tx.drop 1, behind w s, 10)
    else if sortT w = 9 then (.node ws :: tx.drop 1, behind w s, 11)
    else (.node ws :: tx.drop 1, behind w s, sortT w)
theorem sort_le (w : T) : sortT w ≤ 9 := by
  unfold sortT
  split
  · omega
  · exact Nat.min_le_left _ _
def spSortL (K : PySem.W.Frag) : Sp := fun vs H Q _ => ∃ x t, vs = [x] ∧ TR K H t x ∧ t.deep ≤ 400 ∧ ∀ H', Same H H' → Q (.int (sortT t : Nat)) H'
theorem ats_mem {s : List T} {k : Nat} (h : k < s.length) : s[k]? = some (ats s k) := by
  unfold ats
  rw [List.getElem?_eq_getElem h]
  rfl
theorem kids_node (t : T) : T.node t.kids = t := by cases t; rfl
theorem lit_get {ns : List Nat} {k : Nat} (hk : k < ns.length) : atI (ns.map fun n : Nat => V.int (n : Int)) (k : Int) = some (.int ((ns.getD k 0 : Nat) : Int)) :=
  atI_nat (by rw [List.getElem?_map, List.getElem?_eq_getElem hk, List.getD_eq_getElem?_getD, List.getElem?_eq_getElem hk]; rfl)
section
variable {w : T} {s : List T}
theorem beh0 (h : sortT w = 0) : behind w s = loadT w :: s := by unfold behind; rw [if_pos h]
theorem beh7 (h : 6 < sortT w) : behind w s = pad s (many (sortT w)) := by unfold behind; rw [if_neg (by omega), if_pos h]
theorem beh1 (h : sortT w = 1) : behind w s = (pad s 1).drop 1 := by unfold behind; rw [h]; rfl
theorem beh2 (h : sortT w = 2) : behind w s = ats (pad s 1) 0 :: ats (pad s 1) 0 :: (pad s 1).drop 1 := by unfold behind; rw [h]; rfl
theorem beh3 (h : sortT w = 3) : behind w s = ats (pad s 2) 1 :: ats (pad s 2) 0 :: (pad s 2).drop 2 := by unfold behind; rw [h]; rfl
theorem beh4 (h : sortT w = 4) : behind w s = .node (ats (pad s 2) 0 :: (ats (pad s 2) 1).kids) :: (pad s 2).drop 2 := by unfold behind; rw [h]; rfl
theorem beh5 (h : sortT w = 5) : behind w s = ats (ats (pad s 1) 0).kids 0 :: .node ((ats (pad s 1) 0).kids.drop 1) :: (pad s 1).drop 1 := by unfold behind; rw [h]; rfl
theorem beh6 (h : sortT w = 6) : behind w s = ats (pad s 3) 2 :: ats (pad s 3) 0 :: ats (pad s 3) 1 :: (pad s 3).drop 3 := by unfold behind; rw [h]; rfl
end
theorem ats_in {s : List T} {k : Nat} (h : k < s.length) : ats s k ∈ s := List.mem_of_getElem? (ats_mem h)
section
variable {X : Cx}
end
/-- if c: x = e; both ways on as one -/
theorem ifSet {tc : TT} {te : TE} {i : Nat} {u : TS} {D : Ends} {σ : L2.St} {H : Hp} (P : V → Hp → Prop) (v0 : V) (hv0 : σ.set i (some v0) = σ) (k : ∀ v H', P v H' → u D (σ.set i (some v)) H')
    (h : ∀ A B : Hp → Prop, (∀ H1, (∀ R : VK, (∀ v H', P v H' → R v H') → te σ H1 R) → A H1) → (∀ H1, P v0 H1 → B H1) → tc σ H (fun b H1 => if b = true then A H1 else B H1)) :
    tSeq (tIfS tc (tAsg te (gName i)) tNext) u D σ H := by
  refine h (fun H1 => tAsg te (gName i) { D with nx := u D } σ H1) (fun H1 => tNext { D with nx := u D } σ H1) (fun H1 r => r _ fun v H' p => k v H' p) (fun H1 p => ?_)
  have q := k v0 H1 p
  rw [hv0] at q
  exact q
/-! ### bounds behind a step -/
theorem B.pos {a b : Nat} {t : T} (h : B a b t) : 1 ≤ b := Nat.le_trans (T.parts_pos t) h.2
theorem B_drop {a b : Nat} (k : Nat) {ts : List T} (h : B a b (.node ts)) : B a b (.node (ts.drop k)) := by
  obtain ⟨h1, h2⟩ := h
  have e := List.take_append_drop k ts
  rw [← e, T.deep_node, T.deepL_append] at h1
  rw [← e, T.parts_node, T.partsL_append] at h2
  exact ⟨by rw [T.deep_node]; omega, by rw [T.parts_node]; omega⟩
theorem B_mem {a b : Nat} {ts : List T} {t : T} (h : B a b (.node ts)) (ht : t ∈ ts) : B a b t := by
  have h1 := h.1
  have h2 := h.2
  rw [T.deep_node] at h1
  rw [T.parts_node] at h2
  have := T.mem_deep ht
  have := T.mem_parts ht
  exact ⟨by omega, by omega⟩
theorem B_ats {a b : Nat} {ts : List T} (h : B a b (.node ts)) (k : Nat) : B a b (ats ts k) := by
  by_cases hk : k < ts.length
  · exact B_mem h (ats_in hk)
  · unfold ats
    rw [List.getElem?_eq_none (by omega)]
    exact B_nil.le (by omega) h.pos
theorem B_kids {a b : Nat} {t : T} (h : B a b t) : B a b (.node t.kids) := by rw [kids_node]; exact h
theorem B_pad {a b : Nat} {s : List T} (n : Nat) (hn : n ≤ 3) (ha : 1 ≤ a) (h : B a b (.node s)) : B a (b + 4) (.node (pad s n)) :=
  (B_cat (B_row (a := 0) (b := 1) (n := 3) (fun t ht => by rw [List.eq_of_mem_replicate ht]; exact B_nil) (by rw [List.length_replicate]; omega)) h).le (by omega) (by omega)
theorem B_behind {a b : Nat} {w : T} {s : List T} (ha : 1 ≤ a) (hw : B a b w) (hs : B a b (.node s)) : B (a + 2) (4 * b + 16) (.node (behind w s)) := by
  have hb := hw.pos
  unfold behind
  split
  · exact (B_cons (B_loadT hw) hs).le (by omega) (by omega)
  split
  · refine (B_pad _ ?_ ha hs).le (by omega) (by omega)
    have : ∀ k, k ≤ 9 → many k ≤ 3 := by decide
    exact this _ (sort_le w)
  have p1 := B_pad 1 (by omega) ha hs
  have p2 := B_pad 2 (by omega) ha hs
  have p3 := B_pad 3 (by omega) ha hs
  split
  · exact (B_drop 1 p1).le (by omega) (by omega)
  split
  · exact (B_cons (B_ats p1 0) (B_cons (B_ats p1 0) (B_drop 1 p1))).le (by omega) (by omega)
  split
  · exact (B_cons (B_ats p2 1) (B_cons (B_ats p2 0) (B_drop 2 p2))).le (by omega) (by omega)
  split
  · exact (B_cons (B_cons (B_ats p2 0) (B_kids (B_ats p2 1))) (B_drop 2 p2)).le (by omega) (by omega)
  split
  · exact (B_cons (B_ats (B_kids (B_ats p1 0)) 0) (B_cons (B_drop 1 (B_kids (B_ats p1 0))) (B_drop 1 p1))).le (by omega) (by omega)
  · exact (B_cons (B_ats p3 2) (B_cons (B_ats p3 0) (B_cons (B_ats p3 1) (B_drop 3 p3)))).le (by omega) (by omega)
theorem B_onward {a b : Nat} {tx s : List T} (ha : 1 ≤ a) (ht : B a b (.node tx)) (hs : B a b (.node s)) : B (a + 2) (4 * b + 16) (.node (onward tx s).1) ∧ B (a + 2) (4 * b + 16) (.node (onward tx s).2.1) := by
  have hb := ht.pos
  have t0 := B_kids (B_ats ht 0)
  unfold onward
  split
  · exact ⟨(B_drop 1 ht).le (by omega) (by omega), hs.le (by omega) (by omega)⟩
  · rename_i w ws e
    rw [e] at t0
    have hw : B a b w := B_mem t0 List.mem_cons_self
    have hws : B a b (.node ws) := B_drop 1 t0
    have hbe := B_behind ha hw hs
    have hd := B_drop 1 ht
    have hl := B_drop 1 (B_kids hw)
    split
    · split
      · exact ⟨(B_cons (B_ats hl 0) (B_cons hws hd)).le (by omega) (by omega), hbe⟩
      · exact ⟨(B_cons (B_drop 2 (B_kids hw)) (B_cons hws hd)).le (by omega) (by omega), hbe⟩
    split
    · split
      · exact ⟨(B_cons (B_loadT hw) ht).le (by omega) (by omega), hbe⟩
      · exact ⟨(B_cons hws hd).le (by omega) (by omega), hbe⟩
    split
    · exact ⟨(B_cons hws hd).le (by omega) (by omega), hbe⟩
    · exact ⟨(B_cons hws hd).le (by omega) (by omega), hbe⟩
/-! ### stands -/
/-- x = e, on with what is known of it -/
theorem setP {te : TE} {i : Nat} {u : TS} {D : Ends} {σ : L2.St} {H : Hp} (P : V → Hp → Prop) (h : ∀ R : VK, (∀ v H', P v H' → R v H') → te σ H R) (k : ∀ v H', P v H' → u D (σ.set i (some v)) H') : tSeq (tAsg te (gName i)) u D σ H := h _ k
/-- the same, with the state behind it written out: else each look at a name goes through all that was set before -/
theorem setQ {te : TE} {i : Nat} {u : TS} {D : Ends} {σ : L2.St} {H : Hp} (σ' : V → L2.St) (hσ : ∀ v, σ.set i (some v) = σ' v) (P : V → Hp → Prop) (h : ∀ R : VK, (∀ v H', P v H' → R v H') → te σ H R) (k : ∀ v H', P v H' → u D (σ' v) H') : tSeq (tAsg te (gName i)) u D σ H :=
  setP P h fun v H' p => by rw [hσ]; exact k v H' p
theorem ifSetQ {tc : TT} {te : TE} {i : Nat} {u : TS} {D : Ends} {σ : L2.St} {H : Hp} (σ' : V → L2.St) (hσ : ∀ v, σ.set i (some v) = σ' v) (P : V → Hp → Prop) (v0 : V) (hv0 : σ.set i (some v0) = σ) (k : ∀ v H', P v H' → u D (σ' v) H')
    (h : ∀ A B : Hp → Prop, (∀ H1, (∀ R : VK, (∀ v H', P v H' → R v H') → te σ H1 R) → A H1) → (∀ H1, P v0 H1 → B H1) → tc σ H (fun b H1 => if b = true then A H1 else B H1)) :
    tSeq (tIfS tc (tAsg te (gName i)) tNext) u D σ H := ifSet P v0 hv0 (fun v H' p => by rw [hσ]; exact k v H' p) h
end Sw

/-! ## the program's own defs over trees: first, rest, words, stands -/
namespace Sw
open PySem PySem.Spec PyProof.Rows L2
/-- a tuple of the module -/
def TupO (o : Obj) (xs : List V) : Prop := ∃ (its : Array Value) (n : Nat), o.cls = .type "tuple" ∧ o.data = .seq its n ∧ its.size ≤ sizeLine ∧ Vals xs its.toList
theorem TupO.sq {K : PySem.W.Frag} {o : Obj} {xs : List V} {a : Addr} {H : Hp} (h : TupO o xs) (l : K.lookup a = some o) : SqT K H a xs := by
  obtain ⟨its, n, h1, h2, h3, h4⟩ := h
  exact .inr ⟨o, its, n, l, h1, h2, h3, h4⟩
def spFirst (K : PySem.W.Frag) : Sp := fun vs H Q _ => ∃ x t, vs = [x] ∧ TR K H t x ∧ t.deep ≤ 400 ∧ ∀ y H', Same H H' → TR K H' (ats t.kids 0) y → Q y H'
def spRest (K : PySem.W.Frag) : Sp := fun vs H Q _ => ∃ x t, vs = [x] ∧ TR K H t x ∧ ∀ y H', Same H H' → TR K H' (loadT t) y → Q y H'
theorem sort_ats (t : T) : sortT t = min 9 (ats t.kids 0).kids.length := by
  cases t with
  | node ts => cases ts <;> rfl
theorem TR_kids {K : PySem.W.Frag} {H : Hp} {t : T} {x : V} (h : TR K H t x) : TR K H (.node t.kids) x := by rw [kids_node]; exact h
theorem smallM {n : Nat} (h : n ≤ 16000000) : n ≤ sizeLine := Nat.le_trans h (by decide)
theorem two62 : (2 : Int) ^ 62 = 4611686018427387904 := by decide
/-- so many leaves, in a tuple -/
theorem nRep {K : PySem.W.Frag} {H : Hp} {Q : VK} {x y : V} {k : Int} (n : Nat) (hx : TR K H (.node [.node []]) x) (hy : y = .int k) (hk : k.toNat = n) (h0 : -16000000 ≤ k) (hn : n ≤ 16000000) (q : ∀ z H', Same H H' → TR K H' (leavesT n) z → Q z H') : rRepTA K x y H Q := by
  obtain ⟨a, xs, rfl, ha, ra⟩ := TR_node.mp hx
  obtain ⟨v, r, rfl, hv, hr⟩ := TRs_cons.mp ra
  rw [TRs_nil] at hr
  subst hr
  subst hk
  have h2 := two62
  refine ⟨a, k, [v], rfl, hy, ha, by omega, by omega, by show 1 * k.toNat ≤ sizeLine; exact smallM (by omega), fun p H' S h => q _ _ S ?_⟩
  have e : repV [v] k = List.replicate k.toNat v := by
    unfold repV
    exact flat_rep v _
  rw [e] at h
  exact TR_mk h (trs_rep (hv.mono (.of S)) _)
theorem nRepP {K : PySem.W.Frag} {H : Hp} {Q : VK} {σ : L2.St} {x y : V} {k : Int} (n : Nat) (hx : TR K H (.node [.node []]) x) (hy : y = .int k) (hk : k.toNat = n) (h0 : -16000000 ≤ k) (hn : n ≤ 16000000) (q : ∀ z H', Same H H' → TR K H' (leavesT n) z → Q z H') : tC y σ H (fun y H2 => rRepTA K x y H2 Q) := nRep n hx hy hk h0 hn q
def looks (k : Nat) : Nat := ([0, 1, 1, 2, 2, 1, 3, 1, 1, 1, 1, 0, 0] : List Nat).getD k 0
/-- the stack behind a step within a text -/
def workT (k : Nat) (l : T) (s : List T) : List T :=
  if k = 0 then l :: s
  else if k = 1 then s.drop 1
  else if k = 2 then ats s 0 :: s
  else if k = 3 then ats s 1 :: ats s 0 :: s.drop 2
  else if k = 4 then .node (ats s 0 :: (ats s 1).kids) :: s.drop 2
  else if k = 5 then ats (ats s 0).kids 0 :: loadT (ats s 0) :: s.drop 1
  else if k = 6 then ats s 2 :: ats s 0 :: ats s 1 :: s.drop 3
  else s
theorem cons_drop {s : List T} (h : 1 ≤ s.length) : ats s 0 :: s.drop 1 = s := by
  cases s with
  | nil => simp at h
  | cons t r => rfl
theorem work_behind {w : T} {s : List T} (h : sortT w ≤ 6) : behind w s = workT (sortT w) (loadT w) (pad s (looks (sortT w))) := by
  have hl : sortT w = 0 ∨ sortT w = 1 ∨ sortT w = 2 ∨ sortT w = 3 ∨ sortT w = 4 ∨ sortT w = 5 ∨ sortT w = 6 := by omega
  rcases hl with e | e | e | e | e | e | e
  · rw [beh0 e, e]; show _ = loadT w :: pad s 0; rw [pad_of (Nat.zero_le _)]
  · rw [beh1 e, e]; rfl
  · rw [beh2 e, e]
    show _ = ats (pad s 1) 0 :: pad s 1
    rw [cons_drop (pad_len s 1)]
  · rw [beh3 e, e]; rfl
  · rw [beh4 e, e]; rfl
  · rw [beh5 e, e]; rfl
  · rw [beh6 e, e]; rfl
def stepT (tx s : List T) : Nat := (onward tx s).2.2
theorem step_nil {tx s : List T} (h : (ats tx 0).kids = []) : stepT tx s = 12 := by
  unfold stepT onward
  rw [h]
section
variable {tx s : List T} {w : T} {ws : List T}
theorem on_nil (h : (ats tx 0).kids = []) : onward tx s = (tx.drop 1, s, 12) := by
  unfold onward
  rw [h]
theorem on_yes (h : (ats tx 0).kids = w :: ws) (e : sortT w = 7) (d : (ats s 0).kids ≠ []) : onward tx s = (ats (w.kids.drop 1) 0 :: .node ws :: tx.drop 1, pad s 1, 7) := by
  unfold onward
  rw [h]
  show (if sortT w = 7 then _ else _) = _
  rw [if_pos e, if_pos d, beh7 (by omega), e]
  rfl
theorem on_no (h : (ats tx 0).kids = w :: ws) (e : sortT w = 7) (d : (ats s 0).kids = []) : onward tx s = (.node (w.kids.drop 2) :: .node ws :: tx.drop 1, pad s 1, 8) := by
  unfold onward
  rw [h]
  show (if sortT w = 7 then _ else _) = _
  rw [if_pos e, if_neg (by simp [d]), beh7 (by omega), e]
  rfl
theorem on_into (h : (ats tx 0).kids = w :: ws) (e : sortT w = 8) (d : (ats s 0).kids ≠ []) : onward tx s = (loadT w :: tx, pad s 1, 9) := by
  unfold onward
  rw [h]
  show (if sortT w = 7 then _ else _) = _
  rw [if_neg (by omega), if_pos e, if_pos d, beh7 (by omega), e]
  rfl
theorem on_past (h : (ats tx 0).kids = w :: ws) (e : sortT w = 8) (d : (ats s 0).kids = []) : onward tx s = (.node ws :: tx.drop 1, pad s 1, 10) := by
  unfold onward
  rw [h]
  show (if sortT w = 7 then _ else _) = _
  rw [if_neg (by omega), if_pos e, if_neg (by simp [d]), beh7 (by omega), e]
  rfl
theorem on_less (h : (ats tx 0).kids = w :: ws) (e : sortT w = 9) : onward tx s = (.node ws :: tx.drop 1, pad s 0, 11) := by
  unfold onward
  rw [h]
  show (if sortT w = 7 then _ else _) = _
  rw [if_neg (by omega), if_neg (by omega), if_pos e, beh7 (by omega), e]
  rfl
theorem on_word (h : (ats tx 0).kids = w :: ws) (e : sortT w ≤ 6) : onward tx s = (.node ws :: tx.drop 1, workT (sortT w) (loadT w) (pad s (looks (sortT w))), sortT w) := by
  unfold onward
  rw [h]
  show (if sortT w = 7 then _ else _) = _
  rw [if_neg (by omega), if_neg (by omega), if_neg (by omega), work_behind e]
end
theorem work_ge {k : Nat} {l : T} {s : List T} (h : 7 ≤ k) : workT k l s = s := by
  unfold workT
  rw [if_neg (by omega), if_neg (by omega), if_neg (by omega), if_neg (by omega), if_neg (by omega), if_neg (by omega), if_neg (by omega)]
theorem looks_le (k : Nat) : looks k ≤ 3 := by
  by_cases h : k < 13
  · have : ∀ k, k < 13 → looks k ≤ 3 := by decide
    exact this k h
  · unfold looks
    rw [List.getD_eq_getElem?_getD, List.getElem?_eq_none (by show 13 ≤ k; omega)]
    decide
section
variable {tx s : List T}
/-- all ways of a step -/
theorem on_all : ((ats tx 0).kids = [] ∧ onward tx s = (tx.drop 1, s, 12)) ∨ ∃ w ws, (ats tx 0).kids = w :: ws ∧
    (onward tx s = (ats (w.kids.drop 1) 0 :: .node ws :: tx.drop 1, pad s 1, 7) ∨ onward tx s = (.node (w.kids.drop 2) :: .node ws :: tx.drop 1, pad s 1, 8) ∨ onward tx s = (loadT w :: tx, pad s 1, 9) ∨
     ∃ k, (k ≤ 6 ∨ k = 10 ∨ k = 11) ∧ onward tx s = (.node ws :: tx.drop 1, workT k (loadT w) (pad s (looks k)), k)) := by
  cases hk : (ats tx 0).kids with
  | nil => exact .inl ⟨rfl, on_nil hk⟩
  | cons w ws =>
    refine .inr ⟨w, ws, rfl, ?_⟩
    have h9 := sort_le w
    by_cases e7 : sortT w = 7
    · by_cases d : (ats s 0).kids = []
      · exact .inr (.inl (on_no hk e7 d))
      · exact .inl (on_yes hk e7 d)
    by_cases e8 : sortT w = 8
    · by_cases d : (ats s 0).kids = []
      · exact .inr (.inr (.inr ⟨10, by omega, on_past hk e8 d⟩))
      · exact .inr (.inr (.inl (on_into hk e8 d)))
    by_cases e9 : sortT w = 9
    · exact .inr (.inr (.inr ⟨11, by omega, on_less hk e9⟩))
    · exact .inr (.inr (.inr ⟨sortT w, by omega, on_word hk (by omega)⟩))
theorem step_le : stepT tx s ≤ 12 := by
  unfold stepT
  rcases on_all (tx := tx) (s := s) with ⟨_, e⟩ | ⟨w, ws, _, e | e | e | ⟨k, h, e⟩⟩
  · rw [e]; exact Nat.le_refl 12
  · rw [e]; show 7 ≤ 12; omega
  · rw [e]; show 8 ≤ 12; omega
  · rw [e]; show 9 ≤ 12; omega
  · rw [e]; show k ≤ 12; omega
theorem st12 (h : stepT tx s = 12) : onward tx s = (tx.drop 1, s, 12) := by
  unfold stepT at h
  rcases on_all (tx := tx) (s := s) with ⟨_, e⟩ | ⟨w, ws, _, e | e | e | ⟨k, g, e⟩⟩
  · exact e
  · rw [e] at h; cases h
  · rw [e] at h; cases h
  · rw [e] at h; cases h
  · rw [e] at h; have h : k = 12 := h; omega
theorem st_word (h : stepT tx s ≠ 12) : ∃ w ws, (ats tx 0).kids = w :: ws := by
  unfold stepT at h
  rcases on_all (tx := tx) (s := s) with ⟨_, e⟩ | ⟨w, ws, z, _⟩
  · rw [e] at h; exact absurd rfl h
  · exact ⟨w, ws, z⟩
variable {w : T} {ws : List T}
theorem st7 (hk : (ats tx 0).kids = w :: ws) (h : stepT tx s = 7) : onward tx s = (ats (w.kids.drop 1) 0 :: .node ws :: tx.drop 1, pad s 1, 7) := by
  unfold stepT at h
  rcases on_all (tx := tx) (s := s) with ⟨_, e⟩ | ⟨w', ws', z, e | e | e | ⟨k, g, e⟩⟩
  · rw [e] at h; cases h
  · rw [hk] at z; cases z; exact e
  · rw [e] at h; cases h
  · rw [e] at h; cases h
  · rw [e] at h; have h : k = 7 := h; omega
theorem st8 (hk : (ats tx 0).kids = w :: ws) (h : stepT tx s = 8) : onward tx s = (.node (w.kids.drop 2) :: .node ws :: tx.drop 1, pad s 1, 8) := by
  unfold stepT at h
  rcases on_all (tx := tx) (s := s) with ⟨_, e⟩ | ⟨w', ws', z, e | e | e | ⟨k, g, e⟩⟩
  · rw [e] at h; cases h
  · rw [e] at h; cases h
  · rw [hk] at z; cases z; exact e
  · rw [e] at h; cases h
  · rw [e] at h; have h : k = 8 := h; omega
theorem st9 (hk : (ats tx 0).kids = w :: ws) (h : stepT tx s = 9) : onward tx s = (loadT w :: tx, pad s 1, 9) := by
  unfold stepT at h
  rcases on_all (tx := tx) (s := s) with ⟨_, e⟩ | ⟨w', ws', z, e | e | e | ⟨k, g, e⟩⟩
  · rw [e] at h; cases h
  · rw [e] at h; cases h
  · rw [e] at h; cases h
  · rw [hk] at z; cases z; exact e
  · rw [e] at h; have h : k = 9 := h; omega
theorem stw (hk : (ats tx 0).kids = w :: ws) (h12 : stepT tx s ≠ 12) (h7 : stepT tx s ≠ 7) (h8 : stepT tx s ≠ 8) (h9 : stepT tx s ≠ 9) : onward tx s = (.node ws :: tx.drop 1, workT (stepT tx s) (loadT w) (pad s (looks (stepT tx s))), stepT tx s) := by
  unfold stepT at h12 h7 h8 h9 ⊢
  rcases on_all (tx := tx) (s := s) with ⟨_, e⟩ | ⟨w', ws', z, e | e | e | ⟨k, g, e⟩⟩
  · rw [e] at h12; exact absurd rfl h12
  · rw [e] at h7; exact absurd rfl h7
  · rw [e] at h8; exact absurd rfl h8
  · rw [e] at h9; exact absurd rfl h9
  · rw [hk] at z; cases z; rw [e]
end
/-- texts to be gone through: each not too large, not too many -/
def BX (tx : List T) : Prop := tx.length ≤ 8000000 ∧ ∀ t ∈ tx, B 389 8000000 t
theorem BX.of {a b : Nat} {tx : List T} (h : B a b (.node tx)) (ha : a ≤ 390) (hb : b ≤ 8000000) : BX tx := by
  refine ⟨by have := h.len; omega, fun t ht => ?_⟩
  have h1 := h.1
  have h2 := h.2
  rw [T.deep_node] at h1
  rw [T.parts_node] at h2
  have := T.mem_deep ht
  have := T.mem_parts ht
  exact ⟨by omega, by omega⟩
theorem deepL_le {n : Nat} : ∀ {ts : List T}, (∀ t ∈ ts, t.deep < n) → T.deepL ts ≤ n
  | [], _ => by rw [T.deepL_nil]; omega
  | t :: ts, h => by
    rw [T.deepL_cons]
    have h1 := h t List.mem_cons_self
    have h2 := deepL_le (n := n) (ts := ts) fun u hu => h u (List.mem_cons_of_mem _ hu)
    omega
theorem BX.deep {tx : List T} (h : BX tx) : (T.node tx).deep ≤ 390 := by
  rw [T.deep_node]
  exact deepL_le fun t ht => by have := (h.2 t ht).1; omega
theorem BX.ats {tx : List T} (h : BX tx) : B 390 8000000 (ats tx 0) := by
  cases tx with
  | nil => exact B_nil.le (by omega) (by omega)
  | cons t r => exact (h.2 t List.mem_cons_self).le (by omega) (by omega)
def spStep (K : PySem.W.Frag) : Sp := fun vs H Q _ => ∃ x tx s, vs = [x] ∧ TR K H (.node [.node tx, .node s]) x ∧ BX tx ∧ B 390 8000000 (.node s) ∧ ∀ H', Same H H' → Q (.int (stepT tx s : Nat)) H'
def spFilled (K : PySem.W.Frag) : Sp := fun vs H Q _ => ∃ x s, ∃ n : Nat, vs = [x, .int (n : Int)] ∧ TR K H (.node s) x ∧ s.length ≤ 8000000 ∧ n ≤ 3 ∧ ∀ y H', Same H H' → TR K H' (.node (pad s n)) y → Q y H'
def spWorked (K : PySem.W.Frag) : Sp := fun vs H Q _ => ∃ (k : Nat) (y z : V) (l : T) (s : List T), vs = [.int (k : Int), y, z] ∧ TR K H l y ∧ TR K H (.node s) z ∧ looks k ≤ s.length ∧ B 395 8000010 (.node s) ∧ ∀ v H', Same H H' → TR K H' (.node (workT k l s)) v → Q v H'
def spEndedM (K : PySem.W.Frag) : Sp := fun vs H Q _ => ∃ x tx s, vs = [x] ∧ TR K H (.node [.node tx, .node s]) x ∧ BX tx ∧ B 390 8000000 (.node s) ∧ ∀ H', Same H H' → Q (.bl (decide (tx.length = 0))) H'
def spNextOfM (K : PySem.W.Frag) : Sp := fun vs H Q _ => ∃ x tx s, vs = [x] ∧ TR K H (.node [.node tx, .node s]) x ∧ tx ≠ [] ∧ BX tx ∧ B 390 8000000 (.node s) ∧
  ∀ y H', Same H H' → TR K H' (.node [.node (onward tx s).1, .node (onward tx s).2.1]) y → Q y H'
theorem beq_leaf (ts : List T) : (T.node ts).beq leaf = decide (ts.length = 0) := by
  cases ts with
  | nil => show T.beq (.node []) leaf = true; exact (T.beq_iff _ _).mpr rfl
  | cons t r =>
    rw [Bool.eq_iff_iff, T.beq_iff]
    simp [leaf]
end Sw

/-! ## the place of a step in a tally, by the word's sort and the stack's top -/
namespace Sw
open PySem PySem.Spec PyProof.Rows L2
def plcT (k : Nat) (t : T) : Nat := if k = 7 then (if t.kids = [] then 8 else 7) else if k = 8 then (if t.kids = [] then 10 else 9) else if k = 9 then 11 else k
def spPlc (K : PySem.W.Frag) : Sp := fun vs H Q _ => ∃ (k : Nat) (x : V) (t : T), vs = [.int (k : Int), x] ∧ TR K H t x ∧ t.deep ≤ 400 ∧ ∀ H', Same H H' → Q (.int (plcT k t : Nat)) H'
theorem step_plc {p : T} {rest s : List T} {w : T} {ws : List T} (h : p.kids = w :: ws) : stepT (p :: rest) s = plcT (sortT w) (ats s 0) := by
  have hk : (ats (p :: rest) 0).kids = w :: ws := h
  unfold stepT plcT
  have h9 := sort_le w
  by_cases e7 : sortT w = 7
  · rw [if_pos e7]
    by_cases d : (ats s 0).kids = []
    · rw [if_pos d, on_no hk e7 d]
    · rw [if_neg d, on_yes hk e7 d]
  rw [if_neg e7]
  by_cases e8 : sortT w = 8
  · rw [if_pos e8]
    by_cases d : (ats s 0).kids = []
    · rw [if_pos d, on_past hk e8 d]
    · rw [if_neg d, on_into hk e8 d]
  rw [if_neg e8]
  by_cases e9 : sortT w = 9
  · rw [if_pos e9, on_less hk e9]
  · rw [if_neg e9, on_word hk (by omega)]
theorem leaf_iff {t : T} : T.beq t leaf = decide (t.kids = []) := by
  by_cases z : t.kids = []
  · rw [decide_eq_true z]
    exact (T.beq_iff _ _).mpr (by cases t; exact congrArg T.node z)
  · rw [decide_eq_false z]
    exact Bool.eq_false_iff.mpr fun y => z (by rw [(T.beq_iff _ _).mp y]; rfl)
end Sw

/-! ## events and costs: xs[i] = v, sum of a tuple -/
namespace Sw
open PySem PySem.Spec PyProof.Rows L2
section
variable {X : Cx}
end
end Sw

/-! ## two texts, one behind the other -/
namespace Sw
open PySem PySem.Spec PyProof.Rows L2
/-! ### how large it gets -/
end Sw

/-! ## zip of two tuples; a comprehension with two names -/
namespace PySem
section
variable {prog : Program} {w : World} {A : Around} {E : Value → Shared → Prop} {s : Shared}
end
end PySem

namespace Sw
open PySem PySem.Spec PyProof.Rows L2
section
variable {X : Cx} {pins : List (Addr × Obj)} {σ : Sg} {H : Hp} {s : Shared} {scope : Scope} {cl : List (Str × Addr)} {x y : Str} {fr : List Str} {js : List Nat} {fp : List Addr}

end
section
variable {X : Cx} {scope : Scope} {cl : List (Str × Addr)} {x y : Str} {fr : List Str} {js : List Nat} {elt iter : Expr} {px py pt pos : Pos} {kt : Nat} {wi : TI} {te : TE}
end
end Sw

/-! ## tuples of numbers: == and !=; isinstance of a number or a tuple; tallies drawn -/
namespace Sw
open PySem PySem.Spec PyProof.Rows L2
section
variable {X : Cx} {pins : List (Addr × Obj)} {σ : Sg} {H : Hp} {s : Shared}
end
section
variable {X : Cx}
end
end Sw

/-! ## numbers, texts and tuples of them, as they are compared -/
namespace Sw
open PySem PySem.Spec PyProof.Rows L2
namespace Dt
end Dt
section
variable {K : PySem.W.Frag} {H H' : Hp}
end
section
variable {X : Cx} {pins : List (Addr × Obj)} {σ : Sg} {H : Hp} {s : Shared}
end
section
variable {X : Cx} {pins : List (Addr × Obj)} {σ : Sg} {H : Hp} {s : Shared}
end
section
variable {X : Cx}
end
end Sw

/-! ## runs, apart from any heap -/
namespace Sw
open PySem PySem.Spec PyProof.Rows L2
section
variable {b : Nat} {tx s : List T}
end
/-! ### how deep and how large it gets -/
/-! ### plain data: numbers, and tuples of such -/
/-! ### what the program's own defs promise -/
end Sw

/-! ## putting a tree into a text -/
namespace Sw
open PySem PySem.Spec PyProof.Rows L2
section
variable (p : List T) (d x : T) (Y : List T)
end
end Sw

/-! ## texts of signs: parted, joined, looked at -/
namespace PySem
open Builtin Builtin.Str
section
variable {prog : Program} {w : World} {A : Around} {E : Value → Shared → Prop} {s : Shared} {x : Str} {t : Tok} {Q : Value → Shared → Prop}
end
end PySem
namespace Sw
open PySem PySem.Spec PyProof.Rows L2
section
variable {X : Cx}
end
open SeqAt in
theorem tup_indexAt (l : Addr) (items : Array Value) (n : Nat) (dd : Option Addr) (sl : Array (Option Value)) (x : Value) (e : Value → Bool) (j : Nat) (hj : j < items.size) (hit : e items[j] = true) (hno : ∀ m (hm : m < items.size), m < j → e items[m] = false) :
    Meets (Builtin.«tuple.index» ⟨[.ref l, x], []⟩) (fun A R u => u.heap.get? l = some { cls := .type "tuple", dict := dd, data := .seq items n, slots := sl } ∧ (∀ y, y ∈ items → EqAt A.in1 u y x (e y)) ∧ R (.ok (.ret (.int j u.toks))) { u with toks := u.toks + 1 }) :=
  .of_wp fun prog w A R u h => by
    obtain ⟨hp, g, d, tk, os⟩ := u; obtain ⟨hl, he, h⟩ := h
    unfold Builtin.«tuple.index»
    simp only [Std.Legacy.Range.forIn_eq_forIn_range']
    wp_walk using wpAny_loadPart' hl, wpAny_forIn_list _ (fun rest b s' => b.1 = none ∧ s' = ⟨hp, g, d, tk, os⟩ ∧ ∃ i, i ≤ j ∧ rest = (List.range' 0 items.size).drop i) _
    case turn =>
      rintro i rest b s' ⟨hb, rfl, m, hm, hr⟩
      have hlt : m < items.size := by
        have := congrArg List.length hr
        simp at this
        omega
      have hr2 : (List.range' 0 items.size).drop m = m :: (List.range' 0 items.size).drop (m + 1) := by
        rw [List.drop_eq_getElem_cons (by simpa using hlt)]
        simp
      rw [hr2] at hr
      obtain ⟨rfl, rfl⟩ := List.cons.inj hr
      have e1 : items[i]? = some items[i] := Array.getElem?_eq_getElem hlt
      rw [e1]
      refine wpAny_bind (he _ (Array.getElem_mem hlt) prog w _ _ ?_)
      by_cases hmj : i = j
      · subst hmj
        rw [hit]
        wp_walk
        exact ⟨_, rfl, h⟩
      · rw [hno i hlt (by omega)]
        wp_walk
        exact ⟨rfl, rfl, i + 1, by omega, rfl⟩
    case fin =>
      rintro ⟨b1, b2⟩ s' ⟨hb, rfl, m, hm, hr⟩
      have := congrArg List.length hr
      simp at this
      omega
    case h =>
      refine ⟨rfl, rfl, 0, Nat.zero_le _, ?_⟩
      simp
end Sw

/-! ## the selfrunner, apart from any heap -/
namespace Sw
abbrev Std := List T × List T
def nx (st : Std) : Std := ((onward st.1 st.2).1, (onward st.1 st.2).2.1)
/-- what a step takes -/
def costS (st : Std) : Nat := match (ats st.1 0).kids with
  | [] => 1
  | w :: _ => if sortT w = 2 then (ats st.2 0).parts else 1
abbrev W (n : Nat) : T := wordT n []
abbrev forkW (yes no : List T) : T := wordT 7 (.node yes :: no)
/-- no head: the first text begins with no while -/
def noHead (st : Std) : Prop := sortT (ats (ats st.1 0).kids 0) ≠ 8
/-- so many steps, which take so much, ahead of each no end and no head -/
inductive Wk : Std → Nat → Nat → Std → Prop where
  | nil {st : Std} : Wk st 0 0 st
  | cons {st e : Std} {n c : Nat} : st.1 ≠ [] → noHead st → Wk (nx st) n c e → Wk st (n + 1) (c + costS st) e
theorem Wk.to {st e : Std} {n c n' c' : Nat} (h : Wk st n c e) (e1 : n = n') (e2 : c = c') : Wk st n' c' e := by subst e1; subst e2; exact h
theorem Wk.one {st e u : Std} {n c k : Nat} (h1 : st.1 ≠ []) (h2 : noHead st) (h3 : nx st = u) (h4 : costS st = k) (g : Wk u n c e) : Wk st (n + 1) (c + k) e := by
  subst h3; subst h4; exact .cons h1 h2 g
section
variable {t cs s : List T} {e : Std} {n c : Nat}
theorem nh_word {w : T} {k : Nat} (h : sortT w = k) (hk : k ≠ 8) : noHead (.node (w :: t) :: cs, s) := by
  show sortT w ≠ 8
  rw [h]; exact hk
theorem nx_plain {w : T} (h : sortT w ≤ 6) : nx (.node (w :: t) :: cs, s) = (.node t :: cs, behind w s) := by
  unfold nx onward
  show (_, _) = _
  simp only [ats, T.kids, List.getElem?_cons_zero, Option.getD_some, List.drop_succ_cons, List.drop_zero]
  rw [if_neg (by omega), if_neg (by omega), if_neg (by omega)]
theorem cost_plain {w : T} (h : sortT w ≠ 2) : costS (.node (w :: t) :: cs, s) = 1 := by
  show (if sortT w = 2 then _ else 1) = 1
  rw [if_neg h]
theorem w_lay {us : List T} (g : Wk (.node t :: cs, .node us :: s) n c e) : Wk (.node (wordT 0 us :: t) :: cs, s) (n + 1) (c + 1) e :=
  .one (by simp) (nh_word (k := 0) rfl (by decide)) (by rw [nx_plain (by show 0 ≤ 6; decide), beh0 rfl]; rfl) (cost_plain (by show 0 ≠ 2; decide)) g
theorem w_drop {a : T} (g : Wk (.node t :: cs, s) n c e) : Wk (.node (W 1 :: t) :: cs, a :: s) (n + 1) (c + 1) e :=
  .one (by simp) (nh_word (k := 1) rfl (by decide)) (by rw [nx_plain (by decide), beh1 rfl, pad_of (by simp)]; rfl) (cost_plain (by decide)) g
theorem w_twin {a : T} (g : Wk (.node t :: cs, a :: a :: s) n c e) : Wk (.node (W 2 :: t) :: cs, a :: s) (n + 1) (c + a.parts) e :=
  .one (by simp) (nh_word (k := 2) rfl (by decide)) (by rw [nx_plain (by decide), beh2 rfl, pad_of (by simp)]; rfl) rfl g
theorem w_swap {a b : T} (g : Wk (.node t :: cs, b :: a :: s) n c e) : Wk (.node (W 3 :: t) :: cs, a :: b :: s) (n + 1) (c + 1) e :=
  .one (by simp) (nh_word (k := 3) rfl (by decide)) (by rw [nx_plain (by decide), beh3 rfl, pad_of (by simp)]; rfl) (cost_plain (by decide)) g
theorem w_front {a : T} {b : List T} (g : Wk (.node t :: cs, .node (a :: b) :: s) n c e) : Wk (.node (W 4 :: t) :: cs, a :: .node b :: s) (n + 1) (c + 1) e :=
  .one (by simp) (nh_word (k := 4) rfl (by decide)) (by rw [nx_plain (by decide), beh4 rfl, pad_of (by simp)]; rfl) (cost_plain (by decide)) g
theorem w_part {a : List T} (g : Wk (.node t :: cs, ats a 0 :: .node (a.drop 1) :: s) n c e) : Wk (.node (W 5 :: t) :: cs, .node a :: s) (n + 1) (c + 1) e :=
  .one (by simp) (nh_word (k := 5) rfl (by decide)) (by rw [nx_plain (by decide), beh5 rfl, pad_of (by simp)]; rfl) (cost_plain (by decide)) g
theorem w_partc {a : T} {b : List T} (g : Wk (.node t :: cs, a :: .node b :: s) n c e) : Wk (.node (W 5 :: t) :: cs, .node (a :: b) :: s) (n + 1) (c + 1) e := w_part g
theorem w_turn {a b d : T} (g : Wk (.node t :: cs, d :: a :: b :: s) n c e) : Wk (.node (W 6 :: t) :: cs, a :: b :: d :: s) (n + 1) (c + 1) e :=
  .one (by simp) (nh_word (k := 6) rfl (by decide)) (by rw [nx_plain (by decide), beh6 rfl, pad_of (by simp)]; rfl) (cost_plain (by decide)) g
theorem w_shut (g : Wk (cs, s) n c e) : Wk (.node [] :: cs, s) (n + 1) (c + 1) e :=
  .one (by simp) (by show 0 ≠ 8; decide) rfl rfl g
theorem w_yes {yes no : List T} {a : T} (ha : a.kids ≠ []) (g : Wk (.node yes :: .node t :: cs, a :: s) n c e) : Wk (.node (forkW yes no :: t) :: cs, a :: s) (n + 1) (c + 1) e :=
  .one (by simp) (nh_word (k := 7) rfl (by decide)) (by
    unfold nx onward
    simp only [ats, T.kids, List.getElem?_cons_zero, Option.getD_some, List.drop_succ_cons, List.drop_zero]
    rw [if_pos (by rfl), if_pos (by exact ha), beh7 (by show 6 < 7; decide), pad_of (by show 1 ≤ _; simp)]; rfl) (cost_plain (by show 7 ≠ 2; decide)) g
theorem w_no {yes no : List T} {a : T} (ha : a.kids = []) (g : Wk (.node no :: .node t :: cs, a :: s) n c e) : Wk (.node (forkW yes no :: t) :: cs, a :: s) (n + 1) (c + 1) e :=
  .one (by simp) (nh_word (k := 7) rfl (by decide)) (by
    unfold nx onward
    simp only [ats, T.kids, List.getElem?_cons_zero, Option.getD_some, List.drop_succ_cons, List.drop_zero]
    rw [if_pos (by rfl), if_neg (by exact fun z => z ha), beh7 (by show 6 < 7; decide), pad_of (by show 1 ≤ _; simp)]; rfl) (cost_plain (by show 7 ≠ 2; decide)) g
end
/-! ### its words -/
def tLaid (t : List T) : List T := W 6 :: W 6 :: W 4 :: W 6 :: W 6 :: W 4 :: W 3 :: t
def tParted (t : List T) : List T := W 1 :: W 4 :: W 3 :: W 5 :: t
def tWorked : Nat → List T
  | 1 => [W 1]
  | 2 => [W 2, W 6, W 3, W 4, W 3, W 4]
  | 3 => [W 3, W 5, W 3, W 6, W 4, W 3, W 4]
  | 4 => [W 3, W 5, W 6, W 4, W 4]
  | 5 => [W 5, W 6, W 6, W 4, W 3, W 4]
  | 6 => [W 3, W 5, W 3, W 5, W 3, W 6, W 4, W 6, W 4, W 3, W 4]
  | _ => []
def tTop (t : List T) : List T := W 6 :: W 6 :: W 4 :: W 6 :: W 5 :: t
def tYes : List T := [W 4, W 3, W 6, W 5, W 3, W 1, W 4]
def tNo : List T := [W 4, W 3, W 6, W 5, W 1, W 4]
def tBody : List T := [W 4, W 3, W 6, W 5, W 3, W 2, W 6, W 4, W 6, W 5, W 6, W 4, W 4, W 3, W 4]
def tPast : List T := [W 4, W 6, W 1, W 3]
def tDrops : Nat → List T → List T
  | 0, t => t
  | n + 1, t => W 1 :: tDrops n t
def tGone (k : Nat) : List T := tDrops (k + 1) (if k = 0 then tLaid [] else if k = 7 then tTop [forkW tYes tNo] else tParted (tWorked k ++ [W 3]))
def tBack : Nat → List T → List T
  | 0, t => t
  | n + 1, t => W 3 :: W 4 :: tBack n t
def tWhile : List T := tBack 8 (W 4 :: tTop [forkW tBody tPast])
def tNameless : List T := tDrops 10 [W 4]
/-- by sort, so many sorts ahead of the while's -/
def tSort : Nat → List T
  | 0 => [forkW tNameless tWhile]
  | d + 1 => [forkW (W 5 :: W 3 :: tSort d) (tGone (7 - d))]
def tStep : List T := [W 5, forkW (W 5 :: W 5 :: tSort 8) [W 1]]
def tHead : List T := [wordT 8 tStep, W 1, W 5, W 3, W 1]
def tSelf : List T := W 5 :: wordT 0 [] :: W 6 :: W 4 :: wordT 0 [] :: W 6 :: W 4 :: tHead
section
variable {t cs s us : List T} {e : Std} {n c : Nat}
theorem w_drops {as : List T} (g : Wk (.node t :: cs, s) n c e) : ∀ {k : Nat}, as.length = k → Wk (.node (tDrops k t) :: cs, as ++ s) (n + k) (c + k) e := by
  intro k hk
  induction as generalizing k with
  | nil => cases hk; exact g
  | cons a as ih => cases hk; exact w_drop (ih rfl)
theorem w_laid {l : T} {w : T} {ts st : List T} (g : Wk (.node t :: cs, .node (w :: ts) :: .node (l :: st) :: us) n c e) : Wk (.node (tLaid t) :: cs, l :: w :: .node ts :: .node st :: us) (n + 7) (c + 7) e :=
  w_turn (w_turn (w_front (w_turn (w_turn (w_front (w_swap g))))))
theorem w_parted {l w : T} {ts st : List T} (g : Wk (.node t :: cs, ats st 0 :: .node (st.drop 1) :: .node (w :: ts) :: us) n c e) : Wk (.node (tParted t) :: cs, l :: w :: .node ts :: .node st :: us) (n + 4) (c + 4) e :=
  w_drop (w_front (w_swap (w_part g)))
theorem w_top {l w : T} {ts st : List T} (g : Wk (.node t :: cs, ats st 0 :: .node (st.drop 1) :: .node (w :: ts) :: l :: us) n c e) : Wk (.node (tTop t) :: cs, l :: w :: .node ts :: .node st :: us) (n + 5) (c + 5) e :=
  w_turn (w_turn (w_front (w_turn (w_part g))))
/-- what a plain word does to the stack -/
def didW : Nat → List T → List T
  | 1, s => s.drop 1
  | 2, s => ats s 0 :: ats s 0 :: s.drop 1
  | 3, s => ats (s.drop 1) 0 :: ats s 0 :: s.drop 2
  | 4, s => .node (ats s 0 :: (ats (s.drop 1) 0).kids) :: s.drop 2
  | 5, s => ats (ats s 0).kids 0 :: .node ((ats s 0).kids.drop 1) :: s.drop 1
  | 6, s => ats (s.drop 2) 0 :: ats s 0 :: ats (s.drop 1) 0 :: s.drop 3
  | _, s => s
theorem w_worked {x : T} {st : List T} : ∀ {k : Nat}, 1 ≤ k → k ≤ 6 → Wk (.node t :: cs, .node (didW k st) :: x :: us) n c e →
    ∃ m d, m ≤ 11 ∧ d ≤ 11 + (if k = 2 then (ats st 0).parts else 0) ∧ Wk (.node (tWorked k ++ t) :: cs, ats st 0 :: .node (st.drop 1) :: x :: us) (n + m) (c + d) e := by
  intro k h1 h6 g
  rcases (by omega : k = 1 ∨ k = 2 ∨ k = 3 ∨ k = 4 ∨ k = 5 ∨ k = 6) with rfl | rfl | rfl | rfl | rfl | rfl
  · exact ⟨1, 1, by decide, by rw [if_neg (by decide)]; decide, w_drop g⟩
  · exact ⟨6, 5 + (ats st 0).parts, by decide, by rw [if_pos rfl]; omega, (w_twin (w_turn (w_swap (w_front (w_swap (w_front g)))))).to rfl (by omega)⟩
  · exact ⟨7, 7, by decide, by rw [if_neg (by decide)]; decide, w_swap (w_part (w_swap (w_turn (w_front (w_swap (w_front (by rw [List.drop_drop]; exact g)))))))⟩
  · refine ⟨5, 5, by decide, by rw [if_neg (by decide)]; decide, w_swap (w_part (w_turn ?_))⟩
    rw [show ats (st.drop 1) 0 = .node (ats (st.drop 1) 0).kids from (kids_node _).symm]
    exact w_front (w_front (by rw [List.drop_drop]; exact g))
  · refine ⟨6, 6, by decide, by rw [if_neg (by decide)]; decide, ?_⟩
    rw [show ats st 0 = .node (ats st 0).kids from (kids_node _).symm]
    exact w_part (w_turn (w_turn (w_front (w_swap (w_front g)))))
  · exact ⟨11, 11, by decide, by rw [if_neg (by decide)]; decide, w_swap (w_part (w_swap (w_part (w_swap (w_turn (w_front (w_turn (w_front (w_swap (w_front (by rw [List.drop_drop, List.drop_drop]; exact g)))))))))))⟩
theorem w_shuts (k : Nat) (g : Wk (cs, s) n c e) : Wk (List.replicate k (.node []) ++ cs, s) (n + k) (c + k) e := by
  induction k with
  | zero => exact g
  | succ k ih => exact w_shut ih
theorem rep_mid {α : Type} (x : α) (k : Nat) (l : List α) : List.replicate k x ++ x :: l = List.replicate (k + 1) x ++ l := by
  induction k with
  | zero => rfl
  | succ k ih => rw [List.replicate_succ, List.cons_append, ih]; rfl
theorem w_desc {fs : List T} {d : Nat} : ∀ {as cs s : List T}, Wk (.node (tSort d) :: (List.replicate as.length (.node []) ++ cs), .node fs :: (as.reverse ++ s)) n c e →
    Wk (.node (tSort (as.length + d)) :: cs, .node (as ++ fs) :: s) (n + 3 * as.length) (c + 3 * as.length) e := by
  intro as
  induction as with
  | nil => intro cs s g; rw [List.length_nil, Nat.zero_add]; exact g
  | cons a as ih =>
    intro cs s g
    have g' : Wk (.node (tSort d) :: (List.replicate as.length (.node []) ++ .node [] :: cs), .node fs :: (as.reverse ++ a :: s)) n c e := by
      rw [rep_mid]
      rw [List.reverse_cons, List.append_assoc] at g
      exact g
    rw [List.length_cons, show as.length + 1 + d = as.length + d + 1 by omega]
    exact (w_yes (yes := W 5 :: W 3 :: tSort (as.length + d)) (a := .node (a :: (as ++ fs))) (by simp [T.kids]) (w_partc (w_swap (ih g')))).to (by omega) (by omega)
theorem w_back : ∀ {as fs s : List T}, Wk (.node t :: cs, .node (as.reverse ++ fs) :: s) n c e → Wk (.node (tBack as.length t) :: cs, .node fs :: (as ++ s)) (n + 2 * as.length) (c + 2 * as.length) e := by
  intro as
  induction as with
  | nil => intro fs s g; exact g
  | cons a as ih =>
    intro fs s g
    rw [List.reverse_cons, List.append_assoc] at g
    exact (w_swap (w_front (ih g))).to (by rw [List.length_cons]; omega) (by rw [List.length_cons]; omega)
/-- what comes of a word with this first and load, of the texts and the stack -/
def resT (as l xs ts st : List T) : List T × List T :=
  if as.length = 0 then (.node xs :: ts, .node l :: st)
  else if as.length ≤ 6 then (.node xs :: ts, didW as.length st)
  else if as.length = 7 then if (ats st 0).kids ≠ [] then (ats l 0 :: .node xs :: ts, ats st 0 :: st.drop 1) else (.node (l.drop 1) :: .node xs :: ts, ats st 0 :: st.drop 1)
  else if as.length = 8 then if (ats st 0).kids ≠ [] then (.node l :: .node (.node (.node as :: l) :: xs) :: ts, ats st 0 :: st.drop 1) else (.node xs :: ts, ats st 0 :: st.drop 1)
  else (.node xs :: ts, st)
theorem w_sort {as l xs ts st : List T} (g : Wk (cs, .node (resT as l xs ts st).1 :: .node (resT as l xs ts st).2 :: us) n c e) :
    ∃ m d, m ≤ 100 ∧ (1 ≤ as.length → as.length ≤ 8 → 5 * as.length + 9 ≤ m) ∧ d ≤ 100 + (if as.length = 2 then (ats st 0).parts else 0) + (if as.length = 8 ∧ (ats st 0).kids ≠ [] then (T.node l).parts else 0) ∧
      Wk (.node (tSort 8) :: cs, .node as :: .node l :: .node xs :: .node ts :: .node st :: us) (n + m) (c + d) e := by
  by_cases h0 : as.length = 0
  · have : as = [] := List.length_eq_zero_iff.mp h0
    subst this
    refine ⟨11, 11, by decide, fun z => absurd z (by decide), by rw [if_neg (by decide), if_neg (by simp)]; decide, ?_⟩
    have g : Wk (cs, .node (.node xs :: ts) :: .node (.node l :: st) :: us) n c e := g
    exact w_no rfl (w_drop (w_laid (w_shut (w_shut g))))
  rw [resT, if_neg h0] at g
  by_cases h6 : as.length ≤ 6
  · rw [if_pos h6] at g
    have g1 := w_shut (w_shut (w_shuts as.length g))
    obtain ⟨m, d, hm, hd, g2⟩ := w_worked (k := as.length) (by omega) h6 (w_swap g1)
    have g3 := w_drops (as := .node [] :: as.reverse) (w_parted (l := .node l) g2) (k := as.length + 1) (by rw [List.length_cons, List.length_reverse])
    refine ⟨3 * as.length + 1 + (as.length + 1) + 4 + m + 1 + 1 + 1 + as.length, 3 * as.length + 1 + (as.length + 1) + 4 + d + 1 + 1 + 1 + as.length, by omega, fun _ _ => by omega, by omega, ?_⟩
    have e8 : tSort 8 = tSort (as.length + (8 - as.length)) := by rw [show as.length + (8 - as.length) = 8 by omega]
    rw [e8, show T.node as = T.node (as ++ []) by rw [List.append_nil]]
    refine (w_desc (n := (n + as.length + 1 + 1 + 1 + m + 4 + (as.length + 1)) + 1) (c := (c + as.length + 1 + 1 + 1 + d + 4 + (as.length + 1)) + 1) ?_).to (by omega) (by omega)
    have e9 : tSort (8 - as.length) = [forkW (W 5 :: W 3 :: tSort (7 - as.length)) (tGone as.length)] := by
      rw [show 8 - as.length = (7 - as.length) + 1 by omega, tSort, show 7 - (7 - as.length) = as.length by omega]
    rw [e9]
    refine w_no rfl ?_
    rw [tGone, if_neg h0, if_neg (by omega)]
    exact g3
  rw [if_neg h6] at g
  by_cases h7 : as.length = 7
  · rw [if_pos h7] at g
    have e8 : tSort 8 = tSort (as.length + 1) := by rw [h7]
    have e9 : tSort 1 = [forkW (W 5 :: W 3 :: tSort 0) (tGone 7)] := rfl
    by_cases ht : (ats st 0).kids ≠ []
    · rw [if_pos ht] at g
      have g1 := w_shut (w_shut (w_shut (w_shuts as.length g)))
      refine ⟨3 * as.length + 1 + (as.length + 1) + 5 + 1 + 7 + 3 + as.length, 3 * as.length + 1 + (as.length + 1) + 5 + 1 + 7 + 3 + as.length, by omega, fun _ _ => by omega, by rw [if_neg (by omega), if_neg (by omega)]; omega, ?_⟩
      rw [e8, show T.node as = T.node (as ++ []) by rw [List.append_nil]]
      refine (w_desc (n := (n + as.length + 3 + 7 + 1 + 5 + (as.length + 1)) + 1) (c := (c + as.length + 3 + 7 + 1 + 5 + (as.length + 1)) + 1) ?_).to (by omega) (by omega)
      rw [e9]
      refine w_no rfl ?_
      rw [tGone, if_neg (by decide), if_pos rfl]
      exact (w_drops (as := .node [] :: as.reverse) (w_top (w_yes ht (w_front (w_swap (w_turn (w_part (w_swap (w_drop (w_front g1))))))))) (k := 7 + 1) (by rw [List.length_cons, List.length_reverse, h7])).to (by omega) (by omega)
    · rw [if_neg ht] at g
      have g1 := w_shut (w_shut (w_shut (w_shuts as.length g)))
      refine ⟨3 * as.length + 1 + (as.length + 1) + 5 + 1 + 6 + 3 + as.length, 3 * as.length + 1 + (as.length + 1) + 5 + 1 + 6 + 3 + as.length, by omega, fun _ _ => by omega, by rw [if_neg (by omega), if_neg (by omega)]; omega, ?_⟩
      rw [e8, show T.node as = T.node (as ++ []) by rw [List.append_nil]]
      refine (w_desc (n := (n + as.length + 3 + 6 + 1 + 5 + (as.length + 1)) + 1) (c := (c + as.length + 3 + 6 + 1 + 5 + (as.length + 1)) + 1) ?_).to (by omega) (by omega)
      rw [e9]
      refine w_no rfl ?_
      rw [tGone, if_neg (by decide), if_pos rfl]
      exact (w_drops (as := .node [] :: as.reverse) (w_top (w_no (Classical.not_not.mp ht) (w_front (w_swap (w_turn (w_part (w_drop (w_front g1)))))))) (k := 7 + 1) (by rw [List.length_cons, List.length_reverse, h7])).to (by omega) (by omega)
  rw [if_neg h7] at g
  by_cases h8 : as.length = 8
  · rw [if_pos h8] at g
    have e8 : tSort 8 = tSort (as.length + 0) := by rw [h8]
    have eb : tWhile = tBack as.reverse.length (W 4 :: tTop [forkW tBody tPast]) := by rw [List.length_reverse, h8]; rfl
    by_cases ht : (ats st 0).kids ≠ []
    · rw [if_pos ht] at g
      have g1 := w_shut (w_shut (w_shut (w_shuts as.length g)))
      refine ⟨3 * as.length + 1 + 2 * as.length + 1 + 5 + 1 + 15 + 3 + as.length, 3 * as.length + 1 + 2 * as.length + 1 + 5 + 1 + 14 + 3 + as.length + (T.node l).parts, by omega, fun _ _ => by omega, by rw [if_neg (by omega), if_pos ⟨h8, ht⟩]; omega, ?_⟩
      rw [e8, show T.node as = T.node (as ++ []) by rw [List.append_nil]]
      refine (w_desc (n := (n + as.length + 3 + 15 + 1 + 5 + 1 + 2 * as.length) + 1) (c := (c + as.length + 3 + 14 + (T.node l).parts + 1 + 5 + 1 + 2 * as.length) + 1) ?_).to (by omega) (by omega)
      refine w_no rfl ?_
      rw [eb]
      refine (w_back (n := n + as.length + 3 + 15 + 1 + 5 + 1) (c := c + as.length + 3 + 14 + (T.node l).parts + 1 + 5 + 1) ?_).to (by rw [List.length_reverse]) (by rw [List.length_reverse])
      rw [List.reverse_reverse, List.append_nil]
      exact (w_front (w_top (w_yes ht (w_front (w_swap (w_turn (w_partc (w_swap (w_twin (w_turn (w_front (w_turn (w_partc (w_turn (w_front (w_front (w_swap (w_front g1)))))))))))))))))).to (by omega) (by omega)
    · rw [if_neg ht] at g
      have g1 := w_shut (w_shut (w_shut (w_shuts as.length g)))
      refine ⟨3 * as.length + 1 + 2 * as.length + 1 + 5 + 1 + 4 + 3 + as.length, 3 * as.length + 1 + 2 * as.length + 1 + 5 + 1 + 4 + 3 + as.length, by omega, fun _ _ => by omega, by rw [if_neg (by omega), if_neg (fun z => ht z.2)]; omega, ?_⟩
      rw [e8, show T.node as = T.node (as ++ []) by rw [List.append_nil]]
      refine (w_desc (n := (n + as.length + 3 + 4 + 1 + 5 + 1 + 2 * as.length) + 1) (c := (c + as.length + 3 + 4 + 1 + 5 + 1 + 2 * as.length) + 1) ?_).to (by omega) (by omega)
      refine w_no rfl ?_
      rw [eb]
      refine (w_back (n := n + as.length + 3 + 4 + 1 + 5 + 1) (c := c + as.length + 3 + 4 + 1 + 5 + 1) ?_).to (by rw [List.length_reverse]) (by rw [List.length_reverse])
      rw [List.reverse_reverse, List.append_nil]
      exact w_front (w_top (w_no (Classical.not_not.mp ht) (w_front (w_turn (w_drop (w_swap g1))))))
  · rw [if_neg h8] at g
    have hl : (as.take 8).length = 8 := by rw [List.length_take]; omega
    have g1 := w_shut (w_shut (w_shuts 8 g))
    refine ⟨3 * 8 + 1 + 10 + 1 + 2 + 8, 3 * 8 + 1 + 10 + 1 + 2 + 8, by omega, fun _ _ => by omega, by omega, ?_⟩
    have e8 : tSort 8 = tSort ((as.take 8).length + 0) := by rw [hl]
    rw [e8, show T.node as = T.node (as.take 8 ++ as.drop 8) by rw [List.take_append_drop]]
    refine (w_desc (n := (n + 8 + 2 + 1 + 10) + 1) (c := (c + 8 + 2 + 1 + 10) + 1) ?_).to (by omega) (by omega)
    rw [hl]
    refine w_yes ?_ ?_
    · show as.drop 8 ≠ []
      intro z
      have := congrArg List.length z
      rw [List.length_drop, List.length_nil] at this
      omega
    · have := w_drops (as := .node (as.drop 8) :: ((as.take 8).reverse ++ [.node l])) (w_front g1) (k := 10) (by rw [List.length_cons, List.length_append, List.length_reverse, hl]; rfl)
      rw [List.cons_append, List.append_assoc] at this
      exact this
/-- what a step may take beyond 300 -/
def extraT (tx s : List T) : Nat := match (ats tx 0).kids with
  | [] => 0
  | w :: _ => if sortT w = 2 then (ats s 0).parts else if sortT w = 8 ∧ (ats s 0).kids ≠ [] then (loadT w).parts else 0
theorem pad1 (s : List T) : pad s 1 = ats s 0 :: s.drop 1 := by
  cases s with
  | nil => rfl
  | cons a s => rw [pad_of (by simp)]; rfl
theorem did_is {w : T} {k : Nat} (h1 : 1 ≤ k) (h6 : k ≤ 6) (h : sortT w = k) : behind w s = didW k s := by
  rcases (by omega : k = 1 ∨ k = 2 ∨ k = 3 ∨ k = 4 ∨ k = 5 ∨ k = 6) with rfl | rfl | rfl | rfl | rfl | rfl
  · rw [beh1 h, pad1]; rfl
  · rw [beh2 h, pad1]; rfl
  · rw [beh3 h]
    match s with
    | [] => rfl
    | [a] => rfl
    | a :: b :: s => rw [pad_of (by simp)]; rfl
  · rw [beh4 h]
    match s with
    | [] => rfl
    | [a] => rfl
    | a :: b :: s => rw [pad_of (by simp)]; rfl
  · rw [beh5 h, pad1]; rfl
  · rw [beh6 h]
    match s with
    | [] => rfl
    | [a] => rfl
    | [a, b] => rfl
    | a :: b :: d :: s => rw [pad_of (by simp)]; rfl
theorem onward_word {w : T} {ws ts : List T} : onward (.node (w :: ws) :: ts) s =
    if sortT w = 7 then
      if (ats s 0).kids ≠ [] then (ats (w.kids.drop 1) 0 :: .node ws :: ts, behind w s, 7) else (.node (w.kids.drop 2) :: .node ws :: ts, behind w s, 8)
    else if sortT w = 8 then
      if (ats s 0).kids ≠ [] then (loadT w :: .node (w :: ws) :: ts, behind w s, 9) else (.node ws :: ts, behind w s, 10)
    else if sortT w = 9 then (.node ws :: ts, behind w s, 11)
    else (.node ws :: ts, behind w s, sortT w) := rfl
/-- a word, taken apart, does what it does -/
theorem res_is {as l xs ts : List T} : ((onward (.node (.node (.node as :: l) :: xs) :: ts) s).1, (onward (.node (.node (.node as :: l) :: xs) :: ts) s).2.1) = resT as l xs ts s := by
  have hs : sortT (.node (.node as :: l)) = min 9 as.length := rfl
  rw [onward_word]
  unfold resT
  rw [hs]
  by_cases h0 : as.length = 0
  · rw [if_neg (by omega), if_neg (by omega), if_neg (by omega), if_pos h0, beh0 (by rw [hs]; omega)]; rfl
  rw [if_neg h0]
  by_cases h6 : as.length ≤ 6
  · rw [if_neg (by omega), if_neg (by omega), if_neg (by omega), if_pos h6, did_is (k := as.length) (by omega) h6 (by rw [hs]; omega)]
  rw [if_neg h6]
  by_cases h7 : as.length = 7
  · rw [if_pos (by omega), if_pos h7, beh7 (by rw [hs]; omega), hs, show min 9 as.length = 7 by omega, show many 7 = 1 from rfl, pad1]
    split <;> rfl
  rw [if_neg h7]
  by_cases h8 : as.length = 8
  · rw [if_neg (by omega), if_pos (by omega), if_pos h8, beh7 (by rw [hs]; omega), hs, show min 9 as.length = 8 by omega, show many 8 = 1 from rfl, pad1]
    split <;> rfl
  · rw [if_neg (by omega), if_neg (by omega), if_pos (by omega), if_neg h8, beh7 (by rw [hs]; omega), hs, show min 9 as.length = 9 by omega, show many 9 = 0 from rfl, pad_of (Nat.zero_le _)]
/-- a word without items does as the lay of a leaf -/
theorem res_none {xs ts : List T} : ((onward (.node (.node [] :: xs) :: ts) s).1, (onward (.node (.node [] :: xs) :: ts) s).2.1) = resT [] [] xs ts s := by
  unfold onward
  simp only [ats, T.kids, List.getElem?_cons_zero, Option.getD_some, List.drop_succ_cons, List.drop_zero]
  rw [beh0 rfl]
  rfl
theorem hd_in {tx : List T} (h : tx ≠ []) : nx (.node tHead :: cs, .node tx :: s) = (.node tStep :: .node tHead :: cs, .node tx :: s) := by
  unfold nx
  rw [show tHead = wordT 8 tStep :: [W 1, W 5, W 3, W 1] from rfl, onward_word, if_neg (by show 8 ≠ 7; decide), if_pos (by rfl), if_pos (by exact h), beh7 (by show 6 < 8; decide), pad_of (by show 1 ≤ _; simp)]
  rfl
theorem hd_past : nx (.node tHead :: cs, .node [] :: s) = (.node [W 1, W 5, W 3, W 1] :: cs, .node [] :: s) := by
  unfold nx
  rw [show tHead = wordT 8 tStep :: [W 1, W 5, W 3, W 1] from rfl, onward_word, if_neg (by show 8 ≠ 7; decide), if_pos (by rfl), if_neg (by exact fun z => z rfl), beh7 (by show 6 < 8; decide), pad_of (by show 1 ≤ _; simp)]
/-- the sort of the first word -/
def s1 (tx : List T) : Nat := sortT (ats (ats tx 0).kids 0)
/-- from a head to the next -/
theorem hd_step {tx st : List T} (h : tx ≠ []) : ∃ n c, n ≤ 110 ∧ c ≤ 110 + extraT tx st ∧ 5 ≤ n ∧ (1 ≤ s1 tx → s1 tx ≤ 8 → 5 * s1 tx + 14 ≤ n) ∧
    Wk (nx (.node tHead :: cs, .node tx :: .node st :: us)) n c (.node tHead :: cs, .node (onward tx st).1 :: .node (onward tx st).2.1 :: us) := by
  rw [hd_in h]
  match tx, h with
  | .node [] :: ts, _ => exact ⟨5, 5, by decide, by show 5 ≤ 110 + 0; decide, by decide, fun z => absurd z (by show ¬ 1 ≤ 0; decide), w_partc (w_no rfl (w_drop (w_shut (w_shut .nil))))⟩
  | .node (.node [] :: xs) :: ts, _ =>
    have hr := res_none (s := st) (xs := xs) (ts := ts)
    obtain ⟨m, d, hm, _, hd, g⟩ := w_sort (as := []) (l := []) (xs := xs) (ts := ts) (st := st) (us := us) (w_shut (Wk.nil (st := (.node tHead :: cs, .node (resT [] [] xs ts st).1 :: .node (resT [] [] xs ts st).2 :: us))))
    rw [← hr] at g
    refine ⟨0 + 1 + m + 4, 0 + 1 + d + 4, by omega, by rw [if_neg (by decide), if_neg (by simp)] at hd; omega, by omega, fun z => absurd z (by show ¬ 1 ≤ 0; decide), ?_⟩
    exact w_partc (w_yes (by simp [T.kids]) (w_partc (w_part g)))
  | .node (.node (.node as :: l) :: xs) :: ts, _ =>
    have hr := res_is (s := st) (as := as) (l := l) (xs := xs) (ts := ts)
    obtain ⟨m, d, hm, hlow, hd, g⟩ := w_sort (as := as) (l := l) (xs := xs) (ts := ts) (st := st) (us := us) (w_shut (Wk.nil (st := (.node tHead :: cs, .node (resT as l xs ts st).1 :: .node (resT as l xs ts st).2 :: us))))
    rw [← hr] at g
    have hs1 : s1 (.node (.node (.node as :: l) :: xs) :: ts) = min 9 as.length := rfl
    refine ⟨0 + 1 + m + 4, 0 + 1 + d + 4, by omega, ?_, by omega, fun z1 z2 => by rw [hs1] at z1 z2 ⊢; have := hlow (by omega) (by omega); omega, w_partc (w_yes (by simp [T.kids]) (w_partc (w_partc g)))⟩
    have hx : extraT (.node (.node (.node as :: l) :: xs) :: ts) st = if as.length = 2 then (ats st 0).parts else if as.length = 8 ∧ (ats st 0).kids ≠ [] then (T.node l).parts else 0 := by
      have hs : sortT (.node (.node as :: l)) = min 9 as.length := rfl
      rw [show extraT (.node (.node (.node as :: l) :: xs) :: ts) st = if sortT (.node (.node as :: l)) = 2 then (ats st 0).parts else if sortT (.node (.node as :: l)) = 8 ∧ (ats st 0).kids ≠ [] then (loadT (.node (.node as :: l))).parts else 0 from rfl, hs]
      by_cases h2 : as.length = 2
      · rw [if_pos h2, if_pos (by omega)]
      · rw [if_neg h2, if_neg (by omega)]
        by_cases h8 : as.length = 8
        · by_cases ht : (ats st 0).kids ≠ []
          · rw [if_pos ⟨by omega, ht⟩, if_pos ⟨by omega, ht⟩]; rfl
          · rw [if_neg (fun z => ht z.2), if_neg (fun z => ht z.2)]
        · rw [if_neg (fun z => h8 (by have := z.1; omega)), if_neg (fun z => h8 (by have := z.1; omega))]
    rw [hx]
    by_cases h2 : as.length = 2
    · rw [if_pos h2, if_neg (by omega)] at hd
      rw [if_pos h2]
      omega
    · rw [if_neg h2] at hd
      rw [if_neg h2]
      omega
/-- behind the last head -/
theorem hd_end {st : List T} : Wk (nx (.node tHead :: cs, .node [] :: .node st :: us)) 5 5 (cs, ats st 0 :: us) := by
  rw [hd_past]
  exact w_drop (w_part (w_swap (w_drop (w_shut .nil))))
/-- to the first head -/
theorem hd_begin {x : T} {its : List T} : Wk (nx (.node tSelf :: cs, .node (x :: its) :: us)) 6 6 (.node tHead :: cs, .node [x] :: .node [.node its] :: us) := by
  have e : nx (.node tSelf :: cs, .node (x :: its) :: us) = (.node (wordT 0 [] :: W 6 :: W 4 :: wordT 0 [] :: W 6 :: W 4 :: tHead) :: cs, x :: .node its :: us) := by
    rw [show tSelf = W 5 :: wordT 0 [] :: W 6 :: W 4 :: wordT 0 [] :: W 6 :: W 4 :: tHead from rfl, nx_plain (by show 5 ≤ 6; decide), beh5 rfl, pad_of (by simp)]
    rfl
  rw [e]
  exact w_lay (w_turn (w_front (w_lay (w_turn (w_front .nil)))))
end
end Sw

/-! ## how large the stands of a run become -/
namespace Sw
def wt (st : Std) : Nat := T.partsL st.1 + T.partsL st.2
theorem pL_drop (k : Nat) (s : List T) : T.partsL (s.drop k) ≤ T.partsL s := by
  have e := T.partsL_append (s.take k) (s.drop k)
  rw [List.take_append_drop] at e
  omega
theorem p_ats (s : List T) (k : Nat) : (ats s k).parts ≤ T.partsL s + 1 := by
  induction s generalizing k with
  | nil => unfold ats leaf; rw [List.getElem?_nil, Option.getD_none, T.parts_node, T.partsL_nil]; omega
  | cons a s ih =>
    rw [T.partsL_cons]
    cases k with
    | zero => show a.parts ≤ _; omega
    | succ k => have := ih k; have := T.parts_pos a; show (ats s k).parts ≤ _; omega
theorem p_load (w : T) : (loadT w).parts ≤ w.parts := by
  have := pL_drop 1 w.kids
  unfold loadT
  rw [T.parts_node, T.parts_kids w]
  omega
theorem p_did {k : Nat} (h1 : 1 ≤ k) (h6 : k ≤ 6) (s : List T) : T.partsL (didW k s) ≤ T.partsL s + (if k = 2 then (ats s 0).parts + 1 else 3) := by
  have hl : leaf.parts = 1 := by unfold leaf; rw [T.parts_node, T.partsL_nil]
  have hk : leaf.kids = [] := rfl
  have hn : (T.node []).parts = 1 := by rw [T.parts_node, T.partsL_nil]
  have e0 : ∀ s : List T, ats s 0 = match s with | [] => leaf | a :: _ => a := fun s => by cases s <;> rfl
  rcases (by omega : k = 1 ∨ k = 2 ∨ k = 3 ∨ k = 4 ∨ k = 5 ∨ k = 6) with rfl | rfl | rfl | rfl | rfl | rfl
  · have := pL_drop 1 s; rw [if_neg (by decide)]; show T.partsL (s.drop 1) ≤ _; omega
  · rw [if_pos rfl]
    match s with
    | [] => simp only [didW, e0, List.drop_nil, T.partsL_cons, T.partsL_nil, hl]; omega
    | a :: s => simp only [didW, e0, List.drop_succ_cons, List.drop_zero, T.partsL_cons]; omega
  · rw [if_neg (by decide)]
    match s with
    | [] => simp only [didW, e0, List.drop_nil, T.partsL_cons, T.partsL_nil, hl]; omega
    | [a] => simp only [didW, e0, List.drop_succ_cons, List.drop_zero, List.drop_nil, T.partsL_cons, T.partsL_nil, hl]; omega
    | a :: b :: s => simp only [didW, e0, List.drop_succ_cons, List.drop_zero, T.partsL_cons]; omega
  · rw [if_neg (by decide)]
    match s with
    | [] => simp only [didW, e0, List.drop_nil, T.partsL_cons, T.partsL_nil, hl, hk, T.parts_node]; omega
    | [a] => simp only [didW, e0, List.drop_succ_cons, List.drop_zero, List.drop_nil, T.partsL_cons, T.partsL_nil, hk, T.parts_node]; omega
    | a :: b :: s => simp only [didW, e0, List.drop_succ_cons, List.drop_zero, T.partsL_cons, T.parts_node]; have := T.parts_kids b; omega
  · rw [if_neg (by decide)]
    match s with
    | [] => simp only [didW, e0, List.drop_nil, T.partsL_cons, T.partsL_nil, hl, hk, T.parts_node]; omega
    | .node [] :: s => simp only [didW, e0, T.kids, List.drop_succ_cons, List.drop_zero, List.drop_nil, T.partsL_cons, T.partsL_nil, hl, T.parts_node]; omega
    | .node (a :: b) :: s => simp only [didW, e0, T.kids, List.drop_succ_cons, List.drop_zero, T.partsL_cons, T.parts_node]; omega
  · rw [if_neg (by decide)]
    match s with
    | [] => simp only [didW, e0, List.drop_nil, T.partsL_cons, T.partsL_nil, hl]; omega
    | [a] => simp only [didW, e0, List.drop_succ_cons, List.drop_zero, List.drop_nil, T.partsL_cons, T.partsL_nil, hl]; omega
    | [a, b] => simp only [didW, e0, List.drop_succ_cons, List.drop_zero, List.drop_nil, T.partsL_cons, T.partsL_nil, hl]; omega
    | a :: b :: d :: s => simp only [didW, e0, List.drop_succ_cons, List.drop_zero, T.partsL_cons]; omega
theorem p_pad (s : List T) (n : Nat) : T.partsL (pad s n) ≤ T.partsL s + n := by
  have : ∀ k, T.partsL (List.replicate k leaf) = k := fun k => by
    induction k with
    | zero => rw [List.replicate_zero, T.partsL_nil]
    | succ k ih => rw [List.replicate_succ, T.partsL_cons, ih, leaf, T.parts_node, T.partsL_nil]; omega
  unfold pad
  rw [T.partsL_append, this]
  omega
theorem p_behind (w : T) (s : List T) : T.partsL (behind w s) ≤ T.partsL s + (if sortT w = 2 then (ats s 0).parts + 1 else 3) + (if sortT w = 0 then (loadT w).parts else 0) := by
  by_cases h0 : sortT w = 0
  · rw [beh0 h0, T.partsL_cons, if_pos h0, if_neg (by omega)]; omega
  by_cases h6 : sortT w ≤ 6
  · rw [did_is (k := sortT w) (by omega) h6 rfl]
    have := p_did (k := sortT w) (by omega) h6 s
    omega
  · have h9 := sort_le w
    have h3 : ∀ k, k ≤ 9 → many k ≤ 3 := by decide
    have := h3 _ h9
    rw [beh7 (by omega), if_neg (by omega)]
    have := p_pad s (many (sortT w))
    omega
/-- texts and stack, a word ahead -/
theorem on_bounds (w : T) (ws ts s : List T) :
    T.partsL (onward (.node (w :: ws) :: ts) s).1 ≤ T.partsL (.node (w :: ws) :: ts) + (if sortT w = 8 then (loadT w).parts else 0) ∧
    (sortT w = 0 → T.partsL (onward (.node (w :: ws) :: ts) s).1 + w.parts ≤ T.partsL (.node (w :: ws) :: ts)) ∧ (onward (.node (w :: ws) :: ts) s).2.1 = behind w s := by
  have hw := T.parts_pos w
  have hl := p_load w
  rw [onward_word]
  by_cases h7 : sortT w = 7
  · rw [if_pos h7, if_neg (show ¬ sortT w = 8 by omega)]
    refine ⟨?_, fun z => absurd z (by omega), by split <;> rfl⟩
    split
    · have := p_ats (w.kids.drop 1) 0
      have := pL_drop 1 w.kids
      have := T.parts_kids w
      show T.partsL (_ :: _ :: _) ≤ _
      simp only [T.partsL_cons, T.parts_node]
      omega
    · have := pL_drop 2 w.kids
      have := T.parts_kids w
      show T.partsL (_ :: _ :: _) ≤ _
      simp only [T.partsL_cons, T.parts_node]
      omega
  rw [if_neg h7]
  by_cases h8 : sortT w = 8
  · rw [if_pos h8, if_pos h8]
    refine ⟨?_, fun z => absurd z (by omega), by split <;> rfl⟩
    split
    · show T.partsL (_ :: _ :: _) ≤ _
      simp only [T.partsL_cons, T.parts_node]
      omega
    · show T.partsL (_ :: _) ≤ _
      simp only [T.partsL_cons, T.parts_node]
      omega
  rw [if_neg h8, if_neg h8]
  have e : T.partsL (.node ws :: ts) + w.parts = T.partsL (.node (w :: ws) :: ts) := by simp only [T.partsL_cons, T.parts_node]; omega
  split
  · exact ⟨by show T.partsL (.node ws :: ts) ≤ _; omega, fun _ => by show T.partsL (.node ws :: ts) + _ ≤ _; omega, rfl⟩
  · exact ⟨by show T.partsL (.node ws :: ts) ≤ _; omega, fun _ => by show T.partsL (.node ws :: ts) + _ ≤ _; omega, rfl⟩
theorem on_shut {tx s : List T} (h : (ats tx 0).kids = []) : onward tx s = (tx.drop 1, s, 12) := by unfold onward; rw [h]
theorem wt_nx {st : Std} (h : noHead st) : wt (nx st) ≤ wt st + 3 * costS st := by
  obtain ⟨tx, s⟩ := st
  match tx with
  | [] =>
    show T.partsL [] + T.partsL s ≤ T.partsL [] + T.partsL s + _
    omega
  | .node [] :: ts =>
    show T.partsL ts + T.partsL s ≤ T.partsL (.node [] :: ts) + T.partsL s + _
    rw [T.partsL_cons]
    omega
  | .node (w :: ws) :: ts =>
    have h8 : sortT w ≠ 8 := h
    obtain ⟨b1, b2, b3⟩ := on_bounds w ws ts s
    have b4 := p_behind w s
    have hl := p_load w
    rw [if_neg h8] at b1
    have hc : costS (.node (w :: ws) :: ts, s) = if sortT w = 2 then (ats s 0).parts else 1 := rfl
    have hp := T.parts_pos (ats s 0)
    show T.partsL (onward (.node (w :: ws) :: ts) s).1 + T.partsL (onward (.node (w :: ws) :: ts) s).2.1 ≤ T.partsL (.node (w :: ws) :: ts) + T.partsL s + 3 * costS (.node (w :: ws) :: ts, s)
    rw [hc, b3]
    by_cases h2 : sortT w = 2
    · rw [if_pos h2, if_neg (by omega)] at b4
      rw [if_pos h2]
      omega
    · rw [if_neg h2] at b4
      rw [if_neg h2]
      by_cases h0 : sortT w = 0
      · have := b2 h0
        rw [if_pos h0] at b4
        omega
      · rw [if_neg h0] at b4
        omega
/-- all words of all texts are small -/
def Wds (M : Nat) (tx : List T) : Prop := ∀ t ∈ tx, ∀ w ∈ t.kids, w.parts ≤ M
theorem Wds.next {M : Nat} {tx s : List T} (h : Wds M tx) : Wds M (onward tx s).1 ∧ T.partsL (onward tx s).1 ≤ T.partsL tx + M ∧ T.partsL (onward tx s).2.1 ≤ 2 * T.partsL s + M + 4 := by
  match tx with
  | [] => exact ⟨h, by show T.partsL [] ≤ _; omega, by show T.partsL s ≤ _; omega⟩
  | .node [] :: ts => exact ⟨fun t ht => h t (List.mem_cons_of_mem _ ht), by show T.partsL ts ≤ _; rw [T.partsL_cons]; omega, by show T.partsL s ≤ _; omega⟩
  | .node (w :: ws) :: ts =>
    have hw : w.parts ≤ M := h _ List.mem_cons_self w List.mem_cons_self
    obtain ⟨b1, b2, b3⟩ := on_bounds w ws ts s
    have b4 := p_behind w s
    have hl := p_load w
    have pa := p_ats s 0
    refine ⟨?_, by split at b1 <;> omega, by rw [b3]; split at b4 <;> split at b4 <;> omega⟩
    have hin : ∀ {us : List T} {k : Nat} {v : T}, v ∈ w.kids.drop k → v.parts ≤ M := fun {us k v} hv => by
      have := T.mem_parts (List.mem_of_mem_drop hv)
      rw [T.parts_kids w] at hw
      omega
    have hws : ∀ v ∈ ws, v.parts ≤ M := fun v hv => h _ List.mem_cons_self v (List.mem_cons_of_mem _ hv)
    have hts : Wds M ts := fun t ht => h t (List.mem_cons_of_mem _ ht)
    have hcons : ∀ {a : T} {us : List T}, (∀ v ∈ a.kids, v.parts ≤ M) → Wds M us → Wds M (a :: us) := fun {a us} ha hus t ht => by
      rcases List.mem_cons.mp ht with rfl | z
      · exact ha
      · exact hus t z
    have hr : Wds M (.node ws :: ts) := hcons hws hts
    rw [onward_word]
    split
    · split
      · refine hcons (fun v hv => ?_) hr
        have h1 := p_ats (w.kids.drop 1) 0
        have h2 := pL_drop 1 w.kids
        have h3 := T.mem_parts hv
        rw [T.parts_kids w] at hw
        rw [T.parts_kids (ats (w.kids.drop 1) 0)] at h1
        omega
      · exact hcons (fun v hv => hin (us := []) hv) hr
    split
    · split
      · exact hcons (fun v hv => hin (us := []) hv) h
      · exact hr
    split
    · exact hr
    · exact hr
end Sw

/-! ## the runs that are shown -/
namespace Sw
def itN : Nat → Std → Std
  | 0, s => s
  | n + 1, s => nx (itN n s)
def dpLe (a : Nat) (st : Std) : Prop := (T.node st.1).deep ≤ a ∧ (T.node st.2).deep ≤ a
theorem dpLe.le {a b : Nat} {st : Std} (h : dpLe a st) (hab : a ≤ b) : dpLe b st := ⟨Nat.le_trans h.1 hab, Nat.le_trans h.2 hab⟩
theorem dp_nx {a : Nat} {st : Std} (ha : 1 ≤ a) (h : dpLe a st) : dpLe (a + 2) (nx st) := by
  obtain ⟨h1, h2⟩ := h
  have hb1 : (T.node st.1).parts ≤ (T.node st.1).parts + (T.node st.2).parts := by omega
  have hb2 : (T.node st.2).parts ≤ (T.node st.1).parts + (T.node st.2).parts := by omega
  have := B_onward (tx := st.1) (s := st.2) ha ⟨h1, hb1⟩ ⟨h2, hb2⟩
  exact ⟨this.1.1, this.2.1⟩
theorem dp_it {a : Nat} {st : Std} (ha : 1 ≤ a) (h : dpLe a st) : ∀ n, dpLe (a + 2 * n) (itN n st)
  | 0 => h
  | n + 1 => dp_nx (a := a + 2 * n) (by omega) (dp_it ha h n)
theorem extra_le (tx s : List T) : extraT tx s ≤ wt (tx, s) + 1 := by
  have h1 := p_ats s 0
  unfold extraT
  show _ ≤ T.partsL tx + T.partsL s + 1
  split
  · omega
  · rename_i w ws e
    split
    · omega
    split
    · have h2 := p_load w
      have h3 : w.parts ≤ T.partsL tx + 1 := by
        have h4 := p_ats tx 0
        rw [T.parts_kids, e, T.partsL_cons] at h4
        omega
      omega
    · omega
/-- a head over a stand -/
def headOf (st : Std) : Std := ([.node tHead], [.node st.1, .node st.2])
theorem hd_parts : (T.node tStep).parts + (T.node tHead).parts ≤ 4000 := by decide +kernel
theorem hd_deep : (T.node tStep).deep ≤ 90 ∧ (T.node tHead).deep ≤ 90 := by decide +kernel
theorem self_parts : (T.node tSelf).parts ≤ 4000 ∧ (T.node tSelf).deep ≤ 90 := by decide +kernel
end Sw

/-! ## from a stand to the next head -/
namespace Sw
/-- a stand that is not too large -/
def okSt (st : Std) : Prop := (T.node st.1).deep ≤ 390 ∧ (T.node st.2).deep ≤ 390 ∧ wt st ≤ 7900000
theorem p_one (l : List T) : T.partsL [.node l] = 1 + T.partsL l := by rw [T.partsL_cons, T.parts_node, T.partsL_nil]; omega
theorem d_one (l : List T) : (T.node [.node l]).deep = T.deepL l + 1 := by rw [T.deep_node, T.deepL_cons, T.deep_node, T.deepL_nil]; omega
theorem p_two (a b : List T) : T.partsL [.node a, .node b] = 2 + T.partsL a + T.partsL b := by rw [T.partsL_cons, T.partsL_cons, T.parts_node, T.parts_node, T.partsL_nil]; omega
theorem d_two (a b : List T) : (T.node [.node a, .node b]).deep = max (T.deepL a + 1) (T.deepL b + 1) := by rw [T.deep_node, T.deepL_cons, T.deepL_cons, T.deep_node, T.deep_node, T.deepL_nil]; omega
end Sw

/-! ## the selfrunner within itself -/
namespace Sw
theorem d_drop (k : Nat) (ts : List T) : T.deepL (ts.drop k) ≤ T.deepL ts := by
  have e := T.deepL_append (ts.take k) (ts.drop k)
  rw [List.take_append_drop] at e
  omega
theorem d_ats (ts : List T) (k : Nat) {a : Nat} (h : T.deepL ts ≤ a) : (ats ts k).deep ≤ a - 1 := by
  by_cases hk : k < ts.length
  · have := T.mem_deep (ats_in hk)
    omega
  · unfold ats leaf
    rw [List.getElem?_eq_none (by omega), Option.getD_none, T.deep_node, T.deepL_nil]
    omega
theorem d_pad (s : List T) (n : Nat) {a : Nat} (ha : 1 ≤ a) (h : T.deepL s ≤ a) : T.deepL (pad s n) ≤ a := by
  unfold pad
  rw [T.deepL_append]
  have : ∀ k, T.deepL (List.replicate k leaf) ≤ 1 := fun k => by
    induction k with
    | zero => rw [List.replicate_zero, T.deepL_nil]; omega
    | succ k ih => have hl : leaf.deep = 0 := by { unfold leaf; rw [T.deep_node, T.deepL_nil] }
                   rw [List.replicate_succ, T.deepL_cons]; omega
  have := this (n - s.length)
  omega
/-- a step makes nothing more than one deeper -/
theorem d_behind {a : Nat} {w : T} {s : List T} (ha : 2 ≤ a) (hw : w.deep + 1 ≤ a) (hs : T.deepL s ≤ a) : T.deepL (behind w s) ≤ a + 1 := by
  have hk : ∀ t : T, T.deepL t.kids = t.deep := fun t => (T.deep_kids t).symm
  have hl : (loadT w).deep ≤ w.deep := by unfold loadT; rw [T.deep_node, T.deep_kids w]; exact d_drop 1 _
  unfold behind
  have p1 := d_pad s 1 (by omega) hs
  have p2 := d_pad s 2 (by omega) hs
  have p3 := d_pad s 3 (by omega) hs
  split
  · rw [T.deepL_cons]; omega
  split
  · have := d_pad s (many (sortT w)) (by omega) hs; omega
  split
  · have := d_drop 1 (pad s 1); omega
  split
  · have := d_drop 1 (pad s 1); have := d_ats _ 0 p1; rw [T.deepL_cons, T.deepL_cons]; omega
  split
  · have := d_drop 2 (pad s 2); have := d_ats _ 0 p2; have := d_ats _ 1 p2; rw [T.deepL_cons, T.deepL_cons]; omega
  split
  · have := d_drop 2 (pad s 2)
    have := d_ats _ 0 p2
    have := d_ats _ 1 p2
    have := hk (ats (pad s 2) 1)
    rw [T.deepL_cons, T.deep_node, T.deepL_cons]
    omega
  split
  · have := d_drop 1 (pad s 1)
    have h0 := d_ats _ 0 p1
    have := hk (ats (pad s 1) 0)
    have h1 := d_ats (ats (pad s 1) 0).kids 0 (a := a - 1) (by omega)
    have := d_drop 1 (ats (pad s 1) 0).kids
    rw [T.deepL_cons, T.deepL_cons, T.deep_node]
    omega
  · have := d_drop 3 (pad s 3)
    have := d_ats _ 0 p3
    have := d_ats _ 1 p3
    have := d_ats _ 2 p3
    rw [T.deepL_cons, T.deepL_cons, T.deepL_cons]
    omega
theorem dp1_nx {a : Nat} {st : Std} (ha : 4 ≤ a) (h : dpLe a st) : dpLe (a + 1) (nx st) := by
  obtain ⟨tx, s⟩ := st
  obtain ⟨h1, h2⟩ := h
  have h1 : (T.node tx).deep ≤ a := h1
  have h2 : (T.node s).deep ≤ a := h2
  rw [T.deep_node] at h1 h2
  have goal : T.deepL (onward tx s).1 ≤ a + 1 ∧ T.deepL (onward tx s).2.1 ≤ a + 1 := by
    match tx with
    | [] => exact ⟨by show T.deepL [] ≤ _; rw [T.deepL_nil]; omega, by show T.deepL s ≤ _; omega⟩
    | .node [] :: ts => exact ⟨by show T.deepL ts ≤ _; rw [T.deepL_cons] at h1; omega, by show T.deepL s ≤ _; omega⟩
    | .node (w :: ws) :: ts =>
      rw [T.deepL_cons, T.deep_node, T.deepL_cons] at h1
      have hb : T.deepL (behind w s) ≤ a + 1 := d_behind (by omega) (by omega) h2
      have hk := T.deep_kids w
      have k1 := d_drop 1 w.kids
      have k2 := d_drop 2 w.kids
      have k3 := d_ats (w.kids.drop 1) 0 (a := a) (by omega)
      have hr : T.deepL (.node ws :: ts) ≤ a := by rw [T.deepL_cons, T.deep_node]; omega
      rw [onward_word]
      split
      · split
        · exact ⟨by show T.deepL (_ :: .node ws :: ts) ≤ _; rw [T.deepL_cons]; omega, hb⟩
        · exact ⟨by show T.deepL (_ :: .node ws :: ts) ≤ _; rw [T.deepL_cons, T.deep_node]; omega, hb⟩
      split
      · split
        · refine ⟨?_, hb⟩
          show T.deepL (loadT w :: .node (w :: ws) :: ts) ≤ _
          unfold loadT
          rw [T.deepL_cons, T.deep_node, T.deepL_cons, T.deep_node, T.deepL_cons]; omega
        · exact ⟨Nat.le_succ_of_le hr, hb⟩
      split
      · exact ⟨Nat.le_succ_of_le hr, hb⟩
      · exact ⟨Nat.le_succ_of_le hr, hb⟩
  exact ⟨by show (T.node (onward tx s).1).deep ≤ _; rw [T.deep_node]; exact goal.1, by show (T.node (onward tx s).2.1).deep ≤ _; rw [T.deep_node]; exact goal.2⟩
/-- so many steps to e, all of it not too large -/
def Way (D W : Nat) (st : Std) (n : Nat) (e : Std) : Prop := ∃ c, Wk st n c e ∧ n ≤ 110 ∧ dpLe (D + (110 - n)) st ∧ wt st + 3 * c ≤ W
theorem Way.ok {D W n : Nat} {st e : Std} (h : Way D W st n e) (hD : D ≤ 280) (hW : W ≤ 7900000) : okSt st := by
  obtain ⟨c, _, _, hd, hw⟩ := h
  exact ⟨by have := hd.1; omega, by have := hd.2; omega, by omega⟩
theorem Way.step {D W n : Nat} {st e : Std} (h : Way D W st (n + 1) e) (hD : 4 ≤ D) : st.1 ≠ [] ∧ noHead st ∧ Way D W (nx st) n e := by
  obtain ⟨c, g, hn, hd, hw⟩ := h
  cases g with
  | @cons _ _ n2 c2 h1 h2 g =>
    have w2 := wt_nx h2
    have d := dp1_nx (by omega) hd
    exact ⟨h1, h2, c2, g, by omega, d.le (by omega), by omega⟩
theorem Way.at {D W : Nat} {st e : Std} (h : Way D W st 0 e) : st = e := by
  obtain ⟨c, g, _⟩ := h
  cases g
  rfl
/-- from a head over d -/
theorem head_way {a w : Nat} {d : Std} (hd : dpLe a d) (hw : wt d ≤ w) (hne : d.1 ≠ []) (h92 : 92 ≤ a + 1) : ∃ n, 5 ≤ n ∧ n ≤ 110 ∧ (1 ≤ s1 d.1 → s1 d.1 ≤ 8 → 5 * s1 d.1 + 14 ≤ n) ∧ Way (a + 1) (4 * w + 5000) (nx (headOf d)) n (headOf (nx d)) := by
  obtain ⟨tx, s⟩ := d
  obtain ⟨n, c, hn, hc, h5, hl, g⟩ := hd_step (cs := []) (us := []) (st := s) hne
  have hx : extraT tx s ≤ T.partsL tx + T.partsL s + 1 := extra_le tx s
  obtain ⟨a1, a2⟩ := hd_deep
  have a3 := hd_parts
  obtain ⟨h1, h2⟩ := hd
  have h1 : (T.node tx).deep ≤ a := h1
  have h2 : (T.node s).deep ≤ a := h2
  have hw : T.partsL tx + T.partsL s ≤ w := hw
  have en : nx (headOf (tx, s)) = ([.node tStep, .node tHead], [.node tx, .node s]) := hd_in hne
  rw [T.deep_node] at a1 a2 h1 h2
  rw [T.parts_node, T.parts_node] at a3
  have hc : c ≤ 110 + extraT tx s := hc
  refine ⟨n, h5, hn, hl, c, g, hn, ?_, ?_⟩
  · rw [en]
    refine ⟨?_, ?_⟩
    · show (T.node [.node tStep, .node tHead]).deep ≤ _
      rw [d_two]; omega
    · show (T.node [.node tx, .node s]).deep ≤ _
      rw [d_two]; omega
  · rw [en]
    show T.partsL [.node tStep, .node tHead] + T.partsL [.node tx, .node s] + 3 * c ≤ _
    rw [p_two, p_two]; omega
theorem end_way {a w : Nat} {d : Std} (hd : dpLe a d) (hw : wt d ≤ w) (he : d.1 = []) (h92 : 92 ≤ a + 1) : Way (a + 1) (4 * w + 5000) (nx (headOf d)) 5 ([], [ats d.2 0]) := by
  obtain ⟨tx, s⟩ := d
  have he : tx = [] := he
  subst he
  have hw : T.partsL [] + T.partsL s ≤ w := hw
  have h2 : (T.node s).deep ≤ a := hd.2
  rw [T.deep_node] at h2
  have en : nx (headOf ([], s)) = ([.node [W 1, W 5, W 3, W 1]], [.node [], .node s]) := hd_past
  refine ⟨5, hd_end, by omega, ?_, ?_⟩
  · rw [en]
    refine ⟨Nat.le_trans (m := 10) (by show (T.node [.node [W 1, W 5, W 3, W 1]]).deep ≤ 10; decide +kernel) (by omega), ?_⟩
    show (T.node [.node [], .node s]).deep ≤ _
    rw [d_two, T.deepL_nil]; omega
  · rw [en]
    have e : T.partsL [.node [W 1, W 5, W 3, W 1]] ≤ 100 := by decide +kernel
    show T.partsL [.node [W 1, W 5, W 3, W 1]] + T.partsL [.node [], .node s] + 3 * 5 ≤ _
    rw [p_two]; rw [T.partsL_nil] at hw ⊢; omega
theorem begin_way {x : T} {its : List T} {a w : Nat} (hx : x.deep ≤ a) (hi : T.deepL its ≤ a) (hp : x.parts + T.partsL its ≤ w) (h92 : 92 ≤ a + 2) : Way (a + 2) (w + 5000) ([.node tSelf], [.node (x :: its)]) 7 (headOf ([x], [.node its])) := by
  obtain ⟨p1, p2⟩ := self_parts
  rw [T.parts_node] at p1
  rw [T.deep_node] at p2
  refine ⟨7, ?_, by omega, ⟨?_, ?_⟩, ?_⟩
  · have g := hd_begin (cs := []) (us := []) (x := x) (its := its)
    exact Wk.one (st := ([.node tSelf], [.node (x :: its)])) (by simp) (by show 5 ≠ 8; decide) rfl rfl g
  · show (T.node [.node tSelf]).deep ≤ _
    rw [d_one]; omega
  · show (T.node [.node (x :: its)]).deep ≤ _
    rw [d_one, T.deepL_cons]; omega
  · show T.partsL [.node tSelf] + T.partsL [.node (x :: its)] + 3 * 7 ≤ _
    rw [p_one, p_one, T.partsL_cons]; omega
end Sw

/-! ## the selfrunner within itself: turn by turn -/
namespace Sw
def GRun (d0 : Std) : Prop := ∀ i, i ≤ 10 → dpLe 91 (itN i d0) ∧ wt (itN i d0) ≤ 470000
theorem run_small {tx s : List T} (hd : dpLe 40 (tx, s)) (hw : Wds 422 tx) (hc : T.partsL tx ≤ 2000) (hs : T.partsL s ≤ 14) : GRun (tx, s) := by
  have key : ∀ i, i ≤ 10 → Wds 422 (itN i (tx, s)).1 ∧ T.partsL (itN i (tx, s)).1 ≤ 2000 + i * 422 ∧ T.partsL (itN i (tx, s)).2 + 426 ≤ 2 ^ i * 440 := by
    intro i
    induction i with
    | zero => intro _; exact ⟨hw, by show T.partsL tx ≤ _; omega, by show T.partsL s + 426 ≤ _; omega⟩
    | succ i ih =>
      intro hi
      obtain ⟨h1, h2, h3⟩ := ih (by omega)
      obtain ⟨g1, g2, g3⟩ := h1.next (s := (itN i (tx, s)).2)
      refine ⟨g1, ?_, ?_⟩
      · show T.partsL (onward _ _).1 ≤ _
        omega
      · show T.partsL (onward _ _).2.1 + 426 ≤ _
        rw [Nat.pow_succ]
        omega
  intro i hi
  refine ⟨(dp_it (by omega) hd i).le (by omega), ?_⟩
  obtain ⟨_, h2, h3⟩ := key i hi
  have h4 : 2 ^ i ≤ 2 ^ 10 := Nat.pow_le_pow_right (by decide) hi
  have h5 : 2 ^ i * 440 ≤ 1024 * 440 := Nat.mul_le_mul_right _ h4
  show T.partsL _ + T.partsL _ ≤ _
  omega
/-- where the inner run stands -/
def Inn (ph : Nat) (i d : Std) : Prop :=
  (ph = 0 ∧ ∃ n, Way 92 1885000 i n (headOf d)) ∨ (ph = 1 ∧ ∃ n, 2 ≤ n ∧ Way 92 1885000 i n (headOf d) ∧ s1 i.1 = 5 ∧ s1 (nx i).1 = 7) ∨
  (ph = 2 ∧ ∃ n, 1 ≤ n ∧ Way 92 1885000 i n (headOf d) ∧ s1 i.1 = 7) ∨ (ph = 3 ∧ d.1 = [] ∧ ∃ n, Way 92 1885000 i n ([], [ats d.2 0]))
def crP : Nat → Nat
  | 1 => 90
  | 2 => 50
  | _ => 0
theorem Inn.ok {ph : Nat} {i d : Std} (h : Inn ph i d) : okSt i ∧ dpLe 202 i ∧ wt i ≤ 1885000 := by
  have key : ∀ {n : Nat} {e : Std}, Way 92 1885000 i n e → okSt i ∧ dpLe 202 i ∧ wt i ≤ 1885000 := fun {n e} w => by
    refine ⟨w.ok (by omega) (by omega), ?_⟩
    obtain ⟨c, _, _, hd, hw⟩ := w
    exact ⟨hd.le (by omega), by omega⟩
  rcases h with ⟨_, n, w⟩ | ⟨_, n, _, w, _⟩ | ⟨_, n, _, w, _⟩ | ⟨_, _, n, w⟩ <;> exact key w
def J53 (d0 : Std) (k : Nat) (o i d : Std) (h : Nat) : Prop := ∃ D, d = itN D d0 ∧
  ((∃ n ph, Way 203 7545000 o n (headOf i) ∧ Inn ph i d ∧ 145 * D ≤ k + n + crP ph ∧ (1 ≤ h ∨ k + n = 7)) ∨
   (i.1 = [] ∧ 1 ≤ h ∧ okSt i ∧ D ≤ 10 ∧ ∃ n, Way 203 7545000 o n ([], [ats i.2 0])))
theorem crP_le (ph : Nat) : crP ph ≤ 90 := by unfold crP; split <;> omega
theorem J53.ok {d0 o i d : Std} {k h : Nat} (hg : GRun d0) (hk : k ≤ 1200) (j : J53 d0 k o i d h) : okSt o ∧ okSt i ∧ okSt d := by
  obtain ⟨D, rfl, j⟩ := j
  have kd : D ≤ 10 → okSt (itN D d0) := fun hD => by
    obtain ⟨g1, g2⟩ := hg D hD
    exact ⟨by have := g1.1; omega, by have := g1.2; omega, by omega⟩
  rcases j with ⟨n, ph, w, hi, hD, _⟩ | ⟨_, _, hi, hD, n, w⟩
  · have hn : n ≤ 110 := by obtain ⟨_, _, z, _⟩ := w; exact z
    have := crP_le ph
    exact ⟨w.ok (by omega) (by omega), hi.ok.1, kd (by omega)⟩
  · exact ⟨w.ok (by omega) (by omega), hi, kd hD⟩
theorem nh_nil {s : List T} : noHead ([], s) := by show 0 ≠ 8; decide
theorem step_sorts {d : Std} (hne : d.1 ≠ []) : s1 (nx (headOf d)).1 = 5 ∧ s1 (nx (nx (headOf d))).1 = 7 := by
  obtain ⟨tx, s⟩ := d
  have en : nx (headOf (tx, s)) = ([.node tStep, .node tHead], [.node tx, .node s]) := hd_in hne
  rw [en]
  refine ⟨rfl, ?_⟩
  rw [show tStep = W 5 :: [forkW (W 5 :: W 5 :: tSort 8) [W 1]] from rfl, nx_plain (by show 5 ≤ 6; decide)]
  rfl
/-- what is shown where the outer run stands at a head -/
theorem J53.head {d0 i : Std} {D k h ph : Nat} (hg : GRun d0) (hk : k ≤ 1199) (hi : Inn ph i (itN D d0)) (hD : 145 * D ≤ k + crP ph) :
    (i = headOf (itN D d0) ∧ (((itN D d0).1 ≠ [] ∧ J53 d0 (k + 1) (nx (headOf i)) (nx i) (nx (itN D d0)) (h + 1)) ∨ ((itN D d0).1 = [] ∧ J53 d0 (k + 1) (nx (headOf i)) (nx i) (itN D d0) (h + 1)))) ∨
    (noHead i ∧ ((i.1 ≠ [] ∧ J53 d0 (k + 1) (nx (headOf i)) (nx i) (itN D d0) (h + 1)) ∨ (i.1 = [] ∧ J53 d0 (k + 1) (nx (headOf i)) i (itN D d0) (h + 1)))) := by
  have hc := crP_le ph
  have hD9 : D ≤ 9 := by omega
  obtain ⟨g1, g2⟩ := hg D (by omega)
  obtain ⟨ok, o1, o2⟩ := hi.ok
  have out : i.1 ≠ [] → ∃ n, n ≤ 110 ∧ (1 ≤ s1 i.1 → s1 i.1 ≤ 8 → 5 * s1 i.1 + 14 ≤ n) ∧ Way 203 7545000 (nx (headOf i)) n (headOf (nx i)) := fun hne => by
    obtain ⟨n, _, hn, hl, w⟩ := head_way o1 o2 hne (by omega)
    exact ⟨n, hn, hl, w⟩
  rcases hi with ⟨rfl, n, w⟩ | ⟨rfl, n, hn, w, e1, e2⟩ | ⟨rfl, n, hn, w, e1⟩ | ⟨rfl, hd, n, w⟩
  · have hD : 145 * D ≤ k := hD
    cases n with
    | zero =>
      have e := w.at
      refine .inl ⟨e, ?_⟩
      have hne : i.1 ≠ [] := by rw [e]; simp [headOf]
      obtain ⟨m, hm, hl, wo⟩ := out hne
      have hs : s1 i.1 = 8 := by rw [e]; rfl
      have hl := hl (by omega) (by omega)
      by_cases h0 : (itN D d0).1 = []
      · refine .inr ⟨h0, D, rfl, .inl ⟨m, 3, wo, .inr (.inr (.inr ⟨rfl, h0, 5, ?_⟩)), by show 145 * D ≤ k + 1 + m + 0; omega, .inl (by omega)⟩⟩
        rw [e]
        exact end_way g1 g2 h0 (by omega)
      · obtain ⟨n2, h5, hn2, _, w2⟩ := head_way g1 g2 h0 (by omega)
        obtain ⟨q1, q2⟩ := step_sorts h0
        refine .inl ⟨h0, D + 1, rfl, .inl ⟨m, 1, wo, .inr (.inl ⟨rfl, n2, by omega, ?_, ?_, ?_⟩), by show 145 * (D + 1) ≤ k + 1 + m + 90; omega, .inl (by omega)⟩⟩
        · rw [e]; exact w2
        · rw [e]; exact q1
        · rw [e]; exact q2
    | succ n =>
      obtain ⟨h1, h2, w'⟩ := w.step (by omega)
      obtain ⟨m, hm, hl, wo⟩ := out h1
      exact .inr ⟨h2, .inl ⟨h1, D, rfl, .inl ⟨m, 0, wo, .inl ⟨rfl, n, w'⟩, by show 145 * D ≤ k + 1 + m + 0; omega, .inl (by omega)⟩⟩⟩
  · have hD : 145 * D ≤ k + 90 := hD
    obtain ⟨n, rfl⟩ : ∃ m, n = m + 1 := ⟨n - 1, by omega⟩
    obtain ⟨h1, h2, w'⟩ := w.step (by omega)
    obtain ⟨m, hm, hl, wo⟩ := out h1
    have hl := hl (by omega) (by omega)
    exact .inr ⟨h2, .inl ⟨h1, D, rfl, .inl ⟨m, 2, wo, .inr (.inr (.inl ⟨rfl, n, by omega, w', e2⟩)), by show 145 * D ≤ k + 1 + m + 50; omega, .inl (by omega)⟩⟩⟩
  · have hD : 145 * D ≤ k + 50 := hD
    obtain ⟨n, rfl⟩ : ∃ m, n = m + 1 := ⟨n - 1, by omega⟩
    obtain ⟨h1, h2, w'⟩ := w.step (by omega)
    obtain ⟨m, hm, hl, wo⟩ := out h1
    have hl := hl (by omega) (by omega)
    exact .inr ⟨h2, .inl ⟨h1, D, rfl, .inl ⟨m, 0, wo, .inl ⟨rfl, n, w'⟩, by show 145 * D ≤ k + 1 + m + 0; omega, .inl (by omega)⟩⟩⟩
  · have hD : 145 * D ≤ k := hD
    cases n with
    | zero =>
      have e := w.at
      have e0 : i.1 = [] := by rw [e]
      refine .inr ⟨by rw [e]; exact nh_nil, .inr ⟨e0, D, rfl, .inr ⟨e0, by omega, ok, by omega, 5, end_way o1 o2 e0 (by omega)⟩⟩⟩
    | succ n =>
      obtain ⟨h1, h2, w'⟩ := w.step (by omega)
      obtain ⟨m, hm, hl, wo⟩ := out h1
      exact .inr ⟨h2, .inl ⟨h1, D, rfl, .inl ⟨m, 3, wo, .inr (.inr (.inr ⟨rfl, hd, n, w'⟩)), by show 145 * D ≤ k + 1 + m + 0; omega, .inl (by omega)⟩⟩⟩
/-- a turn -/
theorem J53.turn {d0 o i d : Std} {k h : Nat} (hg : GRun d0) (hk : k ≤ 1199) (j : J53 d0 k o i d h) :
    (o.1 = [] ∧ 1 ≤ h) ∨ (o.1 ≠ [] ∧ noHead o ∧ J53 d0 (k + 1) (nx o) i d h) ∨
    (o = headOf i ∧ ((i = headOf d ∧ ((d.1 ≠ [] ∧ J53 d0 (k + 1) (nx o) (nx i) (nx d) (h + 1)) ∨ (d.1 = [] ∧ J53 d0 (k + 1) (nx o) (nx i) d (h + 1)))) ∨
      (noHead i ∧ ((i.1 ≠ [] ∧ J53 d0 (k + 1) (nx o) (nx i) d (h + 1)) ∨ (i.1 = [] ∧ J53 d0 (k + 1) (nx o) i d (h + 1)))))) := by
  obtain ⟨D, rfl, j⟩ := j
  rcases j with ⟨n, ph, w, hi, hD, hh⟩ | ⟨e0, hh, ok, hD, n, w⟩
  · cases n with
    | zero =>
      have e := w.at
      subst e
      exact .inr (.inr ⟨rfl, J53.head (h := h) hg hk hi hD⟩)
    | succ n =>
      obtain ⟨h1, h2, w'⟩ := w.step (by omega)
      exact .inr (.inl ⟨h1, h2, D, rfl, .inl ⟨n, ph, w', hi, by omega, by omega⟩⟩)
  · cases n with
    | zero => exact .inl ⟨by rw [w.at], hh⟩
    | succ n =>
      obtain ⟨h1, h2, w'⟩ := w.step (by omega)
      exact .inr (.inl ⟨h1, h2, D, rfl, .inr ⟨e0, hh, ok, hD, n, w'⟩⟩)
theorem J53.heads {d0 o i d : Std} {h : Nat} (j : J53 d0 1200 o i d h) : 1 ≤ h := by
  obtain ⟨D, rfl, j⟩ := j
  rcases j with ⟨n, ph, w, hi, hD, hh⟩ | ⟨_, hh, _⟩
  · omega
  · exact hh
theorem J53.begin {ws its : List T} (hd : dpLe 40 ([.node ws], [.node its])) (hw : wt ([.node ws], [.node its]) ≤ 20000) :
    J53 ([.node ws], [.node its]) 0 ([.node tSelf], [.node (.node tSelf :: .node ws :: its)]) ([.node tSelf], [.node (.node ws :: its)]) ([.node ws], [.node its]) 0 := by
  obtain ⟨h1, h2⟩ := hd
  have h1 : (T.node [.node ws]).deep ≤ 40 := h1
  have h2 : (T.node [.node its]).deep ≤ 40 := h2
  have hw : T.partsL [.node ws] + T.partsL [.node its] ≤ 20000 := hw
  rw [d_one] at h1 h2
  rw [p_one, p_one] at hw
  obtain ⟨p1, p2⟩ := self_parts
  refine ⟨0, rfl, .inl ⟨7, 0, ?_, .inl ⟨rfl, 7, ?_⟩, by show 145 * 0 ≤ _; omega, .inr rfl⟩⟩
  · exact begin_way (a := 201) (w := 7540000) (by omega) (by rw [T.deepL_cons, T.deep_node]; omega) (by rw [T.partsL_cons, T.parts_node (ts := ws)]; omega) (by omega)
  · exact begin_way (a := 90) (w := 1880000) (by rw [T.deep_node]; omega) (by omega) (by rw [T.parts_node]; omega) (by omega)
end Sw

/-! ## names.split(); names.index(name); reversed(range(8)) -/
namespace PySem
open Builtin Builtin.Str
section
variable {prog : Program} {w : World} {A : Around} {E : Value → Shared → Prop} {s : Shared} {x : Str} {t : Tok} {Q : Value → Shared → Prop}
theorem split_ws (q : ∀ (l : List (Str × Tok)) (k : Nat), l.map (·.1) = Txt.words x → Q (.ref s.heap.objs.size) { s with toks := k, heap := s.heap.push { cls := .type "list", data := .seq (strValues l).toArray } })
    (z1 : x.length ≤ sizeLine) (z2 : (spaceWords x (x.length + 1)).length ≤ sizeLine) : wpAny (model prog w) A (call (.builtin "str.split") [.str x t]) Q E s := by
  refine call_meets F.slot_str_split (typeIs_str _ _ _) F.entry_str_split (F.args_str_split_1 _) (meets_str_split_space x t z1 z2) ?_
  cases hw : spaceWords x (x.length + 1) == [(0, x.length)]
  · simp only [Bool.false_eq_true, if_false]; rw [strsFrom_eq]
    exact q (numbered s.toks (wordsOf x)) _ ((numbered_texts _ _).trans (if_neg (ne_true_of_eq_false hw)).symm)
  · simp only [if_true]; exact q [(x, t)] s.toks (if_pos hw).symm
end
section
variable {prog : Program} {w : World} {A : Around} {E : Value → Shared → Prop} {s : Shared}
theorem sub_ri_rev : isSubtype (.type "range_iterator") (.type "reversed") = pure false := by rw [isSubtype_type]; kernel_rfl
/-- the iterator over 7, 6 .. 0 -/
def downObj : Obj := { cls := .type "range_iterator", data := .fields #[rawInt 7, rawInt 8, rawInt (-1)] }
theorem down_meets (r : Addr) (t u v : Tok) : Meets (Builtin.«range.__reversed__» ⟨[.ref r], []⟩) (fun _ R s => IsRange s.heap r 0 8 1 t u v ∧ R (.ok (.ret (.ref s.heap.objs.size))) { s with heap := s.heap.push downObj }) :=
  .of_wp fun prog w A R s h => by obtain ⟨hp, g, d, tk, os⟩ := s; obtain ⟨hl, h⟩ := h; wp_walk; exact ⟨_, rfl, h⟩
theorem code_rev_range {r : Addr} {t u v : Tok} {Q₁ : Value → Shared → Prop} (hr : IsRange s.heap r 0 8 1 t u v) (h : Q₁ (.ref s.heap.objs.size) { s with heap := s.heap.push downObj }) :
    codeAny (model prog w) A (.call (.builtin "reversed.__new__") ⟨[.type "reversed", .ref r], []⟩) (wants Q₁ E) s := by
  have hT : s.TypeIs (.ref r) "range" := ⟨_, hr, rfl⟩
  refine codeAny_of_tree (show wpAny _ A.in1 (do checkBuiltinCall "reversed.__new__" ⟨[.type "reversed", .ref r], []⟩; again (.builtin "reversed.__new__" ⟨[.type "reversed", .ref r], []⟩)) _ _ s from ?_)
  refine wpAny_bind (wpAny_of_eq (F.newCall_reversed_1 _) (wpAny_pure ⟨plainId_quiet F.plain_reversed_new _, codeAny_builtin F.entry_reversed_new ?_⟩)); rw [Around.under_plainId F.plain_reversed_new _]; unfold Builtin.«reversed.__new__»
  refine wpAny_bind (wpAny_of_eq (newClass_reversed _) ?_); try dsimp only
  refine wpAny_bind (wpAny_of_eq (a := ()) (by first | rfl | kernel_rfl) ?_); refine wpAny_bind (wpAny_of_eq (a := ()) (by first | rfl | kernel_rfl) ?_); try dsimp only
  refine wpAny_bind (wpAny_specialOf hT F.slot_range_reversed.lookup ?_); try dsimp only
  refine wpAny_bind (wpAny_of_eq (F.slot_range_reversed.bind _) ?_); try dsimp only
  first
  | rw [if_neg (show ¬ ((Value.builtin "range.__reversed__" == Value.none) = true) from Bool.false_ne_true)]
  | (show wpAny _ _ (if (Value.builtin "range.__reversed__" == Value.none) = true then _ else _) _ _ _; rw [if_neg (show ¬ ((Value.builtin "range.__reversed__" == Value.none) = true) from Bool.false_ne_true)])
  refine wpAny_bind (wpAny_rule ?_); refine wpAny_bind (m := runValue (.call (.builtin "range.__reversed__") ⟨[.ref r], []⟩)) (show wpAny _ _ (call (.builtin "range.__reversed__") [.ref r]) _ _ _ from call_meets F.slot_range_reversed hT F.entry_range_reversed (F.args_range_reversed_1 _) (down_meets r t u v) ⟨hr, ?_⟩)
  first
  | exact wpAny_pure h
  | exact wpAny_bind (wpAny_pure (wpAny_pure h))
theorem call_rev_range {r : Addr} {t u v : Tok} {Q : Value → Shared → Prop} (hr : IsRange s.heap r 0 8 1 t u v) (h : Q (.ref s.heap.objs.size) { s with heap := s.heap.push downObj }) :
    wpAny (model prog w) A (call (.type "reversed") [.ref r]) Q E s := by
  refine callType_other (U := "range_iterator") (Q₁ := fun obj s₁ => obj = .ref s.heap.objs.size ∧ s₁ = { s with heap := s.heap.push downObj }) (by decide +kernel) F.create_reversed ⟨_, _, F.mro_reversed⟩ F.made_reversed sub_ri_rev (F.typeCall_reversed_1 _) (code_rev_range hr ⟨rfl, rfl⟩) ?_
  rintro obj s₁ ⟨rfl, rfl⟩
  exact ⟨⟨_, Heap.get?_push_size _ rfl, rfl⟩, h⟩
end
end PySem
namespace Sw
open PySem PySem.Spec PyProof.Rows L2 SwR
section
variable {X : Cx}
theorem vals_wd : ∀ {l : List (Str × Tok)} {zs : List Str}, l.map (·.1) = zs → Vals (zs.map V.str) (strValues l)
  | [], _, h => by cases h; exact .nil
  | (z, t) :: l, _, h => by cases h; exact .cons ⟨t, rfl⟩ (vals_wd rfl)
def rSplit0 : V → List V → Hp → VK → Prop := fun x vs H Q => ∃ z : Str, x = .str z ∧ vs = [] ∧ z.length ≤ 1000 ∧ (Builtin.Str.spaceWords z (z.length + 1)).length ≤ 1000 ∧ (Txt.words z).length ≤ 1000 ∧
  ∀ D, H D = none → Q (.ref D) (upd H D (.lst ((Txt.words z).map V.str)))
theorem mt_split0 : MtM X "str.split" rSplit0 := by
  intro pins s σ H x vs v us Q I rx rv h
  obtain ⟨z, rfl, rfl, hl, hw, hw2, q⟩ := h
  obtain ⟨t, rfl⟩ := rx
  cases rv
  refine split_ws (fun ll k e => ?_) (Nat.le_trans hl (by decide)) (Nat.le_trans hw (by decide))
  have hn : H s.heap.objs.size = none := I.hok.fresh (Nat.le_refl _)
  have I2 := I.lnew (ys := (Txt.words z).map V.str) (its := strValues ll) (t' := k) (vals_wd e) (by rw [List.length_map]; exact Nat.le_trans hw2 (by decide))
  exact ⟨.ref s.heap.objs.size, _, I2, rfl, q _ hn⟩
/-- down from 7 to 0 -/
def Itd : It := ⟨fun i _ => i < 8, fun i H x H' => H' = H ∧ x = .int (7 - i), fun i _ => 8 ≤ i⟩
theorem turn_down {P : Program} {w : World} {K : PySem.W.Frag} {tg : Expr} (it : Addr) : Turn P w K tg Itd [it] it (fun i h => IsRangeIter h it (7 + (i : Nat) * (-1)) ((8 : Nat) - (i : Nat)) (-1)) where
  mem := by simp
  obj := fun i h st b hb => by
    have e : b = it := by simpa using hb
    subst e
    exact ⟨_, st, fun v z => by have z' : Data.fields _ = Data.cell v := z; cases z'⟩
  keep := fun i h h' st k => k it (by simp) _ st
  item := by
    intro X hP hw hK hc i pins s σ H E I hf st hg
    subst hP hw hK
    obtain ⟨f0, f1, f2, f3, f4, f5⟩ := hf it (by simp)
    have W := Walks.range (prog := X.prog) (w := X.w) (I.ok.hd hc) it 7 (-1) 8
    refine W.item i s _ _ hg st fun v h' tk hv st' kk => ?_
    obtain ⟨t, rfl⟩ := hv
    have I1 : Inv X pins σ H { s with heap := h', toks := tk } := I.turned (fun b o hb e => kk b o (by simpa using hb) e) f0 f1 f3 f4 f5
    refine ⟨_, rfl, go_of (s := { s with heap := h', toks := tk }) (n := "range_iterator") st' rfl rfl (by decide) ⟨.int (7 - i), H, I1, ⟨t, by rw [show (7 : Int) + (i : Int) * -1 = 7 - i by omega]⟩, ⟨rfl, rfl⟩, st', fun b hb => (hf b hb).1⟩⟩
  done := by
    intro X hP hw hK hc i pins s σ H E I hf st hg
    subst hP hw hK
    obtain ⟨f0, f1, f2, f3, f4, f5⟩ := hf it (by simp)
    exact wpAny_pyNext_range_end (I.ok.hd hc) st (by have : 8 ≤ i := hg; omega) fun h' eb => ⟨rfl, I.turned (t' := s.toks) (fun b o hb e => eb b o hb e) f0 f1 f3 f4 f5⟩
  self := fun _ _ _ _ _ st h => wpAny_pyIter_rangeiter st h
def iDown (ta : TA) : TI := fun σ H R => ta σ H fun vs H1 => vs = [.int 8] ∧ R Itd H1
theorem pi_down {tg a : Expr} {ta : TA} {p p2 pos pos2 : Pos} (hg : Gl X "range") (hm : X.mg "range" = none) (hg2 : Gl X "reversed") (hm2 : X.mg "reversed" = none) (ha : PA X [a] ta) (hs : starEach [a] X.env = [(false, eval a X.env)] := by rfl)
    (hs2 : starEach [.Call (.Name "range" p) [a] [] pos] X.env = [(false, eval (.Call (.Name "range" p) [a] [] pos) X.env)] := by rfl) :
    PI X tg (.Call (.Name "reversed" p2) [.Call (.Name "range" p) [a] [] pos] [] pos2) (iDown ta) := by
  intro pins s σ H R I h
  refine wpAny_Call_Name_kw (ld_blt I hg2 hm2 bt_reversed ?_)
  refine PyProof.Rows.callWith_type1 ?_ (by rw [hs2]; rfl) (by rfl)
  rw [hs2]
  refine Calls.spliced_cons ?_
  refine Call_ (ld_blt I hg hm boot_range (PyProof.Rows.callWith_type1 (thn (ha pos pins s σ H _ I h) fun us s1 ⟨vs, H1, I1, r1, q1⟩ => ?_) hs rfl))
  obtain ⟨rfl, q⟩ := q1
  cases r1 with
  | cons r rr =>
    cases rr
    obtain ⟨t, rfl⟩ := r
    refine call_range_1 (Calls.spliced_nil ?_)
    generalize hs2' : ({ s1 with heap := s1.heap.push { cls := .type "range", data := .fields #[.int 0 s1.toks, .int 8 t, .int 1 (s1.toks + 1)] }, toks := s1.toks + 1 + 1 } : Shared) = s2
    have I2 : Inv X pins σ H1 s2 := by rw [← hs2']; exact I1.kept fun b o e => Heap.get?_push_of_some _ e
    have hr : IsRange s2.heap s1.heap.objs.size 0 8 1 s1.toks t (s1.toks + 1) := by rw [← hs2']; exact Heap.get?_push_size _ rfl
    refine call_rev_range hr ?_
    have hit : IsRangeIter (s2.heap.push downObj) s2.heap.objs.size 7 8 (-1) := Heap.get?_push_size _ rfl
    have I3 : Inv X pins σ H1 { s2 with heap := s2.heap.push downObj } := I2.kept (t' := s2.toks) fun b o e => Heap.get?_push_of_some _ e
    refine wpAny_pyIter_rangeiter (s := { s2 with heap := s2.heap.push downObj }) hit ?_
    refine ⟨s2.heap.objs.size, [s2.heap.objs.size], _, Itd, H1, rfl, I3, turn_down _, hit, fun b hb => ?_, q⟩
    have e : b = s2.heap.objs.size := by simpa using hb
    subst e
    exact I2.fpOk (Nat.le_refl _) (I2.hok.fresh (Nat.le_refl _))
theorem qi_down {tg a : Expr} {ta : TA} {p p2 pos pos2 : Pos} (hg : Gl X "range") (hm : X.mg "range" = none) (hg2 : Gl X "reversed") (hm2 : X.mg "reversed" = none) (ha : QA X [a] ta) (hs : starEach [a] X.env = [(false, eval a X.env)] := by rfl)
    (hs2 : starEach [.Call (.Name "range" p) [a] [] pos] X.env = [(false, eval (.Call (.Name "range" p) [a] [] pos) X.env)] := by rfl) :
    QI X tg (.Call (.Name "reversed" p2) [.Call (.Name "range" p) [a] [] pos] [] pos2) (iDown ta) := ⟨pi_down hg hm hg2 hm2 ha.run hs hs2⟩
theorem for_down {g : TG} {tb : TS} {D : Ends} {σ : Sg} {H : Hp} (Pv : Nat → Sg → Hp → Prop) (h0 : Pv 0 σ H)
    (hs : ∀ i σ H, i < 8 → Pv i σ H → g (.int (7 - i)) σ H fun σ2 H2 => tb { D with nx := Pv (i + 1), ct := Pv (i + 1), bk := D.nx } σ2 H2) (hd : ∀ σ H, Pv 8 σ H → D.nx σ H) :
    ∃ W : Nat → Nat → Sg → Hp → Prop, (∃ m, W 0 m σ H) ∧ ∀ i m σ H, W i m σ H →
      (Itd.stop i H ∧ D.nx σ H) ∨ (Itd.go i H ∧ ∃ N : Sg → Hp → Prop, (∀ σ' H', N σ' H' → ∃ m', m' < m ∧ W (i + 1) m' σ' H') ∧ ∀ x H', Itd.yld i H x H' → g x σ H' fun σ2 H2 => tb { D with nx := N, ct := N, bk := D.nx } σ2 H2) := by
  refine ⟨fun i m σ H => m = 8 - i ∧ i ≤ 8 ∧ Pv i σ H, ⟨8, rfl, Nat.zero_le _, h0⟩, ?_⟩
  rintro i m σ H ⟨rfl, hi, p⟩
  by_cases hlt : i < 8
  · refine .inr ⟨hlt, Pv (i + 1), fun σ' H' p' => ⟨8 - (i + 1), by omega, rfl, hlt, p'⟩, fun x H' y => ?_⟩
    obtain ⟨rfl, rfl⟩ := y
    exact hs i σ _ hlt p
  · have e : i = 8 := by omega
    subst e
    exact .inl ⟨Nat.le_refl _, hd σ H p⟩
/-- the place of a text in a tuple of texts -/
def rIndexZ (K : PySem.W.Frag) : V → List V → Hp → VK → Prop := fun x vs H Q => ∃ (a : Addr) (cs : List Str) (p : Str) (j : Nat), x = .ref a ∧ vs = [.str p] ∧ SqT K H a (cs.map V.str) ∧ cs[j]? = some p ∧ (∀ m, m < j → cs[m]? ≠ some p) ∧ Q (.int (j : Nat)) H
theorem mt_indexZ : MtM X "tuple.index" (rIndexZ X.K) := by
  intro pins s σ H x vs v us Q I rx rv h
  obtain ⟨a, cs, p, j, rfl, rfl, hq, hj, hn, q⟩ := h
  cases rx
  obtain ⟨u, rfl, ru⟩ := rv.one
  obtain ⟨its, r, ht, hz⟩ := I.tuple hq
  obtain ⟨⟨cls, dd, data, sl⟩, ho, hc, n, hd⟩ := id ht
  simp only at hc hd
  subst hc hd
  have flat : ∀ l : List Str, (l.map V.str).all flatV = true := fun l => by
    rw [List.all_eq_true]; intro y hy
    obtain ⟨c, _, rfl⟩ := List.mem_map.mp hy
    rfl
  have hlen := r.length
  rw [List.length_map] at hlen
  have hjl : j < cs.length := (List.getElem?_eq_some_iff.mp hj).1
  have at_ : ∀ m (hm : m < its.toArray.size), eqU (.str p) its.toArray[m] = decide (cs[m]? = some p) := fun m hm => by
    have hm' : m < cs.length := by rw [List.size_toArray] at hm; omega
    obtain ⟨u', e1, ru'⟩ := r.get (i := m) (x := .str cs[m]) (by rw [List.getElem?_map, List.getElem?_eq_getElem hm']; rfl)
    have e2 : its.toArray[m] = u' := by
      have := List.getElem?_eq_some_iff.mp e1
      simpa using this.2
    rw [e2, eqU_of ru' rfl, List.getElem?_eq_getElem hm']
    show (cs[m] == p) = _
    by_cases z : cs[m] = p
    · rw [decide_eq_true (congrArg some z), z]; exact beq_self_eq_true _
    · rw [decide_eq_false (fun y => z (Option.some.inj y))]; exact beq_eq_false_iff_ne.mpr z
  have hjs : j < its.toArray.size := by rw [List.size_toArray]; omega
  refine call_meets F.slot_tuple_index ⟨_, ho, rfl⟩ F.entry_tuple_index (F.args_tuple_index_2 _ _)
    (tup_indexAt a its.toArray n dd sl u (eqU (.str p)) j hjs (by rw [at_ j hjs, hj]; exact decide_eq_true rfl) (fun m hm hlt => by rw [at_ m hm]; exact decide_eq_false (hn m hlt))) ⟨ho, fun y hy => ?_, ?_⟩
  · exact mem_eqAt ru rfl r (flat cs) y (by simpa using hy)
  · exact ⟨.int (j : Nat), H, I.tok _, ⟨_, rfl⟩, q⟩
theorem qe_bmK {K : PySem.W.Frag} {e : Expr} {T : String} {r : V → List V → Hp → VK → Prop} {to : TE} {t : TA} (hK : X.K = K) (h : QE X e (tBM X.K T r to t)) : QE X e (tBM K T r to t) := by subst hK; exact h
theorem mt_indexZK {K : PySem.W.Frag} (hK : X.K = K) : MtM X "tuple.index" (rIndexZ K) := by subst hK; exact mt_indexZ
end
theorem op_fdivL {X : Cx} : OpR X (binaryOp .FloorDiv) (rI (fun _ j => 0 < j ∧ j.natAbs.log2 < 9000) fun i j => .int (i / j)) := opI fun i j _ _ _ _ _ hc q => by
  have h1 : (0 : Int) < j := hc.1
  exact floordiv_int (by omega) (by rw [Int.fdiv_eq_ediv_of_nonneg i (by omega)]; exact q) (.inl (PyProof.noPylong_of_log2 hc.2))
end Sw

namespace Sw53
open PySem PySem.Spec PyProof.Rows L2 Sw
def top (i : Nat) : Stmt := PySem.Challenge.pw_selfword_k53_whole_the_selfrunner_in_its.main.body.getD i (.Pass ⟨0, 0, 0, 0⟩)
abbrev s_first : Stmt := top 1
abbrev s_rest : Stmt := top 2
abbrev s_sort_of : Stmt := top 15
abbrev s_load_of : Stmt := top 16
abbrev s_lay : Stmt := top 17
abbrev s_plain : Stmt := top 18
abbrev s_fork : Stmt := top 19
abbrev s_loop : Stmt := top 20
abbrev s_plains : Stmt := top 21
abbrev s_selfrunner : Stmt := top 31
abbrev s_opening : Stmt := top 32
abbrev s_from_head : Stmt := top 33
abbrev s_stepped : Stmt := top 34
abbrev s_by_sort : Stmt := top 35
abbrev s_gone_of : Stmt := top 36
abbrev s_while_gone : Stmt := top 37
abbrev s_nameless_gone : Stmt := top 38
abbrev s_shown : Stmt := top 39
abbrev s_ended : Stmt := top 48
abbrev s_next_of : Stmt := top 49
abbrev s_step_of : Stmt := top 50
abbrev s_place_of : Stmt := top 51
abbrev s_filled : Stmt := top 52
abbrev s_worked : Stmt := top 53
abbrev s__law_deck : Stmt := top 55
abbrev s__law_next : Stmt := top 56
abbrev s__law_tree : Stmt := top 57
abbrev s__law_load : Stmt := top 58
abbrev s__law_word : Stmt := top 59
abbrev s__law_text : Stmt := top 60
abbrev s__law_first : Stmt := top 61
abbrev s__law_wide : Stmt := top 63
abbrev s__law_sort : Stmt := top 64
abbrev s__law_stack : Stmt := top 65
abbrev s__law_behind : Stmt := top 66
abbrev s_law : Stmt := top 67
theorem sc_first : FnScope ["tree"] ["tree"] (defScope s_first) := ⟨rfl, rfl, rfl, by decide +kernel, rfl, by decide +kernel, by decide +kernel⟩
theorem sc_rest : FnScope ["tree"] ["tree"] (defScope s_rest) := ⟨rfl, rfl, rfl, by decide +kernel, rfl, by decide +kernel, by decide +kernel⟩
theorem sc_sort_of : FnScope ["word"] ["word"] (defScope s_sort_of) := ⟨rfl, rfl, rfl, by decide +kernel, rfl, by decide +kernel, by decide +kernel⟩
theorem sc_load_of : FnScope ["word"] ["word"] (defScope s_load_of) := ⟨rfl, rfl, rfl, by decide +kernel, rfl, by decide +kernel, by decide +kernel⟩
theorem sc_lay : FnScope ["tree"] ["tree"] (defScope s_lay) := ⟨rfl, rfl, rfl, by decide +kernel, rfl, by decide +kernel, by decide +kernel⟩
theorem sc_plain : FnScope ["sort"] ["sort"] (defScope s_plain) := ⟨rfl, rfl, rfl, by decide +kernel, rfl, by decide +kernel, by decide +kernel⟩
theorem sc_fork : FnScope ["yes", "no"] ["yes", "no"] (defScope s_fork) := ⟨rfl, rfl, rfl, by decide +kernel, rfl, by decide +kernel, by decide +kernel⟩
theorem sc_loop : FnScope ["body"] ["body"] (defScope s_loop) := ⟨rfl, rfl, rfl, by decide +kernel, rfl, by decide +kernel, by decide +kernel⟩
theorem sc_plains : FnScope ["names"] ["names"] (defScope s_plains) := ⟨rfl, rfl, rfl, by decide +kernel, rfl, by decide +kernel, by decide +kernel⟩
theorem sc_selfrunner : FnScope [] [] (defScope s_selfrunner) := ⟨rfl, rfl, rfl, by decide +kernel, rfl, by decide +kernel, by decide +kernel⟩
theorem sc_opening : FnScope ["wrapped"] [] (defScope s_opening) := ⟨rfl, rfl, rfl, by decide +kernel, rfl, by decide +kernel, by decide +kernel⟩
theorem sc_from_head : FnScope [] [] (defScope s_from_head) := ⟨rfl, rfl, rfl, by decide +kernel, rfl, by decide +kernel, by decide +kernel⟩
theorem sc_stepped : FnScope ["word_gone", "shut"] [] (defScope s_stepped) := ⟨rfl, rfl, rfl, by decide +kernel, rfl, by decide +kernel, by decide +kernel⟩
theorem sc_by_sort : FnScope ["text", "sort"] [] (defScope s_by_sort) := ⟨rfl, rfl, rfl, by decide +kernel, rfl, by decide +kernel, by decide +kernel⟩
theorem sc_gone_of : FnScope ["sort", "cleared"] ["sort"] (defScope s_gone_of) := ⟨rfl, rfl, rfl, by decide +kernel, rfl, by decide +kernel, by decide +kernel⟩
theorem sc_while_gone : FnScope ["word_whole"] [] (defScope s_while_gone) := ⟨rfl, rfl, rfl, by decide +kernel, rfl, by decide +kernel, by decide +kernel⟩
theorem sc_nameless_gone : FnScope [] [] (defScope s_nameless_gone) := ⟨rfl, rfl, rfl, by decide +kernel, rfl, by decide +kernel, by decide +kernel⟩
theorem sc_shown : FnScope ["stand", "text"] ["stand"] (defScope s_shown) := ⟨rfl, rfl, rfl, by decide +kernel, rfl, by decide +kernel, by decide +kernel⟩
theorem sc_ended : FnScope ["stand"] ["stand"] (defScope s_ended) := ⟨rfl, rfl, rfl, by decide +kernel, rfl, by decide +kernel, by decide +kernel⟩
theorem sc_next_of : FnScope ["stand", "texts", "step", "stack", "text", "load", "behind"] ["stand"] (defScope s_next_of) := ⟨rfl, rfl, rfl, by decide +kernel, rfl, by decide +kernel, by decide +kernel⟩
theorem sc_step_of : FnScope ["stand", "text"] ["stand"] (defScope s_step_of) := ⟨rfl, rfl, rfl, by decide +kernel, rfl, by decide +kernel, by decide +kernel⟩
theorem sc_place_of : FnScope ["sort", "top"] ["sort", "top"] (defScope s_place_of) := ⟨rfl, rfl, rfl, by decide +kernel, rfl, by decide +kernel, by decide +kernel⟩
theorem sc_filled : FnScope ["stack", "count"] ["stack", "count"] (defScope s_filled) := ⟨rfl, rfl, rfl, by decide +kernel, rfl, by decide +kernel, by decide +kernel⟩
theorem sc_worked : FnScope ["step", "load", "stack"] ["step", "load", "stack"] (defScope s_worked) := ⟨rfl, rfl, rfl, by decide +kernel, rfl, by decide +kernel, by decide +kernel⟩
theorem sc__law_deck : FnScope ["_law_script", "_law_deck_here", "_law_cell", "_law_number", "_law_k"] ["_law_script"] (defScope s__law_deck) := ⟨rfl, rfl, rfl, by decide +kernel, rfl, by decide +kernel, by decide +kernel⟩
theorem sc__law_next : FnScope ["_law_deck_here", "_law_many"] ["_law_deck_here", "_law_many"] (defScope s__law_next) := ⟨rfl, rfl, rfl, by decide +kernel, rfl, by decide +kernel, by decide +kernel⟩
theorem sc__law_tree : FnScope ["_law_deck_here", "_law_deep"] ["_law_deck_here", "_law_deep"] (defScope s__law_tree) := ⟨rfl, rfl, rfl, by decide +kernel, rfl, by decide +kernel, by decide +kernel⟩
theorem sc__law_load : FnScope ["_law_deck_here"] ["_law_deck_here"] (defScope s__law_load) := ⟨rfl, rfl, rfl, by decide +kernel, rfl, by decide +kernel, by decide +kernel⟩
theorem sc__law_word : FnScope ["_law_deck_here", "_law_deep", "_law_way", "_law_sort_here", "_law_ahead", "_law_at"] ["_law_deck_here", "_law_deep"] (defScope s__law_word) := ⟨rfl, rfl, rfl, by decide +kernel, rfl, by decide +kernel, by decide +kernel⟩
theorem sc__law_text : FnScope ["_law_deck_here", "_law_deep", "_law_many"] ["_law_deck_here", "_law_deep", "_law_many"] (defScope s__law_text) := ⟨rfl, rfl, rfl, by decide +kernel, rfl, by decide +kernel, by decide +kernel⟩
theorem sc__law_first : FnScope ["_law_tree_here"] ["_law_tree_here"] (defScope s__law_first) := ⟨rfl, rfl, rfl, by decide +kernel, rfl, by decide +kernel, by decide +kernel⟩
theorem sc__law_wide : FnScope ["_law_stack_here", "_law_sort_here"] ["_law_stack_here", "_law_sort_here"] (defScope s__law_wide) := ⟨rfl, rfl, rfl, by decide +kernel, rfl, by decide +kernel, by decide +kernel⟩
theorem sc__law_sort : FnScope ["_law_stand"] ["_law_stand"] (defScope s__law_sort) := ⟨rfl, rfl, rfl, by decide +kernel, rfl, by decide +kernel, by decide +kernel⟩
theorem sc__law_stack : FnScope ["_law_sort_here", "_law_load_here", "_law_stack_here"] ["_law_sort_here", "_law_load_here", "_law_stack_here"] (defScope s__law_stack) := ⟨rfl, rfl, rfl, by decide +kernel, rfl, by decide +kernel, by decide +kernel⟩
theorem sc__law_behind : FnScope ["_law_stand", "_law_texts", "_law_stack_here", "_law_sort_here", "_law_load_here", "_law_onward"] ["_law_stand"] (defScope s__law_behind) := ⟨rfl, rfl, rfl, by decide +kernel, rfl, by decide +kernel, by decide +kernel⟩
theorem sc_law : FnScope ["_law_script", "_law_deck_here", "_law_text_here", "_law_tree_here", "_law_runner", "_law_given", "_law_inner", "_law_due", "_law_stand", "_law_heads", "_law_turn", "_law_seen", "_law_within"] ["_law_script"] (defScope s_law) := ⟨rfl, rfl, rfl, by decide +kernel, rfl, by decide +kernel, by decide +kernel⟩
end Sw53
namespace Sw53
open PySem PySem.Spec PyProof.Rows L2 Sw
section
variable {P : Program} {w : World} {K : PySem.W.Frag} {mg : Str → Option Value} {base : Heap} {f : Addr} {fd : FuncData}

def pw5 : Nat → Nat
  | 0 => 60
  | d + 1 => 62 + 6 * pw5 d
def ShW5 (d : Nat) (t : T) : Prop := B (4 + 2 * d) (pw5 d) t
theorem pw5_ge (d : Nat) : 60 ≤ pw5 d := by cases d <;> (show 60 ≤ _) <;> (unfold pw5) <;> omega
def spLoad5 (K : PySem.W.Frag) : Sp := fun vs H Q _ => ∃ p : Addr, vs = [.ref p] ∧ DkAt H p ∧ ∀ y t H', Dr p H H' → TR K H' t y → ShT 2 t → Q y H'
def spWord5 (K : PySem.W.Frag) (n : Nat) : Sp := fun vs H Q _ => ∃ (p : Addr) (d : Nat), vs = [.ref p, .int (d : Int)] ∧ d < n ∧ DkAt H p ∧ ∀ y t H', Dr p H H' → TR K H' t y → ShW5 d t → Q y H'
def spText5 (K : PySem.W.Frag) (n : Nat) : Sp := fun vs H Q _ => ∃ (p : Addr) (d m : Nat), vs = [.ref p, .int (d : Int), .int (m : Int)] ∧ d < n ∧ m ≤ 7 ∧ DkAt H p ∧ ∀ y t H', Dr p H H' → TR K H' t y → (∀ w ∈ t.kids, ShW5 d w) → t.kids.length ≤ m → Q y H'
def spFirst5 (K : PySem.W.Frag) : Sp := fun vs H Q _ => ∃ x t, vs = [x] ∧ TR K H t x ∧ ∀ y H', Same H H' → TR K H' (ats t.kids 0) y → Q y H'
def spWide5 (K : PySem.W.Frag) : Sp := fun vs H Q _ => ∃ x s, ∃ k : Nat, vs = [x, .int (k : Int)] ∧ TR K H (.node s) x ∧ s.length ≤ 8000000 ∧ k ≤ 9 ∧ ∀ y H', Same H H' → TR K H' (.node (pad s (many k))) y → Q y H'
def spSort5 (K : PySem.W.Frag) : Sp := fun vs H Q _ => ∃ (x : V) (w : T) (ws tx s : List T), vs = [x] ∧ TR K H (.node [.node (.node (w :: ws) :: tx), .node s]) x ∧ ∀ H', Same H H' → Q (.int (sortT w : Nat)) H'
def spStack5 (K : PySem.W.Frag) : Sp := fun vs H Q _ => ∃ (k : Nat) (y z : V) (l : T) (s : List T), vs = [.int (k : Int), y, z] ∧ TR K H l y ∧ TR K H (.node s) z ∧ k ≤ 9 ∧ many k ≤ s.length ∧ B 395 8000010 (.node s) ∧ ∀ v H', Same H H' → TR K H' (.node (workT k l s)) v → Q v H'
theorem ifJoin {tc : TT} {tb te : TS} {u : TS} {D : Ends} {σ : L2.St} {H : Hp} (P : L2.St → Hp → Prop) (k : ∀ σ' H', P σ' H' → u D σ' H') (h : ∀ N : L2.St → Hp → Prop, (∀ σ' H', P σ' H' → N σ' H') → tIfS tc tb te { D with nx := N } σ H) : tSeq (tIfS tc tb te) u D σ H := h _ k
theorem B_repl {a b a' b' : Nat} {as : List T} {t : T} (k : Nat) (h : B a b (.node as)) (ht : B a' b' t) : B (max a (a' + 1)) (b + b') (.node ((as.take k ++ [t]) ++ as.drop (k + 1))) := by
  have e : as.take k ++ as.drop k = as := List.take_append_drop k as
  have d1 : T.deepL (as.drop (k + 1)) ≤ T.deepL as := by have := T.deepL_append (as.take (k + 1)) (as.drop (k + 1)); rw [List.take_append_drop] at this; omega
  have d2 : T.deepL (as.take k) ≤ T.deepL as := by have := T.deepL_append (as.take k) (as.drop k); rw [e] at this; omega
  have p1 := T.partsL_append (as.take k) (as.drop k)
  rw [e] at p1
  have p2 := pL_drop 1 (as.drop k)
  rw [List.drop_drop] at p2
  obtain ⟨h1, h2⟩ := h
  obtain ⟨h3, h4⟩ := ht
  rw [T.deep_node] at h1
  rw [T.parts_node] at h2
  refine ⟨?_, ?_⟩
  · rw [T.deep_node, T.deepL_append, T.deepL_append, T.deepL_cons, T.deepL_nil]; omega
  · rw [T.parts_node, T.partsL_append, T.partsL_append, T.partsL_cons, T.partsL_nil]; omega

theorem dec_eq3 (p : Addr) (e : Nat) : [V.ref p, V.int (((e + 1 : Nat) : Int) - 1), V.int 3] = [V.ref p, V.int (e : Int), V.int ((3 : Nat) : Int)] := by
  rw [show ((e + 1 : Nat) : Int) - 1 = (e : Int) by omega]; rfl

theorem deep_ats (s : List T) : (ats s 0).deep ≤ (T.node s).deep := by
  cases s with
  | nil => exact Nat.le_refl _
  | cons a s => show a.deep ≤ _; rw [T.deep_node, T.deepL_cons]; omega
theorem rep_w (n : Nat) : ((List.replicate n (List.map W [1])).flatten).length = n := by
  induction n with
  | zero => rfl
  | succ n ih => rw [List.replicate_succ, List.flatten_cons, List.length_append, ih]; show 1 + n = n + 1; omega
theorem sort_B : ∀ i : Nat, i ≤ 8 → (T.node ([5, 3].map W ++ tSort i)).deep ≤ 400 ∧ (T.node ([5, 3].map W ++ tSort i)).parts ≤ 1000000 := by decide +kernel
theorem gone_B : ∀ i : Nat, i ≤ 7 → (T.node (tGone i)).deep ≤ 400 ∧ (T.node (tGone i)).parts ≤ 1000000 := by decide +kernel

def tOpen : List T := [W 5, wordT 0 [], W 6, W 4, wordT 0 [], W 6, W 4]
def nameZs : List Str := [PySem.Str.ofString "lay", PySem.Str.ofString "drop", PySem.Str.ofString "twin", PySem.Str.ofString "swap", PySem.Str.ofString "front", PySem.Str.ofString "part", PySem.Str.ofString "turn", PySem.Str.ofString "fork", PySem.Str.ofString "while"]
def nameZ (k : Nat) : Str := nameZs.getD k (PySem.Str.ofString "")
theorem name_at : ∀ k : Nat, k ≤ 8 → nameZs[k]? = some (nameZ k) ∧ ∀ m, m < k → nameZs[m]? ≠ some (nameZ k) := by decide +kernel
def spTxt (K : PySem.W.Frag) (t : List T) : Sp := fun vs H Q _ => vs = [] ∧ ∀ y H', Same H H' → TR K H' (.node t) y → Q y H'
def spPlains (K : PySem.W.Frag) : Sp := fun vs H Q _ => ∃ (z : Str) (ks : List Nat), vs = [.str z] ∧ z.length ≤ 1000 ∧ ((Builtin.Str.spaceWords z (z.length + 1)).length ≤ 1000 ∧ (Txt.words z).length ≤ 1000) ∧ Txt.words z = ks.map nameZ ∧ (∀ k ∈ ks, 1 ≤ k ∧ k ≤ 6) ∧ ∀ y H', Same H H' → TR K H' (.node (ks.map W)) y → Q y H'
def spGoneOf (K : PySem.W.Frag) : Sp := fun vs H Q _ => ∃ k : Nat, vs = [.int (k : Int)] ∧ k ≤ 7 ∧ ∀ y H', Same H H' → TR K H' (.node (tGone k)) y → Q y H'
def spShown (K : PySem.W.Frag) : Sp := fun vs H Q _ => ∃ x tx s, vs = [x] ∧ TR K H (.node [.node tx, .node s]) x ∧ (T.node tx).deep ≤ 390 ∧
  ((noHead (tx, s) ∧ ∀ H', Same H H' → Q .non H') ∨ (ats tx 0 = .node tHead ∧ ∀ y H', Same H H' → TR K H' (.node (s.take 2)) y → Q y H'))
/-- a tuple so many times -/
theorem nRepW {K : PySem.W.Frag} {H : Hp} {Q : VK} {x y : V} {k : Int} {ts : List T} (n : Nat) (hx : TR K H (.node ts) x) (hy : y = .int k) (hk : k = (n : Int)) (hn : n ≤ 100) (q : ∀ z H', Same H H' → TR K H' (.node (List.replicate n ts).flatten) z → Q z H') (hl : ts.length ≤ 100 := by decide) : rRepTA K x y H Q := by
  obtain ⟨a, xs, rfl, ha, ra⟩ := TR_node.mp hx
  have hlen := ra.length
  refine ⟨a, k, xs, rfl, hy, ha, by omega, by omega, small (by rw [hk, Int.toNat_natCast, hlen]; exact Nat.le_trans (Nat.mul_le_mul hl hn) (by decide)), fun p H' S hp => q _ _ S (TR_mk hp ?_)⟩
  have r2 : TRs K H' ts xs := ra.mono (.of S)
  unfold repV
  rw [hk, Int.toNat_natCast]
  clear hp hn hk hy q
  induction n with
  | zero => exact TRs_nil.mpr rfl
  | succ n ih =>
    rw [List.replicate_succ, List.flatten_cons, List.replicate_succ, List.flatten_cons]
    exact TRs.append r2 ih
theorem nRepWP {K : PySem.W.Frag} {H : Hp} {Q : VK} {σ : L2.St} {x y : V} {k : Int} {ts : List T} (n : Nat) (hx : TR K H (.node ts) x) (hy : y = .int k) (hk : k = (n : Int)) (hn : n ≤ 100) (q : ∀ z H', Same H H' → TR K H' (.node (List.replicate n ts).flatten) z → Q z H') (hl : ts.length ≤ 100 := by decide) : tC y σ H (fun y H2 => rRepTA K x y H2 Q) := nRepW n hx hy hk hn q hl
theorem ok_first 
    (F : Fun K "first" "first" s_first f fd) : FnOk P w K mg base CX0 31 f fd ["tree"] (spFirst K) := by
  refine okQ F sc_first (fun vs H Q E h => ?_) (fun cdv A outer s H vs Q E hr h => ?_)
  · obtain ⟨x, t, rfl, _⟩ := h
    rfl
  obtain ⟨x, t, rfl, ht, hd, q⟩ := h
  have hE := hr.un
  have hE : (A.deeper (envOfC "first" (defScope s_first) s.heap.objs.size f cdv)).units + 401 < cLine := by omega
  refine ⟨_, (qss_cons (qs_if (qt_cmpR (op_eqTr hE) (qv 0) (qe_tup qa_nil) (nomark _)) (qss_one (qs_ret (qe_tup qa_nil))) qss_nil)
      (qss_one (qs_ret (qe_ix ix_tup (qv 0) qe_int (fun _ _ => rfl))))), ?_⟩
  refine ⟨_, rfl, Nat.zero_le _, fun p1 g1 => ⟨t, leaf, ht.mono (.new g1), leaf_tr upd_same, by omega, _, rfl, ite2 (fun hb => ?_) (fun hb => ?_)⟩⟩
  · have e := (T.beq_iff _ _).mp hb
    rw [e] at q
    exact ⟨Nat.zero_le _, fun p2 g2 => q _ _ ((same_new g1 _).trans (same_new g2 _)) (leaf_tr upd_same)⟩
  · cases t with
    | node ts =>
      cases ts with
      | nil => exact absurd ((T.beq_iff _ _).mpr rfl) hb
      | cons u us => exact ⟨_, rfl, nIxP (ht.mono (.new g1)) 0 rfl (fun z tz => q _ _ (same_new g1 _) tz)⟩
theorem ok_rest 
    (F : Fun K "rest" "rest" s_rest f fd) : FnOk P w K mg base CX0 31 f fd ["tree"] (spRest K) := by
  refine okQ F sc_rest (fun vs H Q E h => ?_) (fun cdv A outer s H vs Q E hr h => ?_)
  · obtain ⟨x, t, rfl, _⟩ := h
    rfl
  obtain ⟨x, t, rfl, ht, q⟩ := h
  refine ⟨_, (qss_one (qs_ret (qe_slice sl_tupA (qv 0) (qo_some qe_int) qo_none))), ?_⟩
  cases t with
  | node ts => exact ⟨_, rfl, 1, rfl, nFromP ht 1 (fun z H' S tz => q z H' S tz)⟩
theorem ok_sort_of (m_min : mg "min" = none) (m_len : mg "len" = none) {u_NAMELESS : Value} (m_NAMELESS : mg "NAMELESS" = some u_NAMELESS) (r_NAMELESS : RelV (.int 9) u_NAMELESS) 
    {a_first : Addr} {d_first : FuncData} (F_first : Fun K "first" "first" s_first a_first d_first) (G_first : FnOk P w K mg base CX0 31 a_first d_first ["tree"] (spFirst K)) (b_first : Binds K d_first ["tree"] []) (m_first : mg "first" = some (.ref a_first))
    (F : Fun K "sort_of" "sort_of" s_sort_of f fd) : FnOk P w K mg base CX0 32 f fd ["word"] (spSortL K) := by
  refine okQ F sc_sort_of (fun vs H Q E h => ?_) (fun cdv A outer s H vs Q E hr h => ?_)
  · obtain ⟨x, t, rfl, _⟩ := h
    rfl
  obtain ⟨x, t, rfl, ht, h1, q⟩ := h
  refine ⟨_, (qss_one (qs_ret (qe_callB (call_min2 rfl) rfl m_min bt_min (qa_cons (qe_callB call_len_seq rfl m_len bt_len (qa_cons (qe_call G_first hr rfl m_first F_first.kp b_first .nil pass0 (qa_cons (qv 0) qa_nil)) qa_nil)) (qa_cons (qe_glob (v := .int 9) rfl m_NAMELESS r_NAMELESS) qa_nil))))), ?_⟩
  refine ⟨_, rfl, x, t, rfl, ht, h1, fun y H1 S1 t1 => ?_⟩
  obtain ⟨b, ys, rfl, hb', rb⟩ := TR_node.mp (TR_kids t1)
  refine ⟨b, ys, rfl, .inr hb', _, _, rfl, ?_⟩
  rw [rb.length, show (if (9 : Int) < ((ats t.kids 0).kids.length : Int) then (9 : Int) else ((ats t.kids 0).kids.length : Int)) = ((sortT t : Nat) : Int) by rw [sort_ats]; split <;> omega]
  exact q _ S1
theorem ok_load_of 
    {a_rest : Addr} {d_rest : FuncData} (F_rest : Fun K "rest" "rest" s_rest a_rest d_rest) (G_rest : FnOk P w K mg base CX0 31 a_rest d_rest ["tree"] (spRest K)) (b_rest : Binds K d_rest ["tree"] []) (m_rest : mg "rest" = some (.ref a_rest))
    (F : Fun K "load_of" "load_of" s_load_of f fd) : FnOk P w K mg base CX0 32 f fd ["word"] (spRest K) := by
  refine okQ F sc_load_of (fun vs H Q E h => ?_) (fun cdv A outer s H vs Q E hr h => ?_)
  · obtain ⟨x, t, rfl, _⟩ := h
    rfl
  obtain ⟨x, t, rfl, ht, q⟩ := h
  refine ⟨_, (qss_one (qs_ret (qe_call G_rest hr rfl m_rest F_rest.kp b_rest .nil pass0 (qa_cons (qv 0) qa_nil)))), ?_⟩
  exact ⟨_, rfl, x, t, rfl, ht, fun y H' S ty => q _ _ S ty⟩
theorem ok_lay 
    (F : Fun K "lay" "lay" s_lay f fd) : FnOk P w K mg base CX0 31 f fd ["tree"] (spLay K) := by
  refine okQ F sc_lay (fun vs H Q E h => ?_) (fun cdv A outer s H vs Q E hr h => ?_)
  · obtain ⟨x, t, rfl, _⟩ := h
    rfl
  obtain ⟨x, t, rfl, ht, h1, h2, q⟩ := h
  refine ⟨_, (qss_one (qs_ret (qe_op op_catTA (qe_tup (qa_cons (qe_tup qa_nil) qa_nil)) (qv 0)))), ?_⟩
  have hl := (show B 400 1000000 t from ⟨h1, h2⟩)
  rw [← kids_node t] at hl
  have hl := hl.len
  refine ⟨Nat.zero_le _, fun p1 g1 => ⟨(by show 1 ≤ sizeLine; decide), fun p2 g2 => ?_⟩⟩
  obtain ⟨S1, t1⟩ := tupN (K := K) (ts := []) g1 (TRs_nil.mpr rfl)
  obtain ⟨S2, t2⟩ := tupN (K := K) g2 (trs1 t1)
  exact ⟨_, rfl, nCat t2 (TR_kids (ht.mono (.of (S1.trans S2)))) (small (by rw [List.length_singleton]; omega)) (fun z H' S tz => q _ _ (S1.trans (S2.trans S)) tz)⟩
theorem ok_plain 
    (F : Fun K "plain" "plain" s_plain f fd) : FnOk P w K mg base CX0 31 f fd ["sort"] (spPlain K) := by
  refine okQ F sc_plain (fun vs H Q E h => ?_) (fun cdv A outer s H vs Q E hr h => ?_)
  · obtain ⟨n, rfl, _⟩ := h
    rfl
  obtain ⟨n, rfl, h1, h6, q⟩ := h
  refine ⟨_, (qss_one (qs_ret (qe_tup (qa_cons (qe_op op_repTA (qe_tup (qa_cons (qe_tup qa_nil) qa_nil)) (qv 0)) qa_nil)))), ?_⟩
  refine ⟨Nat.zero_le _, fun p1 g1 => ⟨(by show 1 ≤ sizeLine; decide), fun p2 g2 => ?_⟩⟩
  obtain ⟨S1, t1⟩ := tupN (K := K) (ts := []) g1 (TRs_nil.mpr rfl)
  obtain ⟨S2, t2⟩ := tupN (K := K) g2 (trs1 t1)
  refine ⟨_, rfl, nRep n t2 rfl (by omega) (by omega) (by omega) (fun z H' S tz => ⟨(by show 1 ≤ sizeLine; decide), fun p3 g3 => ?_⟩)⟩
  obtain ⟨S3, t3⟩ := tupN (K := K) g3 (trs1 tz)
  exact q _ _ (S1.trans (S2.trans (S.trans S3))) t3
theorem ok_fork {u_FORK : Value} (m_FORK : mg "FORK" = some u_FORK) (r_FORK : RelV (.int 7) u_FORK) 
    (F : Fun K "fork" "fork" s_fork f fd) : FnOk P w K mg base CX0 31 f fd ["yes", "no"] (spFork K) := by
  refine okQ F sc_fork (fun vs H Q E h => ?_) (fun cdv A outer s H vs Q E hr h => ?_)
  · obtain ⟨x, t, y, u, rfl, _⟩ := h
    rfl
  obtain ⟨x, t, y, u, rfl, ht, hu, ⟨h1, h2⟩, ⟨h3, h4⟩, q⟩ := h
  refine ⟨_, (qss_one (qs_ret (qe_op op_catTA (qe_tup (qa_cons (qe_op op_repTA (qe_tup (qa_cons (qe_tup qa_nil) qa_nil)) (qe_glob (v := .int 7) rfl m_FORK r_FORK)) (qa_cons (qv 0) qa_nil))) (qv 1)))), ?_⟩
  have hl := (show B 400 1000000 u from ⟨h3, h4⟩)
  rw [← kids_node u] at hl
  have hl := hl.len
  refine ⟨Nat.zero_le _, fun p1 g1 => ⟨(by show 1 ≤ sizeLine; decide), fun p2 g2 => ?_⟩⟩
  obtain ⟨S1, t1⟩ := tupN (K := K) (ts := []) g1 (TRs_nil.mpr rfl)
  obtain ⟨S2, t2⟩ := tupN (K := K) g2 (trs1 t1)
  refine nRepP (k := 7) 7 t2 rfl rfl (by decide) (by decide) (fun z H' S tz => ⟨_, rfl, (by show 2 ≤ sizeLine; decide), fun p3 g3 => ?_⟩)
  obtain ⟨S3, t3⟩ := tupN (K := K) g3 (trs2 tz (ht.mono (.of (S1.trans (S2.trans S)))))
  exact ⟨_, rfl, nCat t3 (TR_kids (hu.mono (.of (S1.trans (S2.trans (S.trans S3)))))) (smallM (by show 2 + _ ≤ _; omega)) (fun z4 H4 S4 t4 => q _ _ (S1.trans (S2.trans (S.trans (S3.trans S4)))) t4)⟩
theorem ok_loop {u_WHILE : Value} (m_WHILE : mg "WHILE" = some u_WHILE) (r_WHILE : RelV (.int 8) u_WHILE) 
    (F : Fun K "loop" "loop" s_loop f fd) : FnOk P w K mg base CX0 31 f fd ["body"] (spLoop K) := by
  refine okQ F sc_loop (fun vs H Q E h => ?_) (fun cdv A outer s H vs Q E hr h => ?_)
  · obtain ⟨x, t, rfl, _⟩ := h
    rfl
  obtain ⟨x, t, rfl, ht, h1, h2, q⟩ := h
  refine ⟨_, (qss_one (qs_ret (qe_op op_catTA (qe_tup (qa_cons (qe_op op_repTA (qe_tup (qa_cons (qe_tup qa_nil) qa_nil)) (qe_glob (v := .int 8) rfl m_WHILE r_WHILE)) qa_nil)) (qv 0)))), ?_⟩
  have hl := (show B 400 1000000 t from ⟨h1, h2⟩)
  rw [← kids_node t] at hl
  have hl := hl.len
  refine ⟨Nat.zero_le _, fun p1 g1 => ⟨(by show 1 ≤ sizeLine; decide), fun p2 g2 => ?_⟩⟩
  obtain ⟨S1, t1⟩ := tupN (K := K) (ts := []) g1 (TRs_nil.mpr rfl)
  obtain ⟨S2, t2⟩ := tupN (K := K) g2 (trs1 t1)
  refine nRepP (k := 8) 8 t2 rfl rfl (by decide) (by decide) (fun z H' S tz => ⟨(by show 1 ≤ sizeLine; decide), fun p3 g3 => ?_⟩)
  obtain ⟨S3, t3⟩ := tupN (K := K) g3 (trs1 tz)
  exact ⟨_, rfl, nCat t3 (TR_kids (ht.mono (.of (S1.trans (S2.trans (S.trans S3)))))) (small (by show 1 + _ ≤ _; omega)) (fun z4 H4 S4 t4 => q _ _ (S1.trans (S2.trans (S.trans (S3.trans S4)))) t4)⟩
theorem ok_place_of {u_FORK : Value} (m_FORK : mg "FORK" = some u_FORK) (r_FORK : RelV (.int 7) u_FORK) {u_FORK_NO : Value} (m_FORK_NO : mg "FORK_NO" = some u_FORK_NO) (r_FORK_NO : RelV (.int 8) u_FORK_NO) {u_FORK_YES : Value} (m_FORK_YES : mg "FORK_YES" = some u_FORK_YES) (r_FORK_YES : RelV (.int 7) u_FORK_YES) {u_WHILE : Value} (m_WHILE : mg "WHILE" = some u_WHILE) (r_WHILE : RelV (.int 8) u_WHILE) {u_WHILE_PAST : Value} (m_WHILE_PAST : mg "WHILE_PAST" = some u_WHILE_PAST) (r_WHILE_PAST : RelV (.int 10) u_WHILE_PAST) {u_WHILE_INTO : Value} (m_WHILE_INTO : mg "WHILE_INTO" = some u_WHILE_INTO) (r_WHILE_INTO : RelV (.int 9) u_WHILE_INTO) {u_NAMELESS : Value} (m_NAMELESS : mg "NAMELESS" = some u_NAMELESS) (r_NAMELESS : RelV (.int 9) u_NAMELESS) {u_NO_WORD : Value} (m_NO_WORD : mg "NO_WORD" = some u_NO_WORD) (r_NO_WORD : RelV (.int 11) u_NO_WORD) 
    (F : Fun K "place_of" "place_of" s_place_of f fd) : FnOk P w K mg base CX0 31 f fd ["sort", "top"] (spPlc K) := by
  refine okQ F sc_place_of (fun vs H Q E h => ?_) (fun cdv A outer s H vs Q E hr h => ?_)
  · obtain ⟨k, x, t, rfl, _⟩ := h
    rfl
  obtain ⟨k, x, t, rfl, hx, hd, q⟩ := h
  have hE := hr.un
  have hE : (A.deeper (envOfC "place_of" (defScope s_place_of) s.heap.objs.size f cdv)).units + 401 < cLine := by omega
  refine ⟨_, (qss_cons (qs_if (qt_cmpR op_eq (qv 0) (qe_glob (v := .int 7) rfl m_FORK r_FORK) (nomark _)) (qss_one (qs_ret (qe_ifExp (qt_cmpR (op_eqTr hE) (qv 1) (qe_tup qa_nil) (nomark _)) (qe_glob (v := .int 8) rfl m_FORK_NO r_FORK_NO) (qe_glob (v := .int 7) rfl m_FORK_YES r_FORK_YES)))) qss_nil)
      (qss_cons (qs_if (qt_cmpR op_eq (qv 0) (qe_glob (v := .int 8) rfl m_WHILE r_WHILE) (nomark _)) (qss_one (qs_ret (qe_ifExp (qt_cmpR (op_eqTr hE) (qv 1) (qe_tup qa_nil) (nomark _)) (qe_glob (v := .int 10) rfl m_WHILE_PAST r_WHILE_PAST) (qe_glob (v := .int 9) rfl m_WHILE_INTO r_WHILE_INTO)))) qss_nil)
      (qss_one (qs_ret (qe_ifExp (qt_cmpR op_eq (qv 0) (qe_glob (v := .int 9) rfl m_NAMELESS r_NAMELESS) (nomark _)) (qe_glob (v := .int 11) rfl m_NO_WORD r_NO_WORD) (qv 0)))))), ?_⟩
  refine ⟨_, rfl, rfl, _, rfl, ite2 (fun h7 => ?_) (fun h7 => ?_)⟩
  · have h7 : k = 7 := by have := V.int.inj (of_decide_eq_true h7); omega
    refine ⟨_, rfl, Nat.zero_le _, fun p gp => ⟨t, leaf, hx.mono (.new gp), leaf_tr upd_same, by omega, _, rfl, ite2 (fun he => ?_) (fun he => ?_)⟩⟩
    · have := q _ (same_new gp (.tup []))
      rw [leaf_iff] at he
      rw [plcT, if_pos h7, if_pos (of_decide_eq_true he)] at this
      exact this
    · have := q _ (same_new gp (.tup []))
      rw [leaf_iff] at he
      rw [plcT, if_pos h7, if_neg (fun z => he (decide_eq_true z))] at this
      exact this
  have h7 : ¬ k = 7 := fun z => h7 (decide_eq_true (by rw [z]; rfl))
  refine ⟨_, rfl, rfl, _, rfl, ite2 (fun h8 => ?_) (fun h8 => ?_)⟩
  · have h8 : k = 8 := by have := V.int.inj (of_decide_eq_true h8); omega
    refine ⟨_, rfl, Nat.zero_le _, fun p gp => ⟨t, leaf, hx.mono (.new gp), leaf_tr upd_same, by omega, _, rfl, ite2 (fun he => ?_) (fun he => ?_)⟩⟩
    · have := q _ (same_new gp (.tup []))
      rw [leaf_iff] at he
      rw [plcT, if_neg h7, if_pos h8, if_pos (of_decide_eq_true he)] at this
      exact this
    · have := q _ (same_new gp (.tup []))
      rw [leaf_iff] at he
      rw [plcT, if_neg h7, if_pos h8, if_neg (fun z => he (decide_eq_true z))] at this
      exact this
  have h8 : ¬ k = 8 := fun z => h8 (decide_eq_true (by rw [z]; rfl))
  refine ⟨_, rfl, rfl, _, rfl, ite2 (fun h9 => ?_) (fun h9 => ?_)⟩
  · have h9 : k = 9 := by have := V.int.inj (of_decide_eq_true h9); omega
    have := q _ (Same.refl H)
    rw [plcT, if_neg h7, if_neg h8, if_pos h9] at this
    exact this
  · have h9 : ¬ k = 9 := fun z => h9 (decide_eq_true (by rw [z]; rfl))
    have := q _ (Same.refl H)
    rw [plcT, if_neg h7, if_neg h8, if_neg h9] at this
    exact ⟨_, rfl, this⟩
theorem ok_ended 
    (F : Fun K "ended" "ended" s_ended f fd) : FnOk P w K mg base CX0 31 f fd ["stand"] (spEndedM K) := by
  refine okQ F sc_ended (fun vs H Q E h => ?_) (fun cdv A outer s H vs Q E hr h => ?_)
  · obtain ⟨x, tx, s1, rfl, _⟩ := h
    rfl
  obtain ⟨x, tx, s1, rfl, hx, bx, bs, q⟩ := h
  have hE := hr.un
  have hE : (A.deeper (envOfC "ended" (defScope s_ended) s.heap.objs.size f cdv)).units + 401 < cLine := by omega
  refine ⟨_, (qss_one (qs_ret (qe_cmpR (op_eqTr hE) (qe_ix ix_tup (qv 0) qe_int (fun _ _ => rfl)) (qe_tup qa_nil) (nomark _)))), ?_⟩
  refine ⟨_, rfl, nIxP hx 0 rfl (fun v1 t1 => ⟨Nat.zero_le _, fun p1 g1 => ⟨.node tx, leaf, t1.mono (.new g1), leaf_tr upd_same, by have := bx.deep; omega, ?_⟩⟩)⟩
  rw [beq_leaf]
  exact q _ (same_new g1 _)
theorem ok_filled (m_len : mg "len" = none) 
    (F : Fun K "filled" "filled" s_filled f fd) : FnOk P w K mg base CX0 31 f fd ["stack", "count"] (spFilled K) := by
  refine okQ F sc_filled (fun vs H Q E h => ?_) (fun cdv A outer s H vs Q E hr h => ?_)
  · obtain ⟨x, s1, n, rfl, _⟩ := h
    rfl
  obtain ⟨x, s1, n, rfl, hx, hl, hn, q⟩ := h
  refine ⟨_, (qss_one (qs_ret (qe_op op_catTA (qv 0) (qe_op op_repTA (qe_tup (qa_cons (qe_tup qa_nil) qa_nil)) (qe_op op_sub (qv 1) (qe_callB call_len_seq rfl m_len bt_len (qa_cons (qv 0) qa_nil))))))), ?_⟩
  refine ⟨_, rfl, Nat.zero_le _, fun p1 g1 => ⟨(by show 1 ≤ sizeLine; decide), fun p2 g2 => ?_⟩⟩
  obtain ⟨S1, t1⟩ := tupN (K := K) (ts := []) g1 (TRs_nil.mpr rfl)
  obtain ⟨S2, t2⟩ := tupN (K := K) g2 (trs1 t1)
  have hx2 := hx.mono (.of (S1.trans S2))
  obtain ⟨a, xs, rfl, ha, ra⟩ := TR_node.mp hx2
  have hrl := ra.length
  refine ⟨_, rfl, _, rfl, a, xs, rfl, .inr ha, _, _, rfl, rfl, nRep (n - s1.length) t2 rfl (by omega) (by omega) (by omega) (fun z H' S tz => ?_)⟩
  exact nCat (hx2.mono (.of S)) tz (smallM (by rw [List.length_replicate]; omega)) (fun z4 H4 S4 t4 => q _ _ (S1.trans (S2.trans (S.trans S4))) t4)
theorem ok_worked {u_LAY : Value} (m_LAY : mg "LAY" = some u_LAY) (r_LAY : RelV (.int 0) u_LAY) {u_DROP : Value} (m_DROP : mg "DROP" = some u_DROP) (r_DROP : RelV (.int 1) u_DROP) {u_TWIN : Value} (m_TWIN : mg "TWIN" = some u_TWIN) (r_TWIN : RelV (.int 2) u_TWIN) {u_SWAP : Value} (m_SWAP : mg "SWAP" = some u_SWAP) (r_SWAP : RelV (.int 3) u_SWAP) {u_FRONT : Value} (m_FRONT : mg "FRONT" = some u_FRONT) (r_FRONT : RelV (.int 4) u_FRONT) {u_PART : Value} (m_PART : mg "PART" = some u_PART) (r_PART : RelV (.int 5) u_PART) {u_TURN : Value} (m_TURN : mg "TURN" = some u_TURN) (r_TURN : RelV (.int 6) u_TURN) 
    {a_rest : Addr} {d_rest : FuncData} (F_rest : Fun K "rest" "rest" s_rest a_rest d_rest) (G_rest : FnOk P w K mg base CX0 32 a_rest d_rest ["tree"] (spRest K)) (b_rest : Binds K d_rest ["tree"] []) (m_rest : mg "rest" = some (.ref a_rest))
    {a_first : Addr} {d_first : FuncData} (F_first : Fun K "first" "first" s_first a_first d_first) (G_first : FnOk P w K mg base CX0 32 a_first d_first ["tree"] (spFirst K)) (b_first : Binds K d_first ["tree"] []) (m_first : mg "first" = some (.ref a_first))
    (F : Fun K "worked" "worked" s_worked f fd) : FnOk P w K mg base CX0 33 f fd ["step", "load", "stack"] (spWorked K) := by
  refine okQ F sc_worked (fun vs H Q E h => ?_) (fun cdv A outer s H vs Q E hr h => ?_)
  · obtain ⟨k, y, z, l, sk, rfl, _⟩ := h
    rfl
  obtain ⟨k, y, z, l, sk, rfl, hy, hz, hl, hb, q⟩ := h
  refine ⟨_, (qss_cons (qs_if (qt_cmpR op_eq (qv 0) (qe_glob (v := .int 0) rfl m_LAY r_LAY) (nomark _)) (qss_one (qs_ret (qe_op op_catTA (qe_tup (qa_cons (qv 1) qa_nil)) (qv 2)))) qss_nil)
      (qss_cons (qs_if (qt_cmpR op_eq (qv 0) (qe_glob (v := .int 1) rfl m_DROP r_DROP) (nomark _)) (qss_one (qs_ret (qe_slice sl_tupA (qv 2) (qo_some qe_int) qo_none))) qss_nil)
      (qss_cons (qs_if (qt_cmpR op_eq (qv 0) (qe_glob (v := .int 2) rfl m_TWIN r_TWIN) (nomark _)) (qss_one (qs_ret (qe_op op_catTA (qe_tup (qa_cons (qe_ix ix_tup (qv 2) qe_int (fun _ _ => rfl)) qa_nil)) (qv 2)))) qss_nil)
      (qss_cons (qs_if (qt_cmpR op_eq (qv 0) (qe_glob (v := .int 3) rfl m_SWAP r_SWAP) (nomark _)) (qss_one (qs_ret (qe_op op_catTA (qe_tup (qa_cons (qe_ix ix_tup (qv 2) qe_int (fun _ _ => rfl)) (qa_cons (qe_ix ix_tup (qv 2) qe_int (fun _ _ => rfl)) qa_nil))) (qe_slice sl_tupA (qv 2) (qo_some qe_int) qo_none)))) qss_nil)
      (qss_cons (qs_if (qt_cmpR op_eq (qv 0) (qe_glob (v := .int 4) rfl m_FRONT r_FRONT) (nomark _)) (qss_one (qs_ret (qe_op op_catTA (qe_tup (qa_cons (qe_op op_catTA (qe_tup (qa_cons (qe_ix ix_tup (qv 2) qe_int (fun _ _ => rfl)) qa_nil)) (qe_ix ix_tup (qv 2) qe_int (fun _ _ => rfl))) qa_nil)) (qe_slice sl_tupA (qv 2) (qo_some qe_int) qo_none)))) qss_nil)
      (qss_cons (qs_if (qt_cmpR op_eq (qv 0) (qe_glob (v := .int 5) rfl m_PART r_PART) (nomark _)) (qss_one (qs_ret (qe_op op_catTA (qe_tup (qa_cons (qe_call G_first hr rfl m_first F_first.kp b_first .nil pass0 (qa_cons (qe_ix ix_tup (qv 2) qe_int (fun _ _ => rfl)) qa_nil)) (qa_cons (qe_call G_rest hr rfl m_rest F_rest.kp b_rest .nil pass0 (qa_cons (qe_ix ix_tup (qv 2) qe_int (fun _ _ => rfl)) qa_nil)) qa_nil))) (qe_slice sl_tupA (qv 2) (qo_some qe_int) qo_none)))) qss_nil)
      (qss_cons (qs_if (qt_cmpR op_eq (qv 0) (qe_glob (v := .int 6) rfl m_TURN r_TURN) (nomark _)) (qss_one (qs_ret (qe_op op_catTA (qe_tup (qa_cons (qe_ix ix_tup (qv 2) qe_int (fun _ _ => rfl)) (qa_cons (qe_ix ix_tup (qv 2) qe_int (fun _ _ => rfl)) (qa_cons (qe_ix ix_tup (qv 2) qe_int (fun _ _ => rfl)) qa_nil)))) (qe_slice sl_tupA (qv 2) (qo_some qe_int) qo_none)))) qss_nil)
      (qss_one (qs_ret (qv 2)))))))))), ?_⟩
  have hlen := hb.len
  refine ⟨_, rfl, rfl, _, rfl, ite2 (fun h => ?_) (fun n0 => ?_)⟩
  · obtain rfl : k = 0 := by have := V.int.inj (of_decide_eq_true h); omega
    refine ⟨_, rfl, (by show 1 ≤ sizeLine; decide), fun p1 g1 => ?_⟩
    obtain ⟨S1, t1⟩ := tupN (K := K) g1 (trs1 hy)
    exact ⟨_, rfl, nCat t1 (hz.mono (.of S1)) (smallM (by show 1 + _ ≤ _; omega)) (fun v H2 S2 t2 => q _ _ (S1.trans S2) t2)⟩
  have n0 : k ≠ 0 := fun z => n0 (by rw [z]; exact decide_eq_true rfl)
  refine ⟨_, rfl, rfl, _, rfl, ite2 (fun h => ?_) (fun n1 => ?_)⟩
  · obtain rfl : k = 1 := by have := V.int.inj (of_decide_eq_true h); omega
    exact ⟨_, rfl, 1, rfl, nFromP hz 1 (fun v H2 S2 t2 => q _ _ S2 t2)⟩
  have n1 : k ≠ 1 := fun z => n1 (by rw [z]; exact decide_eq_true rfl)
  refine ⟨_, rfl, rfl, _, rfl, ite2 (fun h => ?_) (fun n2 => ?_)⟩
  · obtain rfl : k = 2 := by have := V.int.inj (of_decide_eq_true h); omega
    have hl : 1 ≤ sk.length := hl
    refine ⟨_, rfl, nIxP hz 0 (ats_mem (by omega)) (fun v0 t0 => ⟨(by show 1 ≤ sizeLine; decide), fun p1 g1 => ?_⟩)⟩
    obtain ⟨S1, t1⟩ := tupN (K := K) g1 (trs1 t0)
    exact ⟨_, rfl, nCat t1 (hz.mono (.of S1)) (smallM (by show 1 + _ ≤ _; omega)) (fun v H2 S2 t2 => q _ _ (S1.trans S2) t2)⟩
  have n2 : k ≠ 2 := fun z => n2 (by rw [z]; exact decide_eq_true rfl)
  refine ⟨_, rfl, rfl, _, rfl, ite2 (fun h => ?_) (fun n3 => ?_)⟩
  · obtain rfl : k = 3 := by have := V.int.inj (of_decide_eq_true h); omega
    have hl : 2 ≤ sk.length := hl
    refine ⟨_, rfl, nIxP hz 1 (ats_mem (by omega)) (fun v1 t1 => ⟨_, rfl, nIxP hz 0 (ats_mem (by omega)) (fun v0 t0 => ⟨(by show 2 ≤ sizeLine; decide), fun p1 g1 => ?_⟩)⟩)⟩
    obtain ⟨S1, t2⟩ := tupN (K := K) g1 (trs2 t1 t0)
    exact ⟨_, rfl, 2, rfl, nFromP (hz.mono (.of S1)) 2 (fun v4 H4 S4 t4 => nCat (t2.mono (.of S4)) t4 (smallM (by rw [List.length_drop]; show 2 + _ ≤ _; omega)) (fun v H2 S2 t5 => q _ _ (S1.trans (S4.trans S2)) t5))⟩
  have n3 : k ≠ 3 := fun z => n3 (by rw [z]; exact decide_eq_true rfl)
  refine ⟨_, rfl, rfl, _, rfl, ite2 (fun h => ?_) (fun n4 => ?_)⟩
  · obtain rfl : k = 4 := by have := V.int.inj (of_decide_eq_true h); omega
    have hl : 2 ≤ sk.length := hl
    have hk1 := (B_kids (B_ats hb 1)).len
    refine ⟨_, rfl, nIxP hz 0 (ats_mem (by omega)) (fun v0 t0 => ⟨(by show 1 ≤ sizeLine; decide), fun p1 g1 => ?_⟩)⟩
    obtain ⟨S1, t1⟩ := tupN (K := K) g1 (trs1 t0)
    refine ⟨_, rfl, nIxP (hz.mono (.of S1)) 1 (ats_mem (by omega)) (fun v1 t2 => nCat t1 (TR_kids t2) (smallM (by show 1 + _ ≤ _; omega)) (fun v3 H3 S3 t3 => ⟨(by show 1 ≤ sizeLine; decide), fun p4 g4 => ?_⟩))⟩
    obtain ⟨S4, t4⟩ := tupN (K := K) g4 (trs1 t3)
    exact ⟨_, rfl, 2, rfl, nFromP (hz.mono (.of (S1.trans (S3.trans S4)))) 2 (fun v5 H5 S5 t5 => nCat (t4.mono (.of S5)) t5 (smallM (by rw [List.length_drop]; show 1 + _ ≤ _; omega)) (fun v H2 S2 t6 => q _ _ (S1.trans (S3.trans (S4.trans (S5.trans S2)))) t6))⟩
  have n4 : k ≠ 4 := fun z => n4 (by rw [z]; exact decide_eq_true rfl)
  refine ⟨_, rfl, rfl, _, rfl, ite2 (fun h => ?_) (fun n5 => ?_)⟩
  · obtain rfl : k = 5 := by have := V.int.inj (of_decide_eq_true h); omega
    have hl : 1 ≤ sk.length := hl
    have bt := B_ats hb 0
    refine ⟨_, rfl, nIxP hz 0 (ats_mem (by omega)) (fun v0 t0 => ⟨v0, ats sk 0, rfl, t0, by have := bt.1; omega, fun y1 H1 S1 t1 => ?_⟩)⟩
    refine ⟨_, rfl, nIxP (hz.mono (.of S1)) 0 (ats_mem (by omega)) (fun v2 t2 => ⟨v2, ats sk 0, rfl, t2, fun y3 H3 S3 t3 => ⟨(by show 2 ≤ sizeLine; decide), fun p4 g4 => ?_⟩⟩)⟩
    obtain ⟨S4, t4⟩ := tupN (K := K) g4 (trs2 (t1.mono (.of S3)) t3)
    exact ⟨_, rfl, 1, rfl, nFromP (hz.mono (.of (S1.trans (S3.trans S4)))) 1 (fun v5 H5 S5 t5 => nCat (t4.mono (.of S5)) t5 (smallM (by rw [List.length_drop]; show 2 + _ ≤ _; omega)) (fun v H2 S2 t6 => q _ _ (S1.trans (S3.trans (S4.trans (S5.trans S2)))) t6))⟩
  have n5 : k ≠ 5 := fun z => n5 (by rw [z]; exact decide_eq_true rfl)
  refine ⟨_, rfl, rfl, _, rfl, ite2 (fun h => ?_) (fun n6 => ?_)⟩
  · obtain rfl : k = 6 := by have := V.int.inj (of_decide_eq_true h); omega
    have hl : 3 ≤ sk.length := hl
    refine ⟨_, rfl, nIxP hz 2 (ats_mem (by omega)) (fun v2 t2 => ⟨_, rfl, nIxP hz 0 (ats_mem (by omega)) (fun v0 t0 => ⟨_, rfl, nIxP hz 1 (ats_mem (by omega)) (fun v1 t1 => ⟨(by show 3 ≤ sizeLine; decide), fun p1 g1 => ?_⟩)⟩)⟩)⟩
    obtain ⟨S1, t3⟩ := tupN (K := K) g1 (trs3 t2 t0 t1)
    exact ⟨_, rfl, 3, rfl, nFromP (hz.mono (.of S1)) 3 (fun v4 H4 S4 t4 => nCat (t3.mono (.of S4)) t4 (smallM (by rw [List.length_drop]; show 3 + _ ≤ _; omega)) (fun v H2 S2 t5 => q _ _ (S1.trans (S4.trans S2)) t5))⟩
  have n6 : k ≠ 6 := fun z => n6 (by rw [z]; exact decide_eq_true rfl)
  rw [work_ge (show 7 ≤ k by omega)] at q
  exact ⟨_, rfl, q _ _ (Same.refl _) hz⟩
theorem ok_step_of {u_SHUT : Value} (m_SHUT : mg "SHUT" = some u_SHUT) (r_SHUT : RelV (.int 12) u_SHUT) 
    {a_first : Addr} {d_first : FuncData} (F_first : Fun K "first" "first" s_first a_first d_first) (G_first : FnOk P w K mg base CX0 32 a_first d_first ["tree"] (spFirst K)) (b_first : Binds K d_first ["tree"] []) (m_first : mg "first" = some (.ref a_first))
    {a_place_of : Addr} {d_place_of : FuncData} (F_place_of : Fun K "place_of" "place_of" s_place_of a_place_of d_place_of) (G_place_of : FnOk P w K mg base CX0 32 a_place_of d_place_of ["sort", "top"] (spPlc K)) (b_place_of : Binds K d_place_of ["sort", "top"] []) (m_place_of : mg "place_of" = some (.ref a_place_of))
    {a_sort_of : Addr} {d_sort_of : FuncData} (F_sort_of : Fun K "sort_of" "sort_of" s_sort_of a_sort_of d_sort_of) (G_sort_of : FnOk P w K mg base CX0 32 a_sort_of d_sort_of ["word"] (spSortL K)) (b_sort_of : Binds K d_sort_of ["word"] []) (m_sort_of : mg "sort_of" = some (.ref a_sort_of))
    (F : Fun K "step_of" "step_of" s_step_of f fd) : FnOk P w K mg base CX0 33 f fd ["stand"] (spStep K) := by
  refine okQ F sc_step_of (fun vs H Q E h => ?_) (fun cdv A outer s H vs Q E hr h => ?_)
  · obtain ⟨x, tx, sk, rfl, _⟩ := h
    rfl
  obtain ⟨x, tx, sk, rfl, hx, bx, bs, q⟩ := h
  have hE := hr.un
  have hE : (A.deeper (envOfC "step_of" (defScope s_step_of) s.heap.objs.size f cdv)).units + 401 < cLine := by omega
  refine ⟨_, (qss_cons (qs_set (i := 1) sc_step_of.nd rfl (Or.inl rfl) (qe_call G_first hr rfl m_first F_first.kp b_first .nil pass0 (qa_cons (qe_ix ix_tup (qv 0) qe_int (fun _ _ => rfl)) qa_nil)))
      (qss_cons (qs_if (qt_cmpR (op_eqTr hE) (qv 1) (qe_tup qa_nil) (nomark _)) (qss_one (qs_ret (qe_glob (v := .int 12) rfl m_SHUT r_SHUT))) qss_nil)
      (qss_one (qs_ret (qe_call G_place_of hr rfl m_place_of F_place_of.kp b_place_of .nil pass0 (qa_cons (qe_call G_sort_of hr rfl m_sort_of F_sort_of.kp b_sort_of .nil pass0 (qa_cons (qe_ix ix_tup (qv 1) qe_int (fun _ _ => rfl)) qa_nil)) (qa_cons (qe_call G_first hr rfl m_first F_first.kp b_first .nil pass0 (qa_cons (qe_ix ix_tup (qv 0) qe_int (fun _ _ => rfl)) qa_nil)) qa_nil))))))), ?_⟩
  have dx := bx.deep
  have ds := bs.1
  refine ⟨_, rfl, nIxP hx 0 rfl (fun v1 t1 => ⟨v1, .node tx, rfl, t1, by omega, fun y1 H1 S1 t2 => ?_⟩)⟩
  have t2 : TR K H1 (ats tx 0) y1 := t2
  have b0 := bx.ats
  refine ⟨_, rfl, Nat.zero_le _, fun p1 g1 => ⟨ats tx 0, leaf, t2.mono (.new g1), leaf_tr upd_same, by have := b0.1; omega, _, rfl, ite2 (fun hb => ?_) (fun hb => ?_)⟩⟩
  · have e := (T.beq_iff _ _).mp hb
    rw [step_nil (by rw [e]; rfl)] at q
    exact q _ (S1.trans (same_new g1 _))
  cases hk : (ats tx 0).kids with
  | nil => exact absurd ((T.beq_iff _ _).mpr (by rw [← kids_node (ats tx 0), hk]; rfl)) hb
  | cons w' ws =>
  have S2 := S1.trans (same_new g1 (.tup []))
  have t3 := TR_kids (t2.mono (.new g1 (o := .tup [])))
  have bw : B 390 8000000 w' := B_mem (B_kids b0) (by rw [hk]; exact List.mem_cons_self)
  refine ⟨_, rfl, nIxP t3 0 (by rw [hk]; rfl) (fun vw tw => ⟨vw, w', rfl, tw, by have := bw.1; omega, fun H3 S3 => ?_⟩)⟩
  have hx3 := hx.mono (.of (S2.trans S3))
  refine ⟨_, rfl, nIxP hx3 1 rfl (fun v4 t4 => ⟨v4, .node sk, rfl, t4, by omega, fun y5 H5 S5 t5 => ?_⟩)⟩
  have t5 : TR K H5 (ats sk 0) y5 := t5
  have bt := B_ats bs 0
  refine ⟨_, y5, ats sk 0, rfl, t5, by have := bt.1; omega, fun H6 S6 => ?_⟩
  obtain ⟨p, rest, rfl⟩ : ∃ p rest, tx = p :: rest := by
    cases tx with
    | nil => cases hk
    | cons p rest => exact ⟨p, rest, rfl⟩
  rw [← step_plc (rest := rest) (s := sk) (show p.kids = w' :: ws from hk)]
  exact q _ (S2.trans (S3.trans (S5.trans S6)))
theorem ok_next_of {a_LOOKS : Addr} (m_LOOKS : mg "LOOKS" = some (.ref a_LOOKS)) (q_LOOKS : ∀ H, SqT K H a_LOOKS [.int 0, .int 1, .int 1, .int 2, .int 2, .int 1, .int 3, .int 1, .int 1, .int 1, .int 1, .int 0, .int 0]) {u_SHUT : Value} (m_SHUT : mg "SHUT" = some u_SHUT) (r_SHUT : RelV (.int 12) u_SHUT) {u_FORK_YES : Value} (m_FORK_YES : mg "FORK_YES" = some u_FORK_YES) (r_FORK_YES : RelV (.int 7) u_FORK_YES) {u_FORK_NO : Value} (m_FORK_NO : mg "FORK_NO" = some u_FORK_NO) (r_FORK_NO : RelV (.int 8) u_FORK_NO) {u_WHILE_INTO : Value} (m_WHILE_INTO : mg "WHILE_INTO" = some u_WHILE_INTO) (r_WHILE_INTO : RelV (.int 9) u_WHILE_INTO) 
    {a_step_of : Addr} {d_step_of : FuncData} (F_step_of : Fun K "step_of" "step_of" s_step_of a_step_of d_step_of) (G_step_of : FnOk P w K mg base CX0 33 a_step_of d_step_of ["stand"] (spStep K)) (b_step_of : Binds K d_step_of ["stand"] []) (m_step_of : mg "step_of" = some (.ref a_step_of))
    {a_filled : Addr} {d_filled : FuncData} (F_filled : Fun K "filled" "filled" s_filled a_filled d_filled) (G_filled : FnOk P w K mg base CX0 33 a_filled d_filled ["stack", "count"] (spFilled K)) (b_filled : Binds K d_filled ["stack", "count"] []) (m_filled : mg "filled" = some (.ref a_filled))
    {a_load_of : Addr} {d_load_of : FuncData} (F_load_of : Fun K "load_of" "load_of" s_load_of a_load_of d_load_of) (G_load_of : FnOk P w K mg base CX0 33 a_load_of d_load_of ["word"] (spRest K)) (b_load_of : Binds K d_load_of ["word"] []) (m_load_of : mg "load_of" = some (.ref a_load_of))
    {a_rest : Addr} {d_rest : FuncData} (F_rest : Fun K "rest" "rest" s_rest a_rest d_rest) (G_rest : FnOk P w K mg base CX0 33 a_rest d_rest ["tree"] (spRest K)) (b_rest : Binds K d_rest ["tree"] []) (m_rest : mg "rest" = some (.ref a_rest))
    {a_first : Addr} {d_first : FuncData} (F_first : Fun K "first" "first" s_first a_first d_first) (G_first : FnOk P w K mg base CX0 33 a_first d_first ["tree"] (spFirst K)) (b_first : Binds K d_first ["tree"] []) (m_first : mg "first" = some (.ref a_first))
    {a_worked : Addr} {d_worked : FuncData} (F_worked : Fun K "worked" "worked" s_worked a_worked d_worked) (G_worked : FnOk P w K mg base CX0 33 a_worked d_worked ["step", "load", "stack"] (spWorked K)) (b_worked : Binds K d_worked ["step", "load", "stack"] []) (m_worked : mg "worked" = some (.ref a_worked))
    (F : Fun K "next_of" "next_of" s_next_of f fd) : FnOk P w K mg base CX0 34 f fd ["stand"] (spNextOfM K) := by
  refine okQ F sc_next_of (fun vs H Q E h => ?_) (fun cdv A outer s H vs Q E hr h => ?_)
  · obtain ⟨x, tx, sk, rfl, _⟩ := h
    rfl
  obtain ⟨x, tx, sk, rfl, hx, hne, bx, bs, q⟩ := h
  refine ⟨_, (qss_cons (qs_set (i := 1) sc_next_of.nd rfl (Or.inl rfl) (qe_ix ix_tup (qv 0) qe_int (fun _ _ => rfl)))
      (qss_cons (qs_set (i := 2) sc_next_of.nd rfl (Or.inl rfl) (qe_call G_step_of hr rfl m_step_of F_step_of.kp b_step_of .nil pass0 (qa_cons (qv 0) qa_nil)))
      (qss_cons (qs_set (i := 3) sc_next_of.nd rfl (Or.inl rfl) (qe_call G_filled hr rfl m_filled F_filled.kp b_filled .nil pass0 (qa_cons (qe_ix ix_tup (qv 0) qe_int (fun _ _ => rfl)) (qa_cons (qe_ix ix_tup (qe_glob (v := .ref a_LOOKS) rfl m_LOOKS rfl) (qv 2) (fun _ _ => rfl)) qa_nil))))
      (qss_cons (qs_if (qt_cmpR op_eq (qv 2) (qe_glob (v := .int 12) rfl m_SHUT r_SHUT) (nomark _)) (qss_one (qs_ret (qe_tup (qa_cons (qe_slice sl_tupA (qv 1) (qo_some qe_int) qo_none) (qa_cons (qv 3) qa_nil))))) qss_nil)
      (qss_cons (qs_set (i := 4) sc_next_of.nd rfl (Or.inl rfl) (qe_ix ix_tup (qv 1) qe_int (fun _ _ => rfl)))
      (qss_cons (qs_set (i := 5) sc_next_of.nd rfl (Or.inl rfl) (qe_call G_load_of hr rfl m_load_of F_load_of.kp b_load_of .nil pass0 (qa_cons (qe_ix ix_tup (qv 4) qe_int (fun _ _ => rfl)) qa_nil)))
      (qss_cons (qs_set (i := 6) sc_next_of.nd rfl (Or.inl rfl) (qe_op op_catTA (qe_tup (qa_cons (qe_call G_rest hr rfl m_rest F_rest.kp b_rest .nil pass0 (qa_cons (qv 4) qa_nil)) qa_nil)) (qe_slice sl_tupA (qv 1) (qo_some qe_int) qo_none)))
      (qss_cons (qs_if (qt_cmpR op_eq (qv 2) (qe_glob (v := .int 7) rfl m_FORK_YES r_FORK_YES) (nomark _)) (qss_one (qs_ret (qe_tup (qa_cons (qe_op op_catTA (qe_tup (qa_cons (qe_call G_first hr rfl m_first F_first.kp b_first .nil pass0 (qa_cons (qv 5) qa_nil)) qa_nil)) (qv 6)) (qa_cons (qv 3) qa_nil))))) qss_nil)
      (qss_cons (qs_if (qt_cmpR op_eq (qv 2) (qe_glob (v := .int 8) rfl m_FORK_NO r_FORK_NO) (nomark _)) (qss_one (qs_ret (qe_tup (qa_cons (qe_op op_catTA (qe_tup (qa_cons (qe_call G_rest hr rfl m_rest F_rest.kp b_rest .nil pass0 (qa_cons (qv 5) qa_nil)) qa_nil)) (qv 6)) (qa_cons (qv 3) qa_nil))))) qss_nil)
      (qss_cons (qs_if (qt_cmpR op_eq (qv 2) (qe_glob (v := .int 9) rfl m_WHILE_INTO r_WHILE_INTO) (nomark _)) (qss_one (qs_ret (qe_tup (qa_cons (qe_op op_catTA (qe_tup (qa_cons (qv 5) qa_nil)) (qv 1)) (qa_cons (qv 3) qa_nil))))) qss_nil)
      (qss_one (qs_ret (qe_tup (qa_cons (qv 6) (qa_cons (qe_call G_worked hr rfl m_worked F_worked.kp b_worked .nil pass0 (qa_cons (qv 2) (qa_cons (qv 5) (qa_cons (qv 3) qa_nil)))) qa_nil))))))))))))))), ?_⟩
  have hxl := bx.1
  have hsl := bs.len
  have b0 := bx.ats
  have hpos : 0 < tx.length := List.length_pos_iff.mpr hne
  refine ⟨_, rfl, nIxP hx 0 rfl (fun v1 t1 => ?_)⟩
  refine ⟨_, rfl, x, tx, sk, rfl, hx, bx, bs, fun H1 S1 => ?_⟩
  have hs12 := step_le (tx := tx) (s := sk)
  refine ⟨_, rfl, nIxP (hx.mono (.of S1)) 1 rfl (fun v2 t2 => ⟨_, rfl, a_LOOKS, _, _, _, rfl, rfl, (show SqT K H1 a_LOOKS (([0, 1, 1, 2, 2, 1, 3, 1, 1, 1, 1, 0, 0] : List Nat).map fun n : Nat => V.int (n : Int)) from q_LOOKS _), lit_get (k := stepT tx sk) (by show _ < 13; omega), v2, sk, looks (stepT tx sk), rfl, t2, by omega, looks_le _, fun v3 H2 S2 t3 => ?_⟩)⟩
  have S12 := S1.trans S2
  have t1' := t1.mono (.of S12)
  refine ⟨_, rfl, rfl, _, rfl, ite2 (fun h12 => ?_) (fun h12 => ?_)⟩
  · have e12 : stepT tx sk = 12 := by have := V.int.inj (of_decide_eq_true h12); omega
    rw [e12] at t3
    rw [st12 e12] at q
    refine ⟨_, rfl, 1, rfl, nFromP t1' 1 (fun z H3 S3 t4 => ⟨_, rfl, (by show 2 ≤ sizeLine; decide), fun p5 g5 => ?_⟩)⟩
    obtain ⟨S5, t5⟩ := tupN (K := K) g5 (trs2 t4 (t3.mono (.of S3)))
    exact q _ _ (S12.trans (S3.trans S5)) (by rw [show looks 12 = 0 from rfl, pad_of (Nat.zero_le _)] at t5; exact t5)
  have n12 : stepT tx sk ≠ 12 := fun z => h12 (by rw [z]; exact decide_eq_true rfl)
  obtain ⟨w, ws, hk⟩ := st_word n12
  have bw : B 390 8000000 w := B_mem (B_kids b0) (by rw [hk]; exact List.mem_cons_self)
  refine ⟨_, rfl, nIxP t1' 0 (ats_mem hpos) (fun v4 t4 => ?_)⟩
  refine ⟨_, rfl, nIxP (TR_kids t4) 0 (by rw [hk]; rfl) (fun vw tw => ⟨vw, w, rfl, tw, fun v5 H5 S5 t5 => ?_⟩)⟩
  refine ⟨_, rfl, v4, ats tx 0, rfl, t4.mono (.of S5), fun v6 H6 S6 t6 => ⟨(by show 1 ≤ sizeLine; decide), fun p7 g7 => ?_⟩⟩
  obtain ⟨S7, t7⟩ := tupN (K := K) g7 (trs1 t6)
  rw [show loadT (ats tx 0) = .node ws by unfold loadT; rw [hk]; rfl] at t7
  refine ⟨_, rfl, 1, rfl, nFromP (t1'.mono (.of (S5.trans (S6.trans S7)))) 1 (fun v8 H8 S8 t8 => nCat (t7.mono (.of S8)) t8 (smallM (by rw [List.length_drop]; show 1 + _ ≤ _; omega)) (fun v9 H9 S9 t9 => ?_))⟩
  have S59 := S5.trans (S6.trans (S7.trans (S8.trans S9)))
  have t5' := t5.mono (.of (S6.trans (S7.trans (S8.trans S9))))
  have t3' := t3.mono (.of S59)
  have S19 := S12.trans S59
  have bl := B_loadT bw
  refine ⟨_, rfl, rfl, _, rfl, ite2 (fun h7 => ?_) (fun h7 => ?_)⟩
  · have e7 : stepT tx sk = 7 := by have := V.int.inj (of_decide_eq_true h7); omega
    rw [e7] at t3'
    rw [st7 hk e7] at q
    refine ⟨_, rfl, v5, loadT w, rfl, t5', by have := bl.1; omega, fun v10 H10 S10 t10 => ⟨(by show 1 ≤ sizeLine; decide), fun p11 g11 => ?_⟩⟩
    obtain ⟨S11, t11⟩ := tupN (K := K) g11 (trs1 t10)
    refine ⟨_, rfl, nCat t11 (t9.mono (.of (S10.trans S11))) (smallM (by rw [List.length_append, List.length_drop]; show 1 + (1 + _) ≤ _; omega)) (fun v12 H12 S12' t12 => ⟨_, rfl, (by show 2 ≤ sizeLine; decide), fun p13 g13 => ?_⟩)⟩
    obtain ⟨S13, t13⟩ := tupN (K := K) g13 (trs2 t12 (t3'.mono (.of (S10.trans (S11.trans S12')))))
    exact q _ _ (S19.trans (S10.trans (S11.trans (S12'.trans S13)))) t13
  have n7 : stepT tx sk ≠ 7 := fun z => h7 (by rw [z]; exact decide_eq_true rfl)
  refine ⟨_, rfl, rfl, _, rfl, ite2 (fun h8 => ?_) (fun h8 => ?_)⟩
  · have e8 : stepT tx sk = 8 := by have := V.int.inj (of_decide_eq_true h8); omega
    rw [e8] at t3'
    rw [st8 hk e8] at q
    refine ⟨_, rfl, v5, loadT w, rfl, t5', fun v10 H10 S10 t10 => ⟨(by show 1 ≤ sizeLine; decide), fun p11 g11 => ?_⟩⟩
    rw [show loadT (loadT w) = .node (w.kids.drop 2) by show T.node ((w.kids.drop 1).drop 1) = _; rw [List.drop_drop]] at t10
    obtain ⟨S11, t11⟩ := tupN (K := K) g11 (trs1 t10)
    refine ⟨_, rfl, nCat t11 (t9.mono (.of (S10.trans S11))) (smallM (by rw [List.length_append, List.length_drop]; show 1 + (1 + _) ≤ _; omega)) (fun v12 H12 S12' t12 => ⟨_, rfl, (by show 2 ≤ sizeLine; decide), fun p13 g13 => ?_⟩)⟩
    obtain ⟨S13, t13⟩ := tupN (K := K) g13 (trs2 t12 (t3'.mono (.of (S10.trans (S11.trans S12')))))
    exact q _ _ (S19.trans (S10.trans (S11.trans (S12'.trans S13)))) t13
  have n8 : stepT tx sk ≠ 8 := fun z => h8 (by rw [z]; exact decide_eq_true rfl)
  refine ⟨_, rfl, rfl, _, rfl, ite2 (fun h9 => ?_) (fun h9 => ?_)⟩
  · have e9 : stepT tx sk = 9 := by have := V.int.inj (of_decide_eq_true h9); omega
    rw [e9] at t3'
    rw [st9 hk e9] at q
    refine ⟨_, rfl, (by show 1 ≤ sizeLine; decide), fun p11 g11 => ?_⟩
    obtain ⟨S11, t11⟩ := tupN (K := K) g11 (trs1 t5')
    refine ⟨_, rfl, nCat t11 (t1'.mono (.of (S59.trans S11))) (smallM (by show 1 + _ ≤ _; omega)) (fun v12 H12 S12' t12 => ⟨_, rfl, (by show 2 ≤ sizeLine; decide), fun p13 g13 => ?_⟩)⟩
    obtain ⟨S13, t13⟩ := tupN (K := K) g13 (trs2 t12 (t3'.mono (.of (S11.trans S12'))))
    exact q _ _ (S19.trans (S11.trans (S12'.trans S13))) t13
  have n9 : stepT tx sk ≠ 9 := fun z => h9 (by rw [z]; exact decide_eq_true rfl)
  have eo := stw hk n12 n7 n8 n9
  rw [eo] at q
  refine ⟨_, rfl, _, rfl, _, rfl, _, rfl, stepT tx sk, v5, v3, loadT w, pad sk (looks (stepT tx sk)), rfl, t5', t3', pad_len _ _, (B_pad _ (looks_le _) (by omega) bs).le (by omega) (by omega), fun v10 H10 S10 t10 => ⟨(by show 2 ≤ sizeLine; decide), fun p13 g13 => ?_⟩⟩
  obtain ⟨S13, t13⟩ := tupN (K := K) g13 (trs2 (t9.mono (.of S10)) t10)
  exact q _ _ (S19.trans (S10.trans S13)) t13
theorem ok_plains (m_tuple : mg "tuple" = none) {a_NAMES : Addr} (m_NAMES : mg "NAMES" = some (.ref a_NAMES)) (q_NAMES : ∀ H, SqT K H a_NAMES [.str (PySem.Str.ofString "lay"), .str (PySem.Str.ofString "drop"), .str (PySem.Str.ofString "twin"), .str (PySem.Str.ofString "swap"), .str (PySem.Str.ofString "front"), .str (PySem.Str.ofString "part"), .str (PySem.Str.ofString "turn"), .str (PySem.Str.ofString "fork"), .str (PySem.Str.ofString "while")]) 
    {a_plain : Addr} {d_plain : FuncData} (F_plain : Fun K "plain" "plain" s_plain a_plain d_plain) (G_plain : FnOk P w K mg base CX0 31 a_plain d_plain ["sort"] (spPlain K)) (b_plain : Binds K d_plain ["sort"] []) (m_plain : mg "plain" = some (.ref a_plain))
    (t_NAMES : ∃ ob, K.lookup a_NAMES = some ob ∧ ob.cls = .type "tuple" ∧ ob.dict = none)
    (F : Fun K "plains" "plains" s_plains f fd) : FnOk P w K mg base CX0 32 f fd ["names"] (spPlains K) := by
  refine okQ F sc_plains (fun vs H Q E h => ?_) (fun cdv A outer s H vs Q E hr h => ?_)
  · obtain ⟨z, ks, rfl, _⟩ := h
    rfl
  obtain ⟨z, ks, rfl, hz1, hz2, hw, hk, q⟩ := h
  refine ⟨_, (qss_one (qs_ret (qe_callTy call_tuple_of rfl m_tuple bt_tuple (qa_cons (qe_lc rfl (lc_free (fr := []) (js := []) (sc := defScope s_plains) rfl rfl rfl (by decide +kernel) (by decide +kernel) (by decide +kernel) (by decide +kernel) (by exact trivial) (by decide +kernel) (fun y hy => cell_has hy)) (qi_list (qe_bm0 PySem.F.plainAttrs_str PySem.F.slot_str_split PySem.F.type_str_split mt_split0 (qv 0))) (fun _ _ _ _ _ => (qe_call G_plain hr rfl m_plain F_plain.kp b_plain .nil pass0 (qa_cons (qe_bmK (K := K) rfl (qe_bm PySem.F.plainAttrs_tuple PySem.F.slot_tuple_index PySem.F.type_tuple_index (mt_indexZK (K := K) rfl) (qe_glob (v := .ref a_NAMES) rfl m_NAMES rfl) (qa_cons (qv 0) qa_nil))) qa_nil)))) qa_nil)))), ?_⟩
  have hwl : (Txt.words z).length = ks.length := by rw [hw, List.length_map]
  have hwn : (Txt.words z).length ≤ 1000 := hz2.2
  refine ⟨_, rfl, rfl, z, rfl, rfl, hz1, hz2.1, hz2.2, fun D0 g0 => ?_⟩
  refine ⟨D0, rfl, ⟨_, SqL.of upd_same⟩, ?_⟩
  have S0 := same_new g0 (.lst ((Txt.words z).map V.str))
  refine lc_listI (K := K) (xs := (Txt.words z).map V.str) (fun D i ys H' => D ≠ D0 ∧ H D = none ∧ Same H H' ∧ H' D0 = some (.lst ((Txt.words z).map V.str)) ∧ H' D = some (.lst ys) ∧ TRs K H' ((ks.take i).map W) ys ∧ i ≤ ks.length) (small (by rw [List.length_map]; omega)) (fun D hD => ?_) (fun D i ys H' j => ⟨j.2.2.2.2.1, ?_, SqL.of j.2.2.2.1⟩) (fun D i x ys H' R hx j hR => ?_) (fun D ys H' j => ?_)
  · have hne : D ≠ D0 := fun e => by rw [e, upd_same] at hD; cases hD
    exact ⟨hne, S0.free hD, S0.trans (same_new hD _), by rw [upd_ne hne.symm]; exact upd_same, upd_same, TRs_nil.mpr rfl, Nat.zero_le _⟩
  · rw [j.2.2.2.2.2.1.length, List.length_map, List.length_take]
    exact Nat.min_eq_left j.2.2.2.2.2.2
  · obtain ⟨hne, hD, S, h0, h1, ht, hi⟩ := j
    rw [hw, List.map_map, List.getElem?_map] at hx
    cases hh : ks[i]? with
    | none => rw [hh] at hx; cases hx
    | some k =>
      rw [hh] at hx
      cases hx
      have hk1 := hk k (List.mem_of_getElem? hh)
      obtain ⟨e1, e2⟩ := name_at k (by omega)
      refine ⟨.inr (.inl ⟨rfl, t_NAMES⟩), _, rfl, a_NAMES, nameZs, _, k, rfl, rfl, q_NAMES _, e1, e2, k, rfl, hk1.1, hk1.2, fun y H3 S3 t3 => ?_⟩
      refine hR _ _ (S3 _ _ h1) ⟨hne, hD, same_upd (S.trans S3) hD, by rw [upd_ne hne.symm]; exact S3 _ _ h0, upd_same, ?_, (List.getElem?_eq_some_iff.mp hh).1⟩
      rw [List.take_succ, hh, List.map_append]
      exact TRs.append ((ht.mono (.of S3)).mono (Kt.lst (S3 _ _ h1))) (TRs_cons.mpr ⟨y, [], rfl, t3.mono (Kt.lst (S3 _ _ h1)), TRs_nil.mpr rfl⟩)
  · obtain ⟨hne, hD, S, h0, h1, ht, hi⟩ := j
    rw [List.length_map, hwl, List.take_of_length_le (Nat.le_refl _)] at ht
    refine ⟨D, ys, rfl, .inl ⟨SqL.of h1, fun p hp => ?_⟩⟩
    obtain ⟨S5, t5⟩ := tupN (K := K) hp ht
    exact q _ _ (S.trans S5) t5
theorem ok_opening 
    {a_lay : Addr} {d_lay : FuncData} (F_lay : Fun K "lay" "lay" s_lay a_lay d_lay) (G_lay : FnOk P w K mg base CX0 32 a_lay d_lay ["tree"] (spLay K)) (b_lay : Binds K d_lay ["tree"] []) (m_lay : mg "lay" = some (.ref a_lay))
    {a_plains : Addr} {d_plains : FuncData} (F_plains : Fun K "plains" "plains" s_plains a_plains d_plains) (G_plains : FnOk P w K mg base CX0 32 a_plains d_plains ["names"] (spPlains K)) (b_plains : Binds K d_plains ["names"] []) (m_plains : mg "plains" = some (.ref a_plains))
    (F : Fun K "opening" "opening" s_opening f fd) : FnOk P w K mg base CX0 33 f fd [] (spTxt K tOpen) := by
  refine okQ F sc_opening (fun vs H Q E h => ?_) (fun cdv A outer s H vs Q E hr h => ?_)
  · obtain ⟨rfl, _⟩ := h
    rfl
  obtain ⟨rfl, q⟩ := h
  refine ⟨_, (qss_cons (qs_set (i := 0) sc_opening.nd rfl (Or.inl rfl) (qe_op op_catTA (qe_tup (qa_cons (qe_call G_lay hr rfl m_lay F_lay.kp b_lay .nil pass0 (qa_cons (qe_tup qa_nil) qa_nil)) qa_nil)) (qe_call G_plains hr rfl m_plains F_plains.kp b_plains .nil pass0 (qa_cons qe_str qa_nil))))
      (qss_one (qs_ret (qe_op op_catTA (qe_op op_catTA (qe_call G_plains hr rfl m_plains F_plains.kp b_plains .nil pass0 (qa_cons qe_str qa_nil)) (qv 0)) (qv 0))))), ?_⟩
  refine ⟨Nat.zero_le _, fun p1 g1 => ?_⟩
  obtain ⟨S1, t1⟩ := tupN (K := K) (ts := []) g1 (TRs_nil.mpr rfl)
  refine ⟨_, leaf, rfl, t1, by decide, by decide, fun y2 H2 S2 t2 => ⟨(by show 1 ≤ sizeLine; decide), fun p3 g3 => ?_⟩⟩
  obtain ⟨S3, t3⟩ := tupN (K := K) g3 (trs1 t2)
  refine ⟨_, [6, 4], rfl, by decide +kernel, by decide +kernel, by decide +kernel, by decide, fun y4 H4 S4 t4 => nCat (t3.mono (.of S4)) t4 (small (by decide)) (fun y5 H5 S5 t5 => ?_)⟩
  have S15 := S1.trans (S2.trans (S3.trans (S4.trans S5)))
  refine ⟨_, [5], rfl, by decide +kernel, by decide +kernel, by decide +kernel, by decide, fun y6 H6 S6 t6 => ⟨_, rfl, nCat t6 (t5.mono (.of S6)) (small (by decide)) (fun y7 H7 S7 t7 => ⟨_, rfl, nCat t7 (t5.mono (.of (S6.trans S7))) (small (by decide)) (fun y8 H8 S8 t8 => ?_)⟩)⟩⟩
  exact q _ _ (S15.trans (S6.trans (S7.trans S8))) t8
theorem ok_nameless_gone {u_WHILE : Value} (m_WHILE : mg "WHILE" = some u_WHILE) (r_WHILE : RelV (.int 8) u_WHILE) 
    {a_plains : Addr} {d_plains : FuncData} (F_plains : Fun K "plains" "plains" s_plains a_plains d_plains) (G_plains : FnOk P w K mg base CX0 32 a_plains d_plains ["names"] (spPlains K)) (b_plains : Binds K d_plains ["names"] []) (m_plains : mg "plains" = some (.ref a_plains))
    (F : Fun K "nameless_gone" "nameless_gone" s_nameless_gone f fd) : FnOk P w K mg base CX0 33 f fd [] (spTxt K tNameless) := by
  refine okQ F sc_nameless_gone (fun vs H Q E h => ?_) (fun cdv A outer s H vs Q E hr h => ?_)
  · obtain ⟨rfl, _⟩ := h
    rfl
  obtain ⟨rfl, q⟩ := h
  refine ⟨_, (qss_one (qs_ret (qe_op op_catTA (qe_op op_repTA (qe_call G_plains hr rfl m_plains F_plains.kp b_plains .nil pass0 (qa_cons qe_str qa_nil)) (qe_op op_add (qe_glob (v := .int 8) rfl m_WHILE r_WHILE) qe_int)) (qe_call G_plains hr rfl m_plains F_plains.kp b_plains .nil pass0 (qa_cons qe_str qa_nil))))), ?_⟩
  refine ⟨_, [1], rfl, by decide +kernel, by decide +kernel, by decide +kernel, by decide, fun y1 H1 S1 t1 => ⟨8, 2, rfl, rfl, nRepW 10 t1 rfl rfl (by decide) (fun y2 H2 S2 t2 => ?_)⟩⟩
  refine ⟨_, [4], rfl, by decide +kernel, by decide +kernel, by decide +kernel, by decide, fun y3 H3 S3 t3 => nCat (t2.mono (.of S3)) t3 (small (by decide)) (fun y4 H4 S4 t4 => ?_)⟩
  exact q _ _ (S1.trans (S2.trans (S3.trans S4))) t4
theorem ok_while_gone {u_WHILE : Value} (m_WHILE : mg "WHILE" = some u_WHILE) (r_WHILE : RelV (.int 8) u_WHILE) {u_TOP_REACHED : Value} (m_TOP_REACHED : mg "TOP_REACHED" = some u_TOP_REACHED) (r_TOP_REACHED : RelV (.str (PySem.Str.ofString "turn turn front turn part")) u_TOP_REACHED) {u_PAST_BODY : Value} (m_PAST_BODY : mg "PAST_BODY" = some u_PAST_BODY) (r_PAST_BODY : RelV (.str (PySem.Str.ofString "front turn drop swap")) u_PAST_BODY) {u_INTO_BODY : Value} (m_INTO_BODY : mg "INTO_BODY" = some u_INTO_BODY) (r_INTO_BODY : RelV (.str (PySem.Str.ofString "front swap turn part swap twin turn front turn part turn front front swap front")) u_INTO_BODY) 
    {a_plains : Addr} {d_plains : FuncData} (F_plains : Fun K "plains" "plains" s_plains a_plains d_plains) (G_plains : FnOk P w K mg base CX0 32 a_plains d_plains ["names"] (spPlains K)) (b_plains : Binds K d_plains ["names"] []) (m_plains : mg "plains" = some (.ref a_plains))
    {a_fork : Addr} {d_fork : FuncData} (F_fork : Fun K "fork" "fork" s_fork a_fork d_fork) (G_fork : FnOk P w K mg base CX0 32 a_fork d_fork ["yes", "no"] (spFork K)) (b_fork : Binds K d_fork ["yes", "no"] []) (m_fork : mg "fork" = some (.ref a_fork))
    (F : Fun K "while_gone" "while_gone" s_while_gone f fd) : FnOk P w K mg base CX0 33 f fd [] (spTxt K tWhile) := by
  refine okQ F sc_while_gone (fun vs H Q E h => ?_) (fun cdv A outer s H vs Q E hr h => ?_)
  · obtain ⟨rfl, _⟩ := h
    rfl
  obtain ⟨rfl, q⟩ := h
  refine ⟨_, (qss_cons (qs_set (i := 0) sc_while_gone.nd rfl (Or.inl rfl) (qe_op op_catTA (qe_op op_repTA (qe_call G_plains hr rfl m_plains F_plains.kp b_plains .nil pass0 (qa_cons qe_str qa_nil)) (qe_glob (v := .int 8) rfl m_WHILE r_WHILE)) (qe_call G_plains hr rfl m_plains F_plains.kp b_plains .nil pass0 (qa_cons qe_str qa_nil))))
      (qss_one (qs_ret (qe_op op_catTA (qe_op op_catTA (qv 0) (qe_call G_plains hr rfl m_plains F_plains.kp b_plains .nil pass0 (qa_cons (qe_glob (v := .str (PySem.Str.ofString "turn turn front turn part")) rfl m_TOP_REACHED r_TOP_REACHED) qa_nil))) (qe_tup (qa_cons (qe_call G_fork hr rfl m_fork F_fork.kp b_fork .nil pass0 (qa_cons (qe_call G_plains hr rfl m_plains F_plains.kp b_plains .nil pass0 (qa_cons (qe_glob (v := .str (PySem.Str.ofString "front swap turn part swap twin turn front turn part turn front front swap front")) rfl m_INTO_BODY r_INTO_BODY) qa_nil)) (qa_cons (qe_call G_plains hr rfl m_plains F_plains.kp b_plains .nil pass0 (qa_cons (qe_glob (v := .str (PySem.Str.ofString "front turn drop swap")) rfl m_PAST_BODY r_PAST_BODY) qa_nil)) qa_nil))) qa_nil)))))), ?_⟩
  refine ⟨_, [3, 4], rfl, by decide +kernel, by decide +kernel, by decide +kernel, by decide, fun y1 H1 S1 t1 => nRepWP (k := 8) 8 t1 rfl rfl (by decide) (fun y2 H2 S2 t2 => ?_)⟩
  refine ⟨_, [4], rfl, by decide +kernel, by decide +kernel, by decide +kernel, by decide, fun y3 H3 S3 t3 => nCat (t2.mono (.of S3)) t3 (small (by decide)) (fun y4 H4 S4 t4 => ?_)⟩
  have S14 := S1.trans (S2.trans (S3.trans S4))
  refine ⟨_, rfl, _, [6, 6, 4, 6, 5], rfl, by decide +kernel, by decide +kernel, by decide +kernel, by decide, fun y5 H5 S5 t5 => nCat (t4.mono (.of S5)) t5 (small (by decide)) (fun y6 H6 S6 t6 => ?_)⟩
  refine ⟨_, [4, 3, 6, 5, 3, 2, 6, 4, 6, 5, 6, 4, 4, 3, 4], rfl, by decide +kernel, by decide +kernel, by decide +kernel, by decide, fun y7 H7 S7 t7 => ?_⟩
  refine ⟨_, [4, 6, 1, 3], rfl, by decide +kernel, by decide +kernel, by decide +kernel, by decide, fun y8 H8 S8 t8 => ⟨_, _, _, _, rfl, t7.mono (.of S8), t8, ⟨by decide, by decide⟩, ⟨by decide, by decide⟩, fun y9 H9 S9 t9 => ⟨(by show 1 ≤ sizeLine; decide), fun p10 g10 => ?_⟩⟩⟩
  obtain ⟨S10, t10⟩ := tupN (K := K) g10 (trs1 t9)
  have S610 := S7.trans (S8.trans (S9.trans S10))
  exact nCat (t6.mono (.of S610)) t10 (small (by decide)) (fun y11 H11 S11 t11 => q _ _ (S14.trans (S5.trans (S6.trans (S610.trans S11)))) t11)
theorem ok_gone_of {u_LAY : Value} (m_LAY : mg "LAY" = some u_LAY) (r_LAY : RelV (.int 0) u_LAY) {u_LAID : Value} (m_LAID : mg "LAID" = some u_LAID) (r_LAID : RelV (.str (PySem.Str.ofString "turn turn front turn turn front swap")) u_LAID) {u_FORK : Value} (m_FORK : mg "FORK" = some u_FORK) (r_FORK : RelV (.int 7) u_FORK) {u_TOP_REACHED : Value} (m_TOP_REACHED : mg "TOP_REACHED" = some u_TOP_REACHED) (r_TOP_REACHED : RelV (.str (PySem.Str.ofString "turn turn front turn part")) u_TOP_REACHED) {u_INTO_NO : Value} (m_INTO_NO : mg "INTO_NO" = some u_INTO_NO) (r_INTO_NO : RelV (.str (PySem.Str.ofString "front swap turn part drop front")) u_INTO_NO) {u_INTO_YES : Value} (m_INTO_YES : mg "INTO_YES" = some u_INTO_YES) (r_INTO_YES : RelV (.str (PySem.Str.ofString "front swap turn part swap drop front")) u_INTO_YES) {u_STACK_PARTED : Value} (m_STACK_PARTED : mg "STACK_PARTED" = some u_STACK_PARTED) (r_STACK_PARTED : RelV (.str (PySem.Str.ofString "drop front swap part")) u_STACK_PARTED) {a_WORKED : Addr} (m_WORKED : mg "WORKED" = some (.ref a_WORKED)) (q_WORKED : ∀ H, SqT K H a_WORKED [.str (PySem.Str.ofString ""), .str (PySem.Str.ofString "drop"), .str (PySem.Str.ofString "twin turn swap front swap front"), .str (PySem.Str.ofString "swap part swap turn front swap front"), .str (PySem.Str.ofString "swap part turn front front"), .str (PySem.Str.ofString "part turn turn front swap front"), .str (PySem.Str.ofString "swap part swap part swap turn front turn front swap front")]) 
    {a_plains : Addr} {d_plains : FuncData} (F_plains : Fun K "plains" "plains" s_plains a_plains d_plains) (G_plains : FnOk P w K mg base CX0 33 a_plains d_plains ["names"] (spPlains K)) (b_plains : Binds K d_plains ["names"] []) (m_plains : mg "plains" = some (.ref a_plains))
    {a_fork : Addr} {d_fork : FuncData} (F_fork : Fun K "fork" "fork" s_fork a_fork d_fork) (G_fork : FnOk P w K mg base CX0 33 a_fork d_fork ["yes", "no"] (spFork K)) (b_fork : Binds K d_fork ["yes", "no"] []) (m_fork : mg "fork" = some (.ref a_fork))
    (F : Fun K "gone_of" "gone_of" s_gone_of f fd) : FnOk P w K mg base CX0 34 f fd ["sort"] (spGoneOf K) := by
  refine okQ F sc_gone_of (fun vs H Q E h => ?_) (fun cdv A outer s H vs Q E hr h => ?_)
  · obtain ⟨k, rfl, _⟩ := h
    rfl
  obtain ⟨k, rfl, h7, q⟩ := h
  refine ⟨_, (qss_cons (qs_set (i := 1) sc_gone_of.nd rfl (Or.inl rfl) (qe_op op_repTA (qe_call G_plains hr rfl m_plains F_plains.kp b_plains .nil pass0 (qa_cons qe_str qa_nil)) (qe_op op_add (qv 0) qe_int)))
      (qss_cons (qs_if (qt_cmpR op_eq (qv 0) (qe_glob (v := .int 0) rfl m_LAY r_LAY) (nomark _)) (qss_one (qs_ret (qe_op op_catTA (qv 1) (qe_call G_plains hr rfl m_plains F_plains.kp b_plains .nil pass0 (qa_cons (qe_glob (v := .str (PySem.Str.ofString "turn turn front turn turn front swap")) rfl m_LAID r_LAID) qa_nil))))) qss_nil)
      (qss_cons (qs_if (qt_cmpR op_eq (qv 0) (qe_glob (v := .int 7) rfl m_FORK r_FORK) (nomark _)) (qss_one (qs_ret (qe_op op_catTA (qe_op op_catTA (qv 1) (qe_call G_plains hr rfl m_plains F_plains.kp b_plains .nil pass0 (qa_cons (qe_glob (v := .str (PySem.Str.ofString "turn turn front turn part")) rfl m_TOP_REACHED r_TOP_REACHED) qa_nil))) (qe_tup (qa_cons (qe_call G_fork hr rfl m_fork F_fork.kp b_fork .nil pass0 (qa_cons (qe_call G_plains hr rfl m_plains F_plains.kp b_plains .nil pass0 (qa_cons (qe_glob (v := .str (PySem.Str.ofString "front swap turn part swap drop front")) rfl m_INTO_YES r_INTO_YES) qa_nil)) (qa_cons (qe_call G_plains hr rfl m_plains F_plains.kp b_plains .nil pass0 (qa_cons (qe_glob (v := .str (PySem.Str.ofString "front swap turn part drop front")) rfl m_INTO_NO r_INTO_NO) qa_nil)) qa_nil))) qa_nil))))) qss_nil)
      (qss_one (qs_ret (qe_op op_catTA (qe_op op_catTA (qe_op op_catTA (qv 1) (qe_call G_plains hr rfl m_plains F_plains.kp b_plains .nil pass0 (qa_cons (qe_glob (v := .str (PySem.Str.ofString "drop front swap part")) rfl m_STACK_PARTED r_STACK_PARTED) qa_nil))) (qe_call G_plains hr rfl m_plains F_plains.kp b_plains .nil pass0 (qa_cons (qe_ix ix_tup (qe_glob (v := .ref a_WORKED) rfl m_WORKED rfl) (qv 0) (fun _ _ => rfl)) qa_nil))) (qe_call G_plains hr rfl m_plains F_plains.kp b_plains .nil pass0 (qa_cons qe_str qa_nil)))))))), ?_⟩
  refine ⟨_, [1], rfl, by decide +kernel, by decide +kernel, by decide +kernel, by decide, fun y1 H1 S1 t1 => ⟨_, rfl, _, _, rfl, rfl, nRepW (k + 1) t1 rfl rfl (by omega) (fun y2 H2 S2 t2 => ?_)⟩⟩
  have S12 := S1.trans S2
  refine ⟨_, rfl, rfl, _, rfl, ite2 (fun h0 => ?_) (fun h0 => ?_)⟩
  · obtain rfl : k = 0 := by have := V.int.inj (of_decide_eq_true h0); omega
    refine ⟨_, rfl, _, [6, 6, 4, 6, 6, 4, 3], rfl, by decide +kernel, by decide +kernel, by decide +kernel, by decide, fun y3 H3 S3 t3 => nCat (t2.mono (.of S3)) t3 (small (by decide)) (fun y4 H4 S4 t4 => q _ _ (S12.trans (S3.trans S4)) t4)⟩
  refine ⟨_, rfl, rfl, _, rfl, ite2 (fun h7 => ?_) (fun h7 => ?_)⟩
  · obtain rfl : k = 7 := by have := V.int.inj (of_decide_eq_true h7); omega
    refine ⟨_, rfl, _, [6, 6, 4, 6, 5], rfl, by decide +kernel, by decide +kernel, by decide +kernel, by decide, fun y5 H5 S5 t5 => nCat (t2.mono (.of S5)) t5 (small (by decide)) (fun y6 H6 S6 t6 => ?_)⟩
    refine ⟨_, [4, 3, 6, 5, 3, 1, 4], rfl, by decide +kernel, by decide +kernel, by decide +kernel, by decide, fun y7 H7 S7 t7 => ?_⟩
    refine ⟨_, [4, 3, 6, 5, 1, 4], rfl, by decide +kernel, by decide +kernel, by decide +kernel, by decide, fun y8 H8 S8 t8 => ⟨_, _, _, _, rfl, t7.mono (.of S8), t8, ⟨by decide, by decide⟩, ⟨by decide, by decide⟩, fun y9 H9 S9 t9 => ⟨(by show 1 ≤ sizeLine; decide), fun p10 g10 => ?_⟩⟩⟩
    obtain ⟨S10, t10⟩ := tupN (K := K) g10 (trs1 t9)
    have S610 := S7.trans (S8.trans (S9.trans S10))
    exact nCat (t6.mono (.of S610)) t10 (small (by decide)) (fun y11 H11 S11 t11 => q _ _ (S12.trans (S5.trans (S6.trans (S610.trans S11)))) t11)
  have h0 : k ≠ 0 := fun z => h0 (by subst z; exact decide_eq_true rfl)
  have h7 : k ≠ 7 := fun z => h7 (by subst z; exact decide_eq_true rfl)
  refine ⟨_, rfl, _, [1, 4, 3, 5], rfl, by decide +kernel, by decide +kernel, by decide +kernel, by decide, fun y3 H3 S3 t3 => nCat (t2.mono (.of S3)) t3 (small (by rw [rep_w]; show _ + 4 ≤ _; omega)) (fun y4 H4 S4 t4 => ?_)⟩
  have S14 := S12.trans (S3.trans S4)
  rcases (by omega : k = 1 ∨ k = 2 ∨ k = 3 ∨ k = 4 ∨ k = 5 ∨ k = 6) with rfl | rfl | rfl | rfl | rfl | rfl
  · refine ⟨_, rfl, a_WORKED, _, _, _, rfl, rfl, q_WORKED _, rfl, _, [1], rfl, by decide +kernel, by decide +kernel, by decide +kernel, by decide, fun y5 H5 S5 t5 => nCat (t4.mono (.of S5)) t5 (small (by decide)) (fun y6 H6 S6 t6 => ?_)⟩
    refine ⟨_, [3], rfl, by decide +kernel, by decide +kernel, by decide +kernel, by decide, fun y7 H7 S7 t7 => nCat (t6.mono (.of S7)) t7 (small (by decide)) (fun y8 H8 S8 t8 => q _ _ (S14.trans (S5.trans (S6.trans (S7.trans S8)))) t8)⟩
  · refine ⟨_, rfl, a_WORKED, _, _, _, rfl, rfl, q_WORKED _, rfl, _, [2, 6, 3, 4, 3, 4], rfl, by decide +kernel, by decide +kernel, by decide +kernel, by decide, fun y5 H5 S5 t5 => nCat (t4.mono (.of S5)) t5 (small (by decide)) (fun y6 H6 S6 t6 => ?_)⟩
    refine ⟨_, [3], rfl, by decide +kernel, by decide +kernel, by decide +kernel, by decide, fun y7 H7 S7 t7 => nCat (t6.mono (.of S7)) t7 (small (by decide)) (fun y8 H8 S8 t8 => q _ _ (S14.trans (S5.trans (S6.trans (S7.trans S8)))) t8)⟩
  · refine ⟨_, rfl, a_WORKED, _, _, _, rfl, rfl, q_WORKED _, rfl, _, [3, 5, 3, 6, 4, 3, 4], rfl, by decide +kernel, by decide +kernel, by decide +kernel, by decide, fun y5 H5 S5 t5 => nCat (t4.mono (.of S5)) t5 (small (by decide)) (fun y6 H6 S6 t6 => ?_)⟩
    refine ⟨_, [3], rfl, by decide +kernel, by decide +kernel, by decide +kernel, by decide, fun y7 H7 S7 t7 => nCat (t6.mono (.of S7)) t7 (small (by decide)) (fun y8 H8 S8 t8 => q _ _ (S14.trans (S5.trans (S6.trans (S7.trans S8)))) t8)⟩
  · refine ⟨_, rfl, a_WORKED, _, _, _, rfl, rfl, q_WORKED _, rfl, _, [3, 5, 6, 4, 4], rfl, by decide +kernel, by decide +kernel, by decide +kernel, by decide, fun y5 H5 S5 t5 => nCat (t4.mono (.of S5)) t5 (small (by decide)) (fun y6 H6 S6 t6 => ?_)⟩
    refine ⟨_, [3], rfl, by decide +kernel, by decide +kernel, by decide +kernel, by decide, fun y7 H7 S7 t7 => nCat (t6.mono (.of S7)) t7 (small (by decide)) (fun y8 H8 S8 t8 => q _ _ (S14.trans (S5.trans (S6.trans (S7.trans S8)))) t8)⟩
  · refine ⟨_, rfl, a_WORKED, _, _, _, rfl, rfl, q_WORKED _, rfl, _, [5, 6, 6, 4, 3, 4], rfl, by decide +kernel, by decide +kernel, by decide +kernel, by decide, fun y5 H5 S5 t5 => nCat (t4.mono (.of S5)) t5 (small (by decide)) (fun y6 H6 S6 t6 => ?_)⟩
    refine ⟨_, [3], rfl, by decide +kernel, by decide +kernel, by decide +kernel, by decide, fun y7 H7 S7 t7 => nCat (t6.mono (.of S7)) t7 (small (by decide)) (fun y8 H8 S8 t8 => q _ _ (S14.trans (S5.trans (S6.trans (S7.trans S8)))) t8)⟩
  · refine ⟨_, rfl, a_WORKED, _, _, _, rfl, rfl, q_WORKED _, rfl, _, [3, 5, 3, 5, 3, 6, 4, 6, 4, 3, 4], rfl, by decide +kernel, by decide +kernel, by decide +kernel, by decide, fun y5 H5 S5 t5 => nCat (t4.mono (.of S5)) t5 (small (by decide)) (fun y6 H6 S6 t6 => ?_)⟩
    refine ⟨_, [3], rfl, by decide +kernel, by decide +kernel, by decide +kernel, by decide, fun y7 H7 S7 t7 => nCat (t6.mono (.of S7)) t7 (small (by decide)) (fun y8 H8 S8 t8 => q _ _ (S14.trans (S5.trans (S6.trans (S7.trans S8)))) t8)⟩
theorem ok_by_sort (m_range : mg "range" = none) (m_reversed : mg "reversed" = none) {u_WHILE : Value} (m_WHILE : mg "WHILE" = some u_WHILE) (r_WHILE : RelV (.int 8) u_WHILE) 
    {a_fork : Addr} {d_fork : FuncData} (F_fork : Fun K "fork" "fork" s_fork a_fork d_fork) (G_fork : FnOk P w K mg base CX0 34 a_fork d_fork ["yes", "no"] (spFork K)) (b_fork : Binds K d_fork ["yes", "no"] []) (m_fork : mg "fork" = some (.ref a_fork))
    {a_while_gone : Addr} {d_while_gone : FuncData} (F_while_gone : Fun K "while_gone" "while_gone" s_while_gone a_while_gone d_while_gone) (G_while_gone : FnOk P w K mg base CX0 34 a_while_gone d_while_gone [] (spTxt K tWhile)) (b_while_gone : Binds K d_while_gone [] []) (m_while_gone : mg "while_gone" = some (.ref a_while_gone))
    {a_nameless_gone : Addr} {d_nameless_gone : FuncData} (F_nameless_gone : Fun K "nameless_gone" "nameless_gone" s_nameless_gone a_nameless_gone d_nameless_gone) (G_nameless_gone : FnOk P w K mg base CX0 34 a_nameless_gone d_nameless_gone [] (spTxt K tNameless)) (b_nameless_gone : Binds K d_nameless_gone [] []) (m_nameless_gone : mg "nameless_gone" = some (.ref a_nameless_gone))
    {a_gone_of : Addr} {d_gone_of : FuncData} (F_gone_of : Fun K "gone_of" "gone_of" s_gone_of a_gone_of d_gone_of) (G_gone_of : FnOk P w K mg base CX0 34 a_gone_of d_gone_of ["sort"] (spGoneOf K)) (b_gone_of : Binds K d_gone_of ["sort"] []) (m_gone_of : mg "gone_of" = some (.ref a_gone_of))
    {a_plains : Addr} {d_plains : FuncData} (F_plains : Fun K "plains" "plains" s_plains a_plains d_plains) (G_plains : FnOk P w K mg base CX0 34 a_plains d_plains ["names"] (spPlains K)) (b_plains : Binds K d_plains ["names"] []) (m_plains : mg "plains" = some (.ref a_plains))
    (F : Fun K "by_sort" "by_sort" s_by_sort f fd) : FnOk P w K mg base CX0 35 f fd [] (spTxt K (tSort 8)) := by
  refine okQ F sc_by_sort (fun vs H Q E h => ?_) (fun cdv A outer s H vs Q E hr h => ?_)
  · obtain ⟨rfl, _⟩ := h
    rfl
  obtain ⟨rfl, q⟩ := h
  refine ⟨_, (qss_cons (qs_set (i := 0) sc_by_sort.nd rfl (Or.inl rfl) (qe_tup (qa_cons (qe_call G_fork hr rfl m_fork F_fork.kp b_fork .nil pass0 (qa_cons (qe_call0 G_nameless_gone hr rfl m_nameless_gone F_nameless_gone.kp b_nameless_gone .nil pass0) (qa_cons (qe_call0 G_while_gone hr rfl m_while_gone F_while_gone.kp b_while_gone .nil pass0) qa_nil))) qa_nil)))
      (qss_cons (qs_for PassesOwn.never rfl (qi_down rfl m_range rfl m_reversed (qa_cons (qe_glob (v := .int 8) rfl m_WHILE r_WHILE) qa_nil)) (qg_name (i := 1) sc_by_sort.nd rfl (Or.inl rfl)) (qss_one (qs_set (i := 0) sc_by_sort.nd rfl (Or.inl rfl) (qe_tup (qa_cons (qe_call G_fork hr rfl m_fork F_fork.kp b_fork .nil pass0 (qa_cons (qe_op op_catTA (qe_call G_plains hr rfl m_plains F_plains.kp b_plains .nil pass0 (qa_cons qe_str qa_nil)) (qv 0)) (qa_cons (qe_call G_gone_of hr rfl m_gone_of F_gone_of.kp b_gone_of .nil pass0 (qa_cons (qv 1) qa_nil)) qa_nil))) qa_nil)))))
      (qss_one (qs_ret (qv 0))))), ?_⟩
  refine ⟨rfl, fun y1 H1 S1 t1 => ⟨rfl, fun y2 H2 S2 t2 => ⟨_, _, _, _, rfl, t1.mono (.of S2), t2, ⟨by decide, by decide⟩, ⟨by decide, by decide⟩, fun y3 H3 S3 t3 => ⟨(by show 1 ≤ sizeLine; decide), fun p4 g4 => ?_⟩⟩⟩⟩
  obtain ⟨S4, t4⟩ := tupN (K := K) g4 (trs1 t3)
  refine ⟨rfl, ?_⟩
  refine for_down (fun i σ' H' => ∃ v o, σ' = [some v, o] ∧ Same H H' ∧ TR K H' (.node (tSort i)) v) ?_ ?_ ?_
  · exact ⟨_, _, rfl, S1.trans (S2.trans (S3.trans S4)), t4⟩
  · rintro i σ' H' hi ⟨v, o, rfl, S, ht⟩
    dsimp only [gName]
    have hl1 : (tSort i).length = 1 := by cases i <;> rfl
    refine ⟨_, [5, 3], rfl, by decide +kernel, by decide +kernel, by decide +kernel, by decide, fun y5 H5 S5 t5 => ⟨_, rfl, nCat t5 (ht.mono (.of S5)) (small (by rw [hl1]; decide)) (fun y6 H6 S6 t6 => ?_)⟩⟩
    refine ⟨_, rfl, 7 - i, (by show [V.int (7 - (i : Int))] = _; rw [show (((7 - i : Nat) : Int)) = 7 - (i : Int) by omega]), by omega, fun y7 H7 S7 t7 => ?_⟩
    have bi := sort_B i (by omega)
    have bg := gone_B (7 - i) (by omega)
    refine ⟨_, _, _, _, rfl, t6.mono (.of S7), t7, bi, bg, fun y8 H8 S8 t8 => ⟨(by show 1 ≤ sizeLine; decide), fun p9 g9 => ?_⟩⟩
    obtain ⟨S9, t9⟩ := tupN (K := K) g9 (trs1 t8)
    exact ⟨_, _, rfl, S.trans (S5.trans (S6.trans (S7.trans (S8.trans S9)))), t9⟩
  · rintro σ' H' ⟨v, o, rfl, S, ht⟩
    exact ⟨_, rfl, q _ _ S ht⟩
theorem ok_stepped 
    {a_plains : Addr} {d_plains : FuncData} (F_plains : Fun K "plains" "plains" s_plains a_plains d_plains) (G_plains : FnOk P w K mg base CX0 35 a_plains d_plains ["names"] (spPlains K)) (b_plains : Binds K d_plains ["names"] []) (m_plains : mg "plains" = some (.ref a_plains))
    {a_by_sort : Addr} {d_by_sort : FuncData} (F_by_sort : Fun K "by_sort" "by_sort" s_by_sort a_by_sort d_by_sort) (G_by_sort : FnOk P w K mg base CX0 35 a_by_sort d_by_sort [] (spTxt K (tSort 8))) (b_by_sort : Binds K d_by_sort [] []) (m_by_sort : mg "by_sort" = some (.ref a_by_sort))
    {a_fork : Addr} {d_fork : FuncData} (F_fork : Fun K "fork" "fork" s_fork a_fork d_fork) (G_fork : FnOk P w K mg base CX0 35 a_fork d_fork ["yes", "no"] (spFork K)) (b_fork : Binds K d_fork ["yes", "no"] []) (m_fork : mg "fork" = some (.ref a_fork))
    (F : Fun K "stepped" "stepped" s_stepped f fd) : FnOk P w K mg base CX0 36 f fd [] (spTxt K tStep) := by
  refine okQ F sc_stepped (fun vs H Q E h => ?_) (fun cdv A outer s H vs Q E hr h => ?_)
  · obtain ⟨rfl, _⟩ := h
    rfl
  obtain ⟨rfl, q⟩ := h
  refine ⟨_, (qss_cons (qs_set (i := 0) sc_stepped.nd rfl (Or.inl rfl) (qe_op op_catTA (qe_call G_plains hr rfl m_plains F_plains.kp b_plains .nil pass0 (qa_cons qe_str qa_nil)) (qe_call0 G_by_sort hr rfl m_by_sort F_by_sort.kp b_by_sort .nil pass0)))
      (qss_cons (qs_set (i := 1) sc_stepped.nd rfl (Or.inl rfl) (qe_call G_plains hr rfl m_plains F_plains.kp b_plains .nil pass0 (qa_cons qe_str qa_nil)))
      (qss_one (qs_ret (qe_op op_catTA (qe_call G_plains hr rfl m_plains F_plains.kp b_plains .nil pass0 (qa_cons qe_str qa_nil)) (qe_tup (qa_cons (qe_call G_fork hr rfl m_fork F_fork.kp b_fork .nil pass0 (qa_cons (qv 0) (qa_cons (qv 1) qa_nil))) qa_nil))))))), ?_⟩
  refine ⟨_, [5, 5], rfl, by decide +kernel, by decide +kernel, by decide +kernel, by decide, fun y1 H1 S1 t1 => ⟨rfl, fun y2 H2 S2 t2 => nCat (t1.mono (.of S2)) t2 (small (by decide)) (fun y3 H3 S3 t3 => ?_)⟩⟩
  have S13 := S1.trans (S2.trans S3)
  refine ⟨_, [1], rfl, by decide +kernel, by decide +kernel, by decide +kernel, by decide, fun y4 H4 S4 t4 => ?_⟩
  refine ⟨_, [5], rfl, by decide +kernel, by decide +kernel, by decide +kernel, by decide, fun y5 H5 S5 t5 => ⟨_, rfl, _, rfl, _, _, _, _, rfl, t3.mono (.of (S4.trans S5)), t4.mono (.of S5), ⟨by decide +kernel, by decide +kernel⟩, ⟨by decide, by decide⟩, fun y6 H6 S6 t6 => ⟨(by show 1 ≤ sizeLine; decide), fun p7 g7 => ?_⟩⟩⟩
  obtain ⟨S7, t7⟩ := tupN (K := K) g7 (trs1 t6)
  exact nCat (t5.mono (.of (S6.trans S7))) t7 (small (by decide)) (fun y8 H8 S8 t8 => q _ _ (S13.trans (S4.trans (S5.trans (S6.trans (S7.trans S8))))) t8)
theorem ok_from_head 
    {a_loop : Addr} {d_loop : FuncData} (F_loop : Fun K "loop" "loop" s_loop a_loop d_loop) (G_loop : FnOk P w K mg base CX0 36 a_loop d_loop ["body"] (spLoop K)) (b_loop : Binds K d_loop ["body"] []) (m_loop : mg "loop" = some (.ref a_loop))
    {a_stepped : Addr} {d_stepped : FuncData} (F_stepped : Fun K "stepped" "stepped" s_stepped a_stepped d_stepped) (G_stepped : FnOk P w K mg base CX0 36 a_stepped d_stepped [] (spTxt K tStep)) (b_stepped : Binds K d_stepped [] []) (m_stepped : mg "stepped" = some (.ref a_stepped))
    {a_plains : Addr} {d_plains : FuncData} (F_plains : Fun K "plains" "plains" s_plains a_plains d_plains) (G_plains : FnOk P w K mg base CX0 36 a_plains d_plains ["names"] (spPlains K)) (b_plains : Binds K d_plains ["names"] []) (m_plains : mg "plains" = some (.ref a_plains))
    (F : Fun K "from_head" "from_head" s_from_head f fd) : FnOk P w K mg base CX0 37 f fd [] (spTxt K tHead) := by
  refine okQ F sc_from_head (fun vs H Q E h => ?_) (fun cdv A outer s H vs Q E hr h => ?_)
  · obtain ⟨rfl, _⟩ := h
    rfl
  obtain ⟨rfl, q⟩ := h
  refine ⟨_, (qss_one (qs_ret (qe_op op_catTA (qe_tup (qa_cons (qe_call G_loop hr rfl m_loop F_loop.kp b_loop .nil pass0 (qa_cons (qe_call0 G_stepped hr rfl m_stepped F_stepped.kp b_stepped .nil pass0) qa_nil)) qa_nil)) (qe_call G_plains hr rfl m_plains F_plains.kp b_plains .nil pass0 (qa_cons qe_str qa_nil))))), ?_⟩
  refine ⟨rfl, fun y1 H1 S1 t1 => ⟨_, _, rfl, t1, by decide +kernel, by decide +kernel, fun y2 H2 S2 t2 => ⟨(by show 1 ≤ sizeLine; decide), fun p3 g3 => ?_⟩⟩⟩
  obtain ⟨S3, t3⟩ := tupN (K := K) g3 (trs1 t2)
  refine ⟨_, [1, 5, 3, 1], rfl, by decide +kernel, by decide +kernel, by decide +kernel, by decide, fun y4 H4 S4 t4 => nCat (t3.mono (.of S4)) t4 (small (by decide)) (fun y5 H5 S5 t5 => q _ _ (S1.trans (S2.trans (S3.trans (S4.trans S5)))) t5)⟩
theorem ok_selfrunner 
    {a_opening : Addr} {d_opening : FuncData} (F_opening : Fun K "opening" "opening" s_opening a_opening d_opening) (G_opening : FnOk P w K mg base CX0 37 a_opening d_opening [] (spTxt K tOpen)) (b_opening : Binds K d_opening [] []) (m_opening : mg "opening" = some (.ref a_opening))
    {a_from_head : Addr} {d_from_head : FuncData} (F_from_head : Fun K "from_head" "from_head" s_from_head a_from_head d_from_head) (G_from_head : FnOk P w K mg base CX0 37 a_from_head d_from_head [] (spTxt K tHead)) (b_from_head : Binds K d_from_head [] []) (m_from_head : mg "from_head" = some (.ref a_from_head))
    (F : Fun K "selfrunner" "selfrunner" s_selfrunner f fd) : FnOk P w K mg base CX0 38 f fd [] (spTxt K tSelf) := by
  refine okQ F sc_selfrunner (fun vs H Q E h => ?_) (fun cdv A outer s H vs Q E hr h => ?_)
  · obtain ⟨rfl, _⟩ := h
    rfl
  obtain ⟨rfl, q⟩ := h
  refine ⟨_, (qss_one (qs_ret (qe_op op_catTA (qe_call0 G_opening hr rfl m_opening F_opening.kp b_opening .nil pass0) (qe_call0 G_from_head hr rfl m_from_head F_from_head.kp b_from_head .nil pass0)))), ?_⟩
  exact ⟨rfl, fun y1 H1 S1 t1 => ⟨rfl, fun y2 H2 S2 t2 => nCat (t1.mono (.of S2)) t2 (small (by decide)) (fun y3 H3 S3 t3 => q _ _ (S1.trans (S2.trans S3)) t3)⟩⟩
theorem ok_shown {u_WHILE : Value} (m_WHILE : mg "WHILE" = some u_WHILE) (r_WHILE : RelV (.int 8) u_WHILE) 
    {a_first : Addr} {d_first : FuncData} (F_first : Fun K "first" "first" s_first a_first d_first) (G_first : FnOk P w K mg base CX0 37 a_first d_first ["tree"] (spFirst K)) (b_first : Binds K d_first ["tree"] []) (m_first : mg "first" = some (.ref a_first))
    {a_from_head : Addr} {d_from_head : FuncData} (F_from_head : Fun K "from_head" "from_head" s_from_head a_from_head d_from_head) (G_from_head : FnOk P w K mg base CX0 37 a_from_head d_from_head [] (spTxt K tHead)) (b_from_head : Binds K d_from_head [] []) (m_from_head : mg "from_head" = some (.ref a_from_head))
    {a_sort_of : Addr} {d_sort_of : FuncData} (F_sort_of : Fun K "sort_of" "sort_of" s_sort_of a_sort_of d_sort_of) (G_sort_of : FnOk P w K mg base CX0 37 a_sort_of d_sort_of ["word"] (spSortL K)) (b_sort_of : Binds K d_sort_of ["word"] []) (m_sort_of : mg "sort_of" = some (.ref a_sort_of))
    (F : Fun K "shown" "shown" s_shown f fd) : FnOk P w K mg base CX0 38 f fd ["stand"] (spShown K) := by
  refine okQ F sc_shown (fun vs H Q E h => ?_) (fun cdv A outer s H vs Q E hr h => ?_)
  · obtain ⟨x, tx, sk, rfl, _⟩ := h
    rfl
  obtain ⟨x, tx, sk, rfl, hx, hd, q⟩ := h
  have hE := hr.un
  have hE : (A.deeper (envOfC "shown" (defScope s_shown) s.heap.objs.size f cdv)).units + 401 < cLine := by omega
  refine ⟨_, (qss_cons (qs_set (i := 1) sc_shown.nd rfl (Or.inl rfl) (qe_call G_first hr rfl m_first F_first.kp b_first .nil pass0 (qa_cons (qe_ix ix_tup (qv 0) qe_int (fun _ _ => rfl)) qa_nil)))
      (qss_cons (qs_if (QW.pt (qw_or (qt_cmpR op_ne (qe_call G_sort_of hr rfl m_sort_of F_sort_of.kp b_sort_of .nil pass0 (qa_cons (qe_call G_first hr rfl m_first F_first.kp b_first .nil pass0 (qa_cons (qv 1) qa_nil)) qa_nil)) (qe_glob (v := .int 8) rfl m_WHILE r_WHILE) (nomark _)) (qw_or1 (qt_cmpR (op_neTr hE) (qv 1) (qe_call0 G_from_head hr rfl m_from_head F_from_head.kp b_from_head .nil pass0) (nomark _))))) (qss_one (qs_ret qe_non)) qss_nil)
      (qss_one (qs_ret (qe_slice sl_tupA (qe_ix ix_tup (qv 0) qe_int (fun _ _ => rfl)) qo_none (qo_some qe_int)))))), ?_⟩
  refine ⟨_, rfl, nIxP hx 0 rfl (fun v1 t1 => ⟨v1, .node tx, rfl, t1, by omega, fun y1 H1 S1 t2 => ?_⟩)⟩
  have t2 : TR K H1 (ats tx 0) y1 := t2
  have hd0 := deep_ats tx
  refine ⟨_, rfl, y1, ats tx 0, rfl, t2, by omega, fun y3 H3 S3 t3 => ?_⟩
  have hd1 := deep_ats (ats tx 0).kids
  rw [kids_node] at hd1
  refine ⟨y3, _, rfl, t3, by omega, fun H4 S4 => ?_⟩
  have S14 := S1.trans (S3.trans S4)
  refine ⟨rfl, _, rfl, ?_⟩
  rcases q with ⟨hn, q⟩ | ⟨hh, q⟩
  · have hn : sortT (ats (ats tx 0).kids 0) ≠ 8 := hn
    rw [show (!decide (V.int ((sortT (ats (ats tx 0).kids 0) : Nat) : Int) = V.int 8)) = true by rw [decide_eq_false (fun z => hn (by have := V.int.inj z; omega))]; rfl]
    exact iteT (iteT (q _ S14))
  · rw [hh, show (!decide (V.int ((sortT (ats (T.node tHead).kids 0) : Nat) : Int) = V.int 8)) = false from rfl]
    refine iteF ⟨_, rfl, rfl, fun y5 H5 S5 t5 => ⟨ats tx 0, _, t2.mono (.of (S3.trans (S4.trans S5))), t5, by omega, _, rfl, ?_⟩⟩
    rw [hh, T.beq_self]
    refine iteF ?_
    refine ⟨_, rfl, nIxP (hx.mono (.of (S14.trans S5))) 1 rfl (fun v6 t6 => ⟨2, rfl, nTo t6 2 (fun y7 H7 S7 t7 => q _ _ (S14.trans (S5.trans S7)) t7)⟩)⟩
end
end Sw53

namespace Sw53
open PySem PySem.Spec PyProof.Rows L2 Sw
section
variable {P : Program} {w : World} {K : PySem.W.Frag} {mg : Str → Option Value} {base : Heap} {f : Addr} {fd : FuncData}

theorem t_andA {t u : TT} {σ : Sg} {H : Hp} {Q : Bool → Hp → Prop} {b1 b2 : Bool} (h1 : ∀ R : Bool → Hp → Prop, R b1 H → t σ H R) (h2 : b1 = true → ∀ R : Bool → Hp → Prop, R b2 H → u σ H R) (q : ∀ b, Q b H) : tAnd t u σ H Q := by
  refine h1 _ ?_
  cases b1 with
  | false => exact iteF (q false)
  | true => exact iteT (h2 rfl _ (q b2))
theorem t_orA {t u : TT} {σ : Sg} {H : Hp} {Q : Bool → Hp → Prop} {b1 b2 : Bool} (h1 : ∀ R : Bool → Hp → Prop, R b1 H → t σ H R) (h2 : ∀ R : Bool → Hp → Prop, R b2 H → u σ H R) (q : ∀ b, Q b H) : tOr t u σ H Q := by
  refine h1 _ ?_
  cases b1 with
  | true => exact iteT (q true)
  | false => exact iteF (h2 _ (q b2))
theorem ok__law_deck (m_len : mg "len" = none) (m_range : mg "range" = none) (m_min : mg "min" = none) 
    (F : Fun K "_law_deck" "_law_deck" s__law_deck f fd) : FnOk P w K mg base CX0 32 f fd ["_law_script"] (spDeck K) := by
  refine okQ F sc__law_deck (fun vs H Q E h => ?_) (fun cdv A outer s H vs Q E hr h => ?_)
  · obtain ⟨a, ns, rfl, _⟩ := h
    rfl
  obtain ⟨a, ns, rfl, hl, h63, q⟩ := h
  refine ⟨_, (qss_cons (qs_set (i := 1) sc__law_deck.nd rfl (Or.inl rfl) (qe_lst qa_nil))
      (qss_cons (qs_if (QW.pt (qw_and (qt_cmpR op_gt (qe_callB call_len_seq rfl m_len bt_len (qa_cons (qv 0) qa_nil)) qe_int (nomark _)) (qw_and1 (qt_cmpR op_eq (qe_op op_mod (qe_ix ix_list (qv 0) qe_int (fun _ _ => rfl)) qe_int) qe_int (nomark _))))) (qss_cons (qs_for PassesOwn.never rfl (qi_list (qe_slice sl_list (qv 0) (qo_some qe_int) (qo_some qe_int))) (qg_name (i := 2) sc__law_deck.nd rfl (Or.inl rfl)) (qss_cons (qs_set (i := 3) sc__law_deck.nd rfl (Or.inl rfl) (qe_op op_mod (qv 2) (qe_op op_pow qe_int qe_int)))
      (qss_one (qs_for PassesOwn.never rfl (qi_range1 rfl m_range (qa_cons qe_int qa_nil)) (qg_name (i := 4) sc__law_deck.nd rfl (Or.inl rfl)) (qss_one (qs_if (QW.pt (qw_or (qt_cmpR op_eq (qv 4) qe_int (nomark _)) (qw_or1 (qt_cmpR op_gt (qv 3) qe_int (nomark _))))) (qss_cons (qs_expr (qe_bm PySem.F.plainAttrs_list PySem.F.slot_list_append PySem.F.type_list_append mt_append (qv 1) (qa_cons (qe_op op_mod (qv 3) qe_int) qa_nil)))
      (qss_one (qs_set (i := 3) sc__law_deck.nd rfl (Or.inl rfl) (qe_op op_fdivL (qv 3) qe_int)))) qss_nil))))))
      (qss_one (qs_ret (qe_slice sl_list (qv 1) qo_none (qo_some qe_int))))) qss_nil)
      (qss_cons (qs_for PassesOwn.never rfl (qi_range1 rfl m_range (qa_cons qe_int qa_nil)) (qg_name (i := 4) sc__law_deck.nd rfl (Or.inl rfl)) (qss_cons (qs_set (i := 2) sc__law_deck.nd rfl (Or.inl rfl) (qe_op op_mul qe_int (qv 4)))
      (qss_cons (qs_if (qt_cmpR op_gt (qe_callB call_len_seq rfl m_len bt_len (qa_cons (qv 0) qa_nil)) qe_int (nomark _)) (qss_one (qs_set (i := 2) sc__law_deck.nd rfl (Or.inl rfl) (qe_op op_mod (qe_ix ix_list (qv 0) (qe_op op_mod (qv 4) (qe_callB (call_min2 rfl) rfl m_min bt_min (qa_cons qe_int (qa_cons (qe_callB call_len_seq rfl m_len bt_len (qa_cons (qv 0) qa_nil)) qa_nil)))) (fun _ _ => rfl)) qe_int))) qss_nil)
      (qss_cons (qs_set (i := 3) sc__law_deck.nd rfl (Or.inl rfl) (qe_op op_mod (qe_op op_add (qe_op op_add (qe_op op_mul (qv 2) qe_int) (qe_op op_mul qe_int (qv 4))) qe_int) qe_int))
      (qss_cons (qs_set (i := 3) sc__law_deck.nd rfl (Or.inl rfl) (qe_op op_mod (qe_op op_add (qe_op op_mul (qv 3) (qe_op op_add (qe_op op_fdiv (qv 3) qe_int) (qv 4))) (qe_op op_mul qe_int (qv 4))) qe_int))
      (qss_one (qs_expr (qe_bm PySem.F.plainAttrs_list PySem.F.slot_list_append PySem.F.type_list_append mt_append (qv 1) (qa_cons (qe_op op_mod (qe_op op_add (qe_op op_mul (qv 3) qe_int) (qe_op op_fdiv (qv 3) qe_int)) qe_int) qa_nil)))))))))
      (qss_one (qs_ret (qv 1)))))), ?_⟩
  have big : (2 ^ 64 : Int) = 18446744073709551616 := by decide
  refine ⟨Nat.zero_le _, fun p1 g1 => ?_⟩
  have S1 := same_new g1 (.lst [])
  have hl1 := S1.seq hl
  have hlen : (ns.map V.int).length = ns.length := List.length_map ..
  dsimp only [tNext, tSeq, tIfS]
  refine t_andA (b1 := decide ((1 : Int) < ((ns.map V.int).length : Int))) (b2 := decide (V.int ((ns.getD 0 0) % 2) = V.int 1)) (fun R r => ⟨_, rfl, a, _, rfl, .inl hl1, _, _, rfl, rfl, _, rfl, r⟩) (fun h2 R r => ?_) (fun bb => ite2 (fun _ => ?_) (fun _ => ?_))
  · have h3 : 1 < ns.length := by have := of_decide_eq_true h2; rw [hlen] at this; omega
    have e0 : atI (ns.map V.int) 0 = some (.int (ns.getD 0 0)) := atI_nat (j := 0) (by rw [List.getElem?_map, List.getElem?_eq_getElem (by omega), List.getD_eq_getElem?_getD, List.getElem?_eq_getElem (by omega)]; rfl)
    exact ⟨_, rfl, a, _, _, _, rfl, rfl, hl1, e0, _, _, rfl, rfl, (by show (0 : Int) < 2; decide), rfl, _, rfl, r⟩
  · refine ⟨_, rfl, 1, rfl, 63, rfl, a, _, rfl, hl1, fun p2 g2 => ?_⟩
    obtain ⟨k, ek⟩ := cut_mid (ns.map V.int) 1 63
    have ek' : cutV (ns.map V.int) (some 1) (some 63) = ((ns.map V.int).drop (min 1 (ns.map V.int).length)).take k := ek
    have hint : ∀ x ∈ cutV (ns.map V.int) (some 1) (some 63), ∃ z, x = .int z := fun x hx => by
      rw [ek'] at hx
      have hx := List.mem_of_mem_drop (List.mem_of_mem_take hx)
      obtain ⟨z, _, rfl⟩ := List.mem_map.mp hx
      exact ⟨z, rfl⟩
    have hclen : (cutV (ns.map V.int) (some 1) (some 63)).length ≤ 63 := by
      rw [ek', List.length_take, List.length_drop, hlen]
      omega
    have n12 : p2 ≠ p1 := fun z => by rw [z, upd_same] at g2; cases g2
    have gH1 : H p1 = none := g1
    generalize cutV (ns.map V.int) (some 1) (some 63) = cs at hint hclen
    refine ⟨p2, rfl, ⟨_, SqL.of upd_same⟩, ?_⟩
    refine for_list (xs := cs) (fun i σ' H' => ∃ (ds : List Int) (o2 o3 o4 : Option V), σ' = [some (.ref a), some (.ref p1), o2, o3, o4] ∧ Same H H' ∧ H' p1 = some (.lst (ds.map V.int)) ∧ H' p2 = some (.lst cs) ∧ ds.length ≤ 60 * i) ?_ ?_ ?_ ?_
    · exact ⟨[], _, _, _, rfl, S1.trans (same_new g2 _), by rw [upd_ne n12.symm]; exact upd_same, upd_same, Nat.zero_le _⟩
    · rintro i σ' H' _ ⟨ds, o2, o3, o4, rfl, S, h1, h2, _⟩
      exact SqL.of h2
    · rintro i x σ' H' hx ⟨ds, o2, o3, o4, rfl, S, h1, h2, hd⟩
      obtain ⟨z, rfl⟩ := hint x (List.mem_of_getElem? hx)
      have hi : i < cs.length := (List.getElem?_eq_some_iff.mp hx).1
      refine ⟨_, rfl, _, _, rfl, rfl, ⟨by decide, by decide, by decide⟩, _, _, rfl, rfl, (by show (0 : Int) < 2147483647 ^ 60; decide), ?_⟩
      refine ⟨60, rfl, by decide, by decide, ?_⟩
      refine for_range (n := 60) (fun j σ'' H'' => ∃ (es : List Int) (m : Int) (o4 : Option V), σ'' = [some (.ref a), some (.ref p1), some (.int z), some (.int m), o4] ∧ Same H H'' ∧ H'' p1 = some (.lst (es.map V.int)) ∧ H'' p2 = some (.lst cs) ∧ es.length ≤ 60 * i + j) ?_ ?_ ?_
      · exact ⟨ds, _, _, rfl, S, h1, h2, hd⟩
      · rintro j σ'' H'' hj ⟨es, m, o5, rfl, S', h1', h2', he⟩
        dsimp only [gName, tNext, tSeq, tIfS]
        refine t_orA (fun R r => ⟨_, rfl, rfl, _, rfl, r⟩) (fun R r => ⟨_, rfl, _, _, rfl, rfl, _, rfl, r⟩) (fun bb => ite2 (fun _ => ?_) (fun _ => ?_))
        · refine ⟨_, rfl, .inl ⟨rfl, _, SqL.of h1'⟩, _, rfl, _, _, rfl, rfl, (by show (0 : Int) < 2147483647; decide), p1, _, _, rfl, rfl, h1', smallL (by rw [List.length_map]; omega), ?_⟩
          refine ⟨_, rfl, _, _, rfl, rfl, ⟨by decide, by decide +kernel⟩, es ++ [m % 2147483647], _, _, rfl, same_upd S' gH1, by rw [upd_same, List.map_append]; rfl, by rw [upd_ne n12]; exact h2', by rw [List.length_append]; show es.length + 1 ≤ _; omega⟩
        · exact ⟨es, m, _, rfl, S', h1', h2', by omega⟩
      · rintro σ'' H'' ⟨es, m, o5, rfl, S', h1', h2', he⟩
        exact ⟨es, _, _, _, rfl, S', h1', h2', by omega⟩
    · rintro σ' H' ⟨ds, o2, o3, o4, rfl, S, h1, h2, hd⟩
      refine ⟨_, rfl, 160, rfl, p1, _, rfl, SqL.of h1, fun p3 g3 => q p3 _ (S.trans (same_new g3 _)) (S.free g3) ⟨ds.take 160, ?_⟩⟩
      rw [upd_same, show (some (160 : Int)) = some ((160 : Nat) : Int) from rfl, cut_to, List.map_take]
  · have gH1 : H p1 = none := g1
    dsimp only [tNext]
    refine ⟨160, rfl, by decide, by decide, ?_⟩
    refine for_range (n := 160) (fun i σ' H' => ∃ (ds : List Int) (o2 o3 o4 : Option V), σ' = [some (.ref a), some (.ref p1), o2, o3, o4] ∧ Same H H' ∧ H' p1 = some (.lst (ds.map V.int)) ∧ ds.length = i) ?_ ?_ ?_
    · exact ⟨[], _, _, _, rfl, S1, upd_same, rfl⟩
    · rintro i σ' H' hi ⟨ds, o2, o3, o4, rfl, S, h1, hd⟩
      have hi2 : (0 : Int) + (i : Int) < 160 := by omega
      have hlH := S.seq hl
      refine setQ (fun v => [some (.ref a), some (.ref p1), some v, o3, some (.int (0 + (i : Int)))]) (fun _ => rfl) (fun v H'' => v = .int (3 * (0 + (i : Int))) ∧ H'' = H') (fun R r => ⟨_, rfl, _, _, rfl, rfl, .inl ⟨by decide, by decide⟩, r _ _ ⟨rfl, rfl⟩⟩) (fun v2 H2 h2 => ?_)
      obtain ⟨rfl, rfl⟩ := h2
      refine ifSetQ (fun v => [some (.ref a), some (.ref p1), some v, o3, some (.int (0 + (i : Int)))]) (fun _ => rfl) (fun v H'' => ∃ z : Int, v = .int z ∧ 0 ≤ z ∧ z < 2147483647 ∧ H'' = H2) (.int (3 * (0 + (i : Int)))) rfl (fun v3 H3 h3 => ?_) (fun A B' hA hB => ⟨_, rfl, a, _, rfl, .inl hlH, _, _, rfl, rfl, _, rfl, ite2 (fun hb => hA _ fun R r => ?_) (fun _ => hB _ ⟨_, rfl, by omega, by omega, rfl⟩)⟩)
      rotate_left
      · have hpos : 0 < ns.length := by have := of_decide_eq_true hb; rw [hlen] at this; omega
        have hmn : (0 : Int) < (if ((ns.map V.int).length : Int) < 63 then ((ns.map V.int).length : Int) else 63) := by rw [hlen]; split <;> omega
        have hmx : (if ((ns.map V.int).length : Int) < 63 then ((ns.map V.int).length : Int) else 63) ≤ (ns.length : Int) := by rw [hlen]; split <;> omega
        refine ⟨_, rfl, _, rfl, _, rfl, a, _, rfl, .inl hlH, _, _, rfl, ?_⟩
        generalize (if ((ns.map V.int).length : Int) < 63 then ((ns.map V.int).length : Int) else 63) = mm at hmn hmx ⊢
        refine ⟨_, _, rfl, rfl, hmn, ?_⟩
        have j0 : 0 ≤ (0 + (i : Int)) % mm := Int.emod_nonneg _ (by omega)
        have j1 : (0 + (i : Int)) % mm < mm := Int.emod_lt_of_pos _ hmn
        obtain ⟨z, _, ez⟩ := at_mem (ns := ns) (k := (0 + (i : Int)) % mm) j0 (by omega)
        exact ⟨a, _, _, _, rfl, rfl, hlH, ez, _, _, rfl, rfl, (by show (0 : Int) < 2147483629; decide), r _ _ ⟨_, rfl, Int.emod_nonneg _ (by decide), Int.lt_trans (Int.emod_lt_of_pos _ (by decide)) (by decide), rfl⟩⟩
      obtain ⟨z, rfl, z0, z1, rfl⟩ := h3
      refine setQ (fun v => [some (.ref a), some (.ref p1), some (.int z), some v, some (.int (0 + (i : Int)))]) (fun _ => rfl) (fun v H'' => ∃ m : Int, v = .int m ∧ 0 ≤ m ∧ m < 2147483647 ∧ H'' = H3) (fun R r => ⟨_, rfl, _, _, rfl, rfl, .inl ⟨by omega, by omega⟩, _, rfl, _, _, rfl, rfl, .inl ⟨by decide, by decide⟩, _, _, rfl, rfl, _, _, rfl, rfl, _, _, rfl, rfl, (by show (0 : Int) < 2147483629; decide), r _ _ ⟨_, rfl, Int.emod_nonneg _ (by decide), Int.lt_trans (Int.emod_lt_of_pos _ (by decide)) (by decide), rfl⟩⟩) (fun v4 H4 h4 => ?_)
      obtain ⟨m4, rfl, m0, m1, rfl⟩ := h4
      refine setQ (fun v => [some (.ref a), some (.ref p1), some (.int z), some v, some (.int (0 + (i : Int)))]) (fun _ => rfl) (fun v H'' => ∃ m : Int, v = .int m ∧ 0 ≤ m ∧ m < 2147483647 ∧ H'' = H4) (fun R r => ⟨_, rfl, _, rfl, _, _, rfl, rfl, ⟨by decide, by decide⟩, _, rfl, _, _, rfl, rfl, _, _, rfl, rfl, .inl ⟨by omega, by omega⟩, _, rfl, _, _, rfl, rfl, .inl ⟨by decide, by decide⟩, _, _, rfl, rfl, _, _, rfl, rfl, (by show (0 : Int) < 2147483587; decide), r _ _ ⟨_, rfl, Int.emod_nonneg _ (by decide), Int.lt_trans (Int.emod_lt_of_pos _ (by decide)) (by decide), rfl⟩⟩) (fun v5 H5 h5 => ?_)
      obtain ⟨m5, rfl, n0, n1, rfl⟩ := h5
      refine ⟨_, rfl, .inl ⟨rfl, _, SqL.of h1⟩, _, rfl, _, _, rfl, rfl, .inl ⟨by omega, by omega⟩, _, rfl, _, _, rfl, rfl, ⟨by decide, by decide⟩, _, _, rfl, rfl, _, _, rfl, rfl, (by show (0 : Int) < 2147483647; decide), p1, _, _, rfl, rfl, h1, smallL (by rw [List.length_map]; omega), ?_⟩
      exact ⟨ds ++ [(m5 * 69621 + m5 / 127) % 2147483647], _, _, _, rfl, same_upd S gH1, by rw [upd_same, List.map_append]; rfl, by rw [List.length_append, hd]; rfl⟩
    · rintro σ' H' ⟨ds, o2, o3, o4, rfl, S, h1, hd⟩
      exact ⟨_, rfl, q p1 H' S gH1 ⟨ds, h1⟩⟩
theorem ok__law_next (m_len : mg "len" = none) 
    (F : Fun K "_law_next" "_law_next" s__law_next f fd) : FnOk P w K mg base CX0 31 f fd ["_law_deck_here", "_law_many"] spNext := by
  refine okQ F sc__law_next (fun vs H Q E h => ?_) (fun cdv A outer s H vs Q E hr h => ?_)
  · obtain ⟨p, m, rfl, _⟩ := h
    rfl
  obtain ⟨p, m, rfl, hm, hd, q⟩ := h
  refine ⟨_, (qss_cons (qs_if (qt_cmpR op_eq (qe_callB call_len_seq rfl m_len bt_len (qa_cons (qv 0) qa_nil)) qe_int (nomark _)) (qss_one (qs_ret qe_int)) qss_nil)
      (qss_one (qs_ret (qe_op op_mod (qe_bm PySem.F.plainAttrs_list PySem.F.slot_list_pop PySem.F.type_list_pop mt_popAt (qv 0) (qa_cons qe_int qa_nil)) (qv 1))))), ?_⟩
  obtain ⟨ns, hp⟩ := hd
  refine ⟨_, rfl, p, _, rfl, .inl (SqL.of hp), rfl, _, rfl, ?_⟩
  refine ite2 (fun _ => ?_) (fun hb => ?_)
  · exact q 0 H (by omega) hm (Dr.refl ⟨ns, hp⟩)
  · cases ns with
    | nil => exact absurd (decide_eq_true rfl) hb
    | cons n ns =>
      refine ⟨_, rfl, .inl ⟨rfl, _, SqL.of hp⟩, p, _, 0, 0, _, rfl, rfl, hp, by decide, by decide, ?_, rfl, ?_⟩
      · rw [seqIndex_of (by decide) (by rw [List.length_map, List.length_cons]; omega)]
        rfl
      · refine ⟨_, rfl, _, _, rfl, rfl, hm, q _ _ (Int.emod_nonneg _ (by omega)) (Int.emod_lt_of_pos _ hm) ⟨fun b o nb e => ?_, ⟨ns, ?_⟩⟩⟩
        · rw [upd_ne nb]; exact e
        · rw [upd_same]; rfl

/-! ### _law_tree -/
theorem okN_tree (m_tuple : mg "tuple" = none) (m_range : mg "range" = none) 
    {a__law_next : Addr} {d__law_next : FuncData} (F__law_next : Fun K "_law_next" "_law_next" s__law_next a__law_next d__law_next) (G0__law_next : FnOk P w K mg base CX0 31 a__law_next d__law_next ["_law_deck_here", "_law_many"] spNext) (b__law_next : Binds K d__law_next ["_law_deck_here", "_law_many"] []) (m__law_next : mg "_law_next" = some (.ref a__law_next))
    {a_t : Addr} {d_t : FuncData} (F__law_tree : Fun K "_law_tree" "_law_tree" s__law_tree a_t d_t) (b__law_tree : Binds K d_t ["_law_deck_here", "_law_deep"] []) (m__law_tree : mg "_law_tree" = some (.ref a_t)) :
    ∀ n : Nat, FnOk P w K mg base CX0 (32 + n) a_t d_t ["_law_deck_here", "_law_deep"] (spTree K n) := by
  intro n
  induction n with
  | zero =>
    refine okQ (k := 31) F__law_tree sc__law_tree (fun vs H Q E h => ?_) (fun cdv A outer s H vs Q E hr h => ?_)
    · obtain ⟨p, d, rfl, _⟩ := h
      rfl
    obtain ⟨p, d, rfl, hd, hk, q⟩ := h
    refine ⟨_, qss_cons (qs_if (qt_cmpR op_eq (qv 1) qe_int (nomark _)) (qss_one (qs_ret (qe_tup qa_nil))) qss_nil) (qss_one qs_never), ?_⟩
    have e : d = 0 := by omega
    subst e
    refine ⟨_, rfl, rfl, _, rfl, ite2 (fun _ => ⟨Nat.zero_le _, fun p1 hp1 => ?_⟩) (fun hb => absurd (decide_eq_true rfl) hb)⟩
    exact q _ _ _ ((Dr.refl hk).same (same_new hp1 _)) (leaf_tr upd_same) ⟨by rw [T.deep_node, T.deepL_nil]; omega, by rw [T.parts_node, T.partsL_nil]; decide⟩
  | succ n ih =>
    have G__law_tree := ih
    have G__law_next := G0__law_next.mono (show 31 ≤ 32 + n by omega)
    refine okQ (k := 32 + n) F__law_tree sc__law_tree (fun vs H Q E h => ?_) (fun cdv A outer s H vs Q E hr h => ?_)
    · obtain ⟨p, d, rfl, _⟩ := h
      rfl
    obtain ⟨p, d, rfl, hd, hk, q⟩ := h
    refine ⟨_, (qss_cons (qs_if (qt_cmpR op_eq (qv 1) qe_int (nomark _)) (qss_one (qs_ret (qe_tup qa_nil))) qss_nil)
      (qss_one (qs_ret (qe_callTy call_tuple_of rfl m_tuple bt_tuple (qa_cons (qe_lc rfl (lc_free (fr := ["_law_deck_here", "_law_deep"]) (js := [0, 1]) (sc := defScope s__law_tree) rfl rfl rfl (by decide +kernel) (by decide +kernel) (by decide +kernel) (by decide +kernel) (by exact ⟨⟨rfl, rfl, rfl⟩, ⟨⟨rfl, rfl, rfl⟩, trivial⟩⟩) (by decide +kernel) (fun y hy => cell_has hy)) (qi_range1 rfl m_range (qa_cons (qe_call G__law_next hr rfl m__law_next F__law_next.kp b__law_next .nil pass0 (qa_cons (qv 0) (qa_cons qe_int qa_nil))) qa_nil)) (fun _ _ _ _ _ => (qe_call G__law_tree hr rfl m__law_tree F__law_tree.kp b__law_tree .nil pass0 (qa_cons (qv 1) (qa_cons (qe_op op_sub (qv 2) qe_int) qa_nil))))) qa_nil))))), ?_⟩
    refine ⟨_, rfl, rfl, _, rfl, ite2 (fun hb => ?_) (fun hb => ?_)⟩
    · have e : d = 0 := by
        have := of_decide_eq_true hb
        have := V.int.inj this
        omega
      subst e
      refine ⟨Nat.zero_le _, fun p1 hp1 => ?_⟩
      exact q _ _ _ ((Dr.refl hk).same (same_new hp1 _)) (leaf_tr upd_same) ⟨by rw [T.deep_node, T.deepL_nil]; omega, by rw [T.parts_node, T.partsL_nil]; decide⟩
    · have hd0 : d ≠ 0 := fun z => hb (by subst z; exact decide_eq_true rfl)
      obtain ⟨e, rfl⟩ : ∃ e, d = e + 1 := ⟨d - 1, by omega⟩
      refine ⟨_, rfl, p, 4, rfl, by decide, hk, fun m H1 hm0 hm1 D1 => ?_⟩
      refine ⟨m, rfl, by omega, by omega, ?_⟩
      have hk1 := D1.deck
      refine lc_rangeI (fun D i ys H' => D ≠ p ∧ H1 D = none ∧ Dr p H1 H' ∧ H' D = some (.lst ys) ∧ ys.length = i ∧ ∃ ts, TRs K H' ts ys ∧ ∀ t ∈ ts, ShT e t) (small (by omega)) (fun D hD => ?_) (fun D i ys H' j => ⟨j.2.2.2.1, j.2.2.2.2.1⟩) (fun D i ys H' R hi j hR => ?_) (fun D ys H' j => ?_)
      · have hne : D ≠ p := fun z => by
          obtain ⟨ns, e1⟩ := hk1
          rw [z, e1] at hD; cases hD
        exact ⟨hne, hD, (Dr.refl hk1).upd hD hne, upd_same, rfl, [], TRs_nil.mpr rfl, fun _ h => by simp at h⟩
      · obtain ⟨hne, hD, Dh, h1, hl, ts, htr, hsh⟩ := j
        refine ⟨_, rfl, _, rfl, _, _, rfl, rfl, p, e, (by show [V.ref p, V.int (((e + 1 : Nat) : Int) - 1)] = _; rw [show ((e + 1 : Nat) : Int) - 1 = (e : Int) by omega]), by omega, Dh.deck, fun y t H3 D3 ht hs => ?_⟩
        have h3 := D3.keep D _ hne h1
        refine hR y H3 h3 ⟨hne, hD, (Dh.trans D3).upd hD hne, upd_same, by rw [List.length_append, hl]; rfl, ts ++ [t], ?_, fun u hu => ?_⟩
        · exact TRs.append ((htr.mono (D3.kt Dh.deck)).mono (Kt.lst h3)) (TRs_cons.mpr ⟨y, [], rfl, ht.mono (Kt.lst h3), TRs_nil.mpr rfl⟩)
        · rcases List.mem_append.mp hu with z | z
          · exact hsh u z
          · rw [List.mem_singleton.mp z]; exact hs
      · obtain ⟨hne, hD, Dh, h1, hl, ts, htr, hsh⟩ := j
        refine ⟨D, ys, rfl, .inl ⟨SqL.of h1, fun p5 hp5 => ?_⟩⟩
        have hlt : ts.length ≤ 3 := by rw [← htr.length, hl]; omega
        refine q _ (.node ts) _ ((D1.trans Dh).same (same_new hp5 _)) (TR_mk (SqT.of upd_same) (htr.mono (Kt.new hp5))) ⟨?_, ?_⟩
        · rw [T.deep_node]
          exact T.deepL_le_of fun u hu => by have := (hsh u hu).1; omega
        · rw [T.parts_node]
          have := partsL_le (b := pbT e) hlt fun u hu => (hsh u hu).2
          show _ ≤ 1 + 3 * pbT e
          omega
theorem ok__law_load 
    {a__law_next : Addr} {d__law_next : FuncData} (F__law_next : Fun K "_law_next" "_law_next" s__law_next a__law_next d__law_next) (G__law_next : FnOk P w K mg base CX0 35 a__law_next d__law_next ["_law_deck_here", "_law_many"] spNext) (b__law_next : Binds K d__law_next ["_law_deck_here", "_law_many"] []) (m__law_next : mg "_law_next" = some (.ref a__law_next))
    {a__law_tree : Addr} {d__law_tree : FuncData} (F__law_tree : Fun K "_law_tree" "_law_tree" s__law_tree a__law_tree d__law_tree) (G__law_tree : FnOk P w K mg base CX0 35 a__law_tree d__law_tree ["_law_deck_here", "_law_deep"] (spTree K 3)) (b__law_tree : Binds K d__law_tree ["_law_deck_here", "_law_deep"] []) (m__law_tree : mg "_law_tree" = some (.ref a__law_tree))
    (F : Fun K "_law_load" "_law_load" s__law_load f fd) : FnOk P w K mg base CX0 36 f fd ["_law_deck_here"] (spLoad5 K) := by
  refine okQ F sc__law_load (fun vs H Q E h => ?_) (fun cdv A outer s H vs Q E hr h => ?_)
  · obtain ⟨p, rfl, _⟩ := h
    rfl
  obtain ⟨p, rfl, hk, q⟩ := h
  refine ⟨_, (qss_cons (qs_if (qt_cmpR op_eq (qe_call G__law_next hr rfl m__law_next F__law_next.kp b__law_next .nil pass0 (qa_cons (qv 0) (qa_cons qe_int qa_nil))) qe_int (nomark _)) (qss_one (qs_ret (qe_call G__law_tree hr rfl m__law_tree F__law_tree.kp b__law_tree .nil pass0 (qa_cons (qv 0) (qa_cons qe_int qa_nil))))) qss_nil)
      (qss_one (qs_ret (qe_tup qa_nil)))), ?_⟩
  refine ⟨_, rfl, p, 4, rfl, by decide, hk, fun m H1 h0 h1 D1 => ⟨rfl, _, rfl, ite2 (fun _ => ⟨_, rfl, p, 2, rfl, by decide, D1.deck, fun y t H2 D2 ht hs => q _ _ _ (D1.trans D2) ht hs⟩) (fun _ => ⟨Nat.zero_le _, fun p1 hp1 => ?_⟩)⟩⟩
  exact q _ _ _ (D1.same (same_new hp1 _)) (leaf_tr upd_same) ⟨by rw [T.deep_node, T.deepL_nil]; omega, by rw [T.parts_node, T.partsL_nil]; decide⟩

theorem okN_wt (m_range : mg "range" = none) (m_tuple : mg "tuple" = none) (m_int : mg "int" = none) 
    {a__law_next : Addr} {d__law_next : FuncData} (F__law_next : Fun K "_law_next" "_law_next" s__law_next a__law_next d__law_next) (G0__law_next : FnOk P w K mg base CX0 31 a__law_next d__law_next ["_law_deck_here", "_law_many"] spNext) (b__law_next : Binds K d__law_next ["_law_deck_here", "_law_many"] []) (m__law_next : mg "_law_next" = some (.ref a__law_next))
    {a__law_tree : Addr} {d__law_tree : FuncData} (F__law_tree : Fun K "_law_tree" "_law_tree" s__law_tree a__law_tree d__law_tree) (G0__law_tree : FnOk P w K mg base CX0 36 a__law_tree d__law_tree ["_law_deck_here", "_law_deep"] (spTree K 3)) (b__law_tree : Binds K d__law_tree ["_law_deck_here", "_law_deep"] []) (m__law_tree : mg "_law_tree" = some (.ref a__law_tree))
    {a__law_load : Addr} {d__law_load : FuncData} (F__law_load : Fun K "_law_load" "_law_load" s__law_load a__law_load d__law_load) (G0__law_load : FnOk P w K mg base CX0 36 a__law_load d__law_load ["_law_deck_here"] (spLoad5 K)) (b__law_load : Binds K d__law_load ["_law_deck_here"] []) (m__law_load : mg "_law_load" = some (.ref a__law_load))
    {a_w : Addr} {d_w : FuncData} (F__law_word : Fun K "_law_word" "_law_word" s__law_word a_w d_w) (b__law_word : Binds K d_w ["_law_deck_here", "_law_deep"] []) (m__law_word : mg "_law_word" = some (.ref a_w))
    {a_x : Addr} {d_x : FuncData} (F__law_text : Fun K "_law_text" "_law_text" s__law_text a_x d_x) (b__law_text : Binds K d_x ["_law_deck_here", "_law_deep", "_law_many"] []) (m__law_text : mg "_law_text" = some (.ref a_x)) :
    ∀ n : Nat, n ≤ 3 → FnOk P w K mg base CX0 (2 * n + 36) a_w d_w ["_law_deck_here", "_law_deep"] (spWord5 K n) ∧ FnOk P w K mg base CX0 (2 * n + 37) a_x d_x ["_law_deck_here", "_law_deep", "_law_many"] (spText5 K n) := by
  intro n
  induction n with
  | zero =>
    intro _
    refine ⟨okQ (k := 35) F__law_word sc__law_word (fun vs H Q E h => ?_) (fun cdv A outer s H vs Q E hr h => ?_), okQ (k := 36) F__law_text sc__law_text (fun vs H Q E h => ?_) (fun cdv A outer s H vs Q E hr h => ?_)⟩
    · obtain ⟨p, d, rfl, _⟩ := h; rfl
    · obtain ⟨p, d, rfl, hd, _⟩ := h; exact absurd hd (Nat.not_lt_zero _)
    · obtain ⟨p, d, m, rfl, _⟩ := h; rfl
    · obtain ⟨p, d, m, rfl, hd, _⟩ := h; exact absurd hd (Nat.not_lt_zero _)
  | succ n ih =>
    intro hn4
    obtain ⟨_, G__law_text⟩ := ih (by omega)
    have p2 : pbT 2 = 13 := rfl
    have p3 : pbT 3 = 40 := rfl
    have wd : FnOk P w K mg base CX0 (2 * n + 38) a_w d_w ["_law_deck_here", "_law_deep"] (spWord5 K (n + 1)) := by
      have G__law_next := G0__law_next.mono (show 31 ≤ 2 * n + 37 by omega)
      have G__law_tree := G0__law_tree.mono (show 36 ≤ 2 * n + 37 by omega)
      have G__law_load := G0__law_load.mono (show 36 ≤ 2 * n + 37 by omega)
      refine okQ (k := 2 * n + 37) F__law_word sc__law_word (fun vs H Q E h => ?_) (fun cdv A outer s H vs Q E hr h => ?_)
      · obtain ⟨p, d, rfl, _⟩ := h; rfl
      obtain ⟨p, d, rfl, hd, hk, q⟩ := h
      refine ⟨_, (qss_cons (qs_set (i := 2) sc__law_word.nd rfl (Or.inl rfl) (qe_call G__law_next hr rfl m__law_next F__law_next.kp b__law_next .nil pass0 (qa_cons (qv 0) (qa_cons qe_int qa_nil))))
      (qss_cons (qs_if (qt_cmpR op_eq (qv 2) qe_int (nomark _)) (qss_one (qs_ret (qe_call G__law_tree hr rfl m__law_tree F__law_tree.kp b__law_tree .nil pass0 (qa_cons (qv 0) (qa_cons qe_int qa_nil))))) qss_nil)
      (qss_cons (qs_set (i := 3) sc__law_word.nd rfl (Or.inl rfl) (qe_ix ix_list (qe_lst (qa_cons qe_int (qa_cons qe_int (qa_cons qe_int (qa_cons qe_int (qa_cons qe_int (qa_cons qe_int (qa_cons qe_int (qa_cons qe_int (qa_cons qe_int (qa_cons qe_int (qa_cons qe_int (qa_cons qe_int (qa_cons qe_int qa_nil)))))))))))))) (qv 2) (fun _ _ => rfl)))
      (qss_cons (qs_set (i := 4) sc__law_word.nd rfl (Or.inl rfl) (qe_op op_repTA (qe_tup (qa_cons (qe_tup qa_nil) qa_nil)) (qe_op op_add (qv 3) (qe_op op_mul (qe_callTy call_int1 rfl m_int bt_int (qa_cons (qe_cmpR op_eq (qv 3) qe_int (nomark _)) qa_nil)) (qe_call G__law_next hr rfl m__law_next F__law_next.kp b__law_next .nil pass0 (qa_cons (qv 0) (qa_cons qe_int qa_nil)))))))
      (qss_cons (qs_if (QW.pt (qw_and (qt_cmpR op_eq (qe_call G__law_next hr rfl m__law_next F__law_next.kp b__law_next .nil pass0 (qa_cons (qv 0) (qa_cons qe_int qa_nil))) qe_int (nomark _)) (qw_and1 (qt_cmpR op_gt (qv 3) qe_int (nomark _))))) (qss_cons (qs_set (i := 5) sc__law_word.nd rfl (Or.inl rfl) (qe_call G__law_next hr rfl m__law_next F__law_next.kp b__law_next .nil pass0 (qa_cons (qv 0) (qa_cons (qv 3) qa_nil))))
      (qss_one (qs_set (i := 4) sc__law_word.nd rfl (Or.inl rfl) (qe_op op_catTA (qe_op op_catTA (qe_slice sl_tupA (qv 4) qo_none (qo_some (qv 5))) (qe_tup (qa_cons (qe_call G__law_tree hr rfl m__law_tree F__law_tree.kp b__law_tree .nil pass0 (qa_cons (qv 0) (qa_cons qe_int qa_nil))) qa_nil))) (qe_slice sl_tupA (qv 4) (qo_some (qe_op op_add (qv 5) qe_int)) qo_none))))) qss_nil)
      (qss_cons (qs_if (qt_cmpR op_eq (qv 3) qe_int (nomark _)) (qss_one (qs_ret (qe_op op_catTA (qe_tup (qa_cons (qe_tup qa_nil) qa_nil)) (qe_call G__law_tree hr rfl m__law_tree F__law_tree.kp b__law_tree .nil pass0 (qa_cons (qv 0) (qa_cons qe_int qa_nil)))))) qss_nil)
      (qss_cons (qs_if (QW.pt (qw_and (qt_cmpR op_eq (qv 3) qe_int (nomark _)) (qw_and1 (qt_cmpR op_gt (qv 1) qe_int (nomark _))))) (qss_one (qs_ret (qe_op op_catTA (qe_tup (qa_cons (qv 4) (qa_cons (qe_call G__law_text hr rfl m__law_text F__law_text.kp b__law_text .nil pass0 (qa_cons (qv 0) (qa_cons (qe_op op_sub (qv 1) qe_int) (qa_cons qe_int qa_nil)))) qa_nil))) (qe_call G__law_text hr rfl m__law_text F__law_text.kp b__law_text .nil pass0 (qa_cons (qv 0) (qa_cons (qe_op op_sub (qv 1) qe_int) (qa_cons qe_int qa_nil))))))) qss_nil)
      (qss_cons (qs_if (QW.pt (qw_and (qt_cmpR op_eq (qv 3) qe_int (nomark _)) (qw_and1 (qt_cmpR op_gt (qv 1) qe_int (nomark _))))) (qss_one (qs_ret (qe_op op_catTA (qe_tup (qa_cons (qv 4) qa_nil)) (qe_call G__law_text hr rfl m__law_text F__law_text.kp b__law_text .nil pass0 (qa_cons (qv 0) (qa_cons (qe_op op_sub (qv 1) qe_int) (qa_cons qe_int qa_nil))))))) qss_nil)
      (qss_one (qs_ret (qe_op op_catTA (qe_tup (qa_cons (qv 4) qa_nil)) (qe_call G__law_load hr rfl m__law_load F__law_load.kp b__law_load .nil pass0 (qa_cons (qv 0) qa_nil))))))))))))), ?_⟩
      have pw := pw5_ge d
      refine ⟨_, rfl, p, 14, rfl, by decide, hk, fun m H1 hm0 hm1 D1 => ?_⟩
      have hk1 := D1.deck
      refine ⟨_, rfl, rfl, _, rfl, ite2 (fun hb => ⟨_, rfl, p, 3, rfl, by decide, hk1, fun y t H3 D3 ht hs => q _ _ _ (D1.trans D3) ht (hs.b.le (by omega) (by omega))⟩) (fun hb13 => ?_)⟩
      have hm13 : m < 13 := by
        have : m ≠ 13 := fun z => hb13 (by rw [z]; exact decide_eq_true rfl)
        omega
      -- the sort
      refine ⟨(by show 13 ≤ sizeLine; decide), fun p3' hp3 => ?_⟩
      obtain ⟨c, hc, ec⟩ := lit_at (ns := [0, 0, 1, 2, 3, 4, 4, 5, 5, 6, 7, 8, 9]) (k := m.toNat) (by show _ < 13; omega)
      rw [show ((m.toNat : Nat) : Int) = m by omega] at ec
      have hc9 : c ≤ 9 := (by decide : ∀ c ∈ ([0, 0, 1, 2, 3, 4, 4, 5, 5, 6, 7, 8, 9] : List Nat), c ≤ 9) c hc
      refine ⟨_, rfl, p3', _, _, _, rfl, rfl, SqL.of upd_same, ec, ?_⟩
      -- ahead
      refine ⟨Nat.zero_le _, fun p4 g4 => ⟨(by show 1 ≤ sizeLine; decide), fun p5 g5 => ?_⟩⟩
      obtain ⟨S4, t4⟩ := tupN (K := K) (ts := []) g4 (TRs_nil.mpr rfl)
      obtain ⟨S5, t5⟩ := tupN (K := K) g5 (trs1 t4)
      have D5 := ((D1.same (same_new hp3 _)).same S4).same S5
      refine ⟨_, rfl, _, rfl, rfl, .inr ⟨_, rfl, ?_⟩⟩
      refine ⟨_, rfl, p, 4, rfl, by decide, D5.deck, fun i6 H6 i60 i61 D6 => ?_⟩
      have hone : ∃ o : Nat, (if decide (V.int (c : Int) = V.int 9) = true then (1 : Int) else 0) = (o : Int) ∧ o ≤ 1 := by
        split
        · exact ⟨1, rfl, by omega⟩
        · exact ⟨0, rfl, by omega⟩
      obtain ⟨o, eo, ho⟩ := hone
      rw [eo]
      refine ⟨_, _, rfl, rfl, .inl ⟨by omega, by omega⟩, _, _, rfl, rfl, ?_⟩
      have hle : ∃ l : Nat, (c : Int) + (o : Int) * i6 = (l : Int) ∧ l ≤ 12 := by
        rcases (by omega : o = 0 ∨ o = 1) with rfl | rfl
        · exact ⟨c, by omega, by omega⟩
        · exact ⟨(c + i6).toNat, by omega, by omega⟩
      obtain ⟨l, el, hl⟩ := hle
      refine nRep (k := (c : Int) + (o : Int) * i6) l (t5.mono (D6.kt D5.deck)) rfl (by omega) (by omega) (by omega) (fun y7 H7 S7 t7 => ?_)
      have D7 := (D5.trans D6).same S7
      have b7 : B 1 13 (leavesT l) := (B_leaves l).le (by omega) (by omega)
      -- one of them another tree
      dsimp only [gName]
      refine ifJoin (fun σ' H' => ∃ (as : List T) (y : V) (o5 : Option V), σ' = [some (.ref p), some (.int (d : Int)), some (.int m), some (.int (c : Int)), some y, o5] ∧ Dr p H H' ∧ TR K H' (.node as) y ∧ B 3 26 (.node as)) (fun σ8 H8 h8 => ?_) (fun N hN => ?_)
      rotate_left
      · dsimp only [tIfS]
        refine ⟨_, rfl, p, 6, rfl, by decide, D7.deck, fun i8 H8 _ _ D8 => ⟨rfl, _, rfl, ite2 (fun _ => ?_) (fun _ => ?_)⟩⟩
        rotate_left
        · exact iteF (hN _ _ ⟨_, y7, _, rfl, D7.trans D8, t7.mono (D8.kt D7.deck), b7.le (by omega) (by omega)⟩)
        refine ⟨_, rfl, _, _, rfl, rfl, _, rfl, ite2 (fun hb => ?_) (fun _ => ?_)⟩
        rotate_left
        · exact hN _ _ ⟨_, y7, _, rfl, D7.trans D8, t7.mono (D8.kt D7.deck), b7.le (by omega) (by omega)⟩
        have hc0 : 0 < c := by have := of_decide_eq_true hb; omega
        refine ⟨_, rfl, _, rfl, p, c, rfl, by omega, D8.deck, fun i9 H9 i90 i91 D9 => ?_⟩
        obtain ⟨j, rfl⟩ : ∃ j : Nat, i9 = (j : Int) := ⟨i9.toNat, by omega⟩
        have D89 := D8.trans D9
        refine ⟨_, rfl, _, rfl, _, rfl, nTo (t7.mono (D89.kt D7.deck)) j (fun y10 H10 S10 t10 => ?_)⟩
        have D10 := D89.same S10
        refine ⟨_, rfl, p, 2, rfl, by decide, D10.deck, fun y11 u11 H11 D11 t11 s11 => ⟨(by show 1 ≤ sizeLine; decide), fun p12 g12 => ?_⟩⟩
        obtain ⟨S12, t12⟩ := tupN (K := K) g12 (trs1 t11)
        have D12 := (D10.trans D11).same S12
        refine nCat (t10.mono ((D11.kt D10.deck).trans (.of S12))) t12 (small (by have := b7.len; rw [List.length_take]; show _ + 1 ≤ _; omega)) (fun y13 H13 S13 t13 => ?_)
        have D13 := D12.same S13
        refine ⟨_, rfl, _, rfl, _, _, rfl, rfl, _, rfl, nFromP (t7.mono (D13.kt D7.deck)) (j + 1) (fun y14 H14 S14 t14 => ?_)⟩
        refine nCat (t13.mono (.of S14)) t14 (small (by have := b7.len; rw [List.length_append, List.length_take, List.length_drop]; show _ + 1 + _ ≤ _; omega)) (fun y15 H15 S15 t15 => ?_)
        exact hN _ _ ⟨_, y15, _, rfl, ((D7.trans D13).same S14).same S15, t15, (B_repl j b7 s11.b).le (by omega) (by omega)⟩
      obtain ⟨as, y8, o5, rfl, D8, t8, b8⟩ := h8
      have hk8 := D8.deck
      -- the lay
      refine ⟨_, rfl, rfl, _, rfl, ite2 (fun hb => ?_) (fun hb4 => ?_)⟩
      · refine ⟨Nat.zero_le _, fun p1 hp1 => ⟨(by show 1 ≤ sizeLine; decide), fun p2' hp2 => ?_⟩⟩
        obtain ⟨S1, t1⟩ := tupN (K := K) (ts := []) hp1 (TRs_nil.mpr rfl)
        obtain ⟨S2, t2⟩ := tupN (K := K) hp2 (trs1 t1)
        have D2 := (D8.same S1).same S2
        refine ⟨_, rfl, p, 3, rfl, by decide, D2.deck, fun y t H3 D3 ht hs => ?_⟩
        cases t with
        | node us =>
          have b := B_cat hs.b (B_tup1 B_nil)
          refine nCat (t2.mono (D3.kt D2.deck)) ht (small (by have := hs.b.len; rw [List.length_singleton]; omega)) (fun z H4 S4 t4 => ?_)
          exact q _ _ _ ((D2.trans D3).same S4) t4 (b.le (by omega) (by omega))
      try dsimp only [tNext, tSeq, tIfS]
      refine t_and0 (fun R r => ⟨_, rfl, rfl, _, rfl, r⟩) (fun R r => ⟨_, rfl, _, _, rfl, rfl, _, rfl, r⟩) ?_
      refine ite2 (fun hb => ?_) (fun _ => ?_)
      · have hd0 : 0 < d := by
          have := of_decide_eq_true (Bool.and_eq_true _ _ ▸ hb).2
          omega
        obtain ⟨e, rfl⟩ : ∃ e, d = e + 1 := ⟨d - 1, by omega⟩
        have pe : pw5 (e + 1) = 62 + 6 * pw5 e := rfl
        refine ⟨_, rfl, _, rfl, _, rfl, _, _, rfl, rfl, p, e, 3, dec_eq3 p e, by omega, by decide, hk8, fun y3 u3 H3 D3 t3 s3 l3 => ⟨(by show 2 ≤ sizeLine; decide), fun p4 hp4 => ?_⟩⟩
        obtain ⟨S4, t4⟩ := tupN (K := K) hp4 (trs2 (t8.mono (D3.kt hk8)) t3)
        have D4 := (D8.trans D3).same S4
        refine ⟨_, rfl, _, rfl, _, _, rfl, rfl, p, e, 3, dec_eq3 p e, by omega, by decide, D4.deck, fun y5 u5 H5 D5 t5 s5 l5 => ?_⟩
        cases u5 with
        | node us =>
          have b3 : B (4 + 2 * e + 1) (1 + 3 * pw5 e) u3 := by rw [← kids_node u3]; exact B_row s3 l3
          have b5 : B (4 + 2 * e + 1) (1 + 3 * pw5 e) (.node us) := B_row s5 l5
          have b := B_cat b5 (B_cons b8 (B_tup1 b3))
          have hl : us.length ≤ 3 := l5
          refine nCat (t4.mono (D5.kt D4.deck)) t5 (small (by show 2 + us.length ≤ _; omega)) (fun z H6 S6 t6 => ?_)
          exact q _ _ _ ((D4.trans D5).same S6) t6 (b.le (by omega) (by omega))
      try dsimp only [tNext, tSeq, tIfS]
      refine t_and0 (fun R r => ⟨_, rfl, rfl, _, rfl, r⟩) (fun R r => ⟨_, rfl, _, _, rfl, rfl, _, rfl, r⟩) ?_
      refine ite2 (fun hb => ?_) (fun _ => ?_)
      · have hd0 : 0 < d := by
          have := of_decide_eq_true (Bool.and_eq_true _ _ ▸ hb).2
          omega
        obtain ⟨e, rfl⟩ : ∃ e, d = e + 1 := ⟨d - 1, by omega⟩
        have pe : pw5 (e + 1) = 62 + 6 * pw5 e := rfl
        refine ⟨_, rfl, (by show 1 ≤ sizeLine; decide), fun p4 hp4 => ?_⟩
        obtain ⟨S4, t4⟩ := tupN (K := K) hp4 (trs1 t8)
        have D4 := D8.same S4
        refine ⟨_, rfl, _, rfl, _, _, rfl, rfl, p, e, 3, dec_eq3 p e, by omega, by decide, D4.deck, fun y5 u5 H5 D5 t5 s5 l5 => ?_⟩
        cases u5 with
        | node us =>
          have b5 : B (4 + 2 * e + 1) (1 + 3 * pw5 e) (.node us) := B_row s5 l5
          have b := B_cat b5 (B_tup1 b8)
          have hl : us.length ≤ 3 := l5
          refine nCat (t4.mono (D5.kt D4.deck)) t5 (small (by show 1 + us.length ≤ _; omega)) (fun z H6 S6 t6 => ?_)
          exact q _ _ _ ((D4.trans D5).same S6) t6 (b.le (by omega) (by omega))
      refine ⟨_, rfl, (by show 1 ≤ sizeLine; decide), fun p4 hp4 => ?_⟩
      obtain ⟨S4, t4⟩ := tupN (K := K) hp4 (trs1 t8)
      have D4 := D8.same S4
      refine ⟨_, rfl, p, rfl, D4.deck, fun y5 u5 H5 D5 t5 s5 => ?_⟩
      cases u5 with
      | node us =>
        have b := B_cat s5.b (B_tup1 b8)
        refine nCat (t4.mono (D5.kt D4.deck)) t5 (small (by have := s5.b.len; rw [List.length_singleton]; omega)) (fun z H6 S6 t6 => ?_)
        exact q _ _ _ ((D4.trans D5).same S6) t6 (b.le (by omega) (by omega))
    refine ⟨wd, ?_⟩
    have G__law_word := wd
    have G__law_next := G0__law_next.mono (show 31 ≤ 2 * n + 38 by omega)
    refine okQ (k := 2 * n + 38) F__law_text sc__law_text (fun vs H Q E h => ?_) (fun cdv A outer s H vs Q E hr h => ?_)
    · obtain ⟨p, d, m, rfl, _⟩ := h; rfl
    obtain ⟨p, d, m, rfl, hd, hm, hk, q⟩ := h
    refine ⟨_, (qss_one (qs_ret (qe_callTy call_tuple_of rfl m_tuple bt_tuple (qa_cons (qe_lc rfl (lc_free (fr := ["_law_deck_here", "_law_deep"]) (js := [0, 1]) (sc := defScope s__law_text) rfl rfl rfl (by decide +kernel) (by decide +kernel) (by decide +kernel) (by decide +kernel) (by exact ⟨⟨rfl, rfl, rfl⟩, ⟨⟨rfl, rfl, rfl⟩, trivial⟩⟩) (by decide +kernel) (fun y hy => cell_has hy)) (qi_range1 rfl m_range (qa_cons (qe_call G__law_next hr rfl m__law_next F__law_next.kp b__law_next .nil pass0 (qa_cons (qv 0) (qa_cons (qe_op op_add (qv 2) qe_int) qa_nil))) qa_nil)) (fun _ _ _ _ _ => (qe_call G__law_word hr rfl m__law_word F__law_word.kp b__law_word .nil pass0 (qa_cons (qv 1) (qa_cons (qv 2) qa_nil))))) qa_nil)))), ?_⟩
    refine ⟨_, rfl, _, rfl, _, _, rfl, rfl, p, (m : Int) + 1, rfl, by omega, hk, fun i H1 hm0 hm1 D1 => ⟨i, rfl, by omega, by omega, ?_⟩⟩
    refine lc_draw (K := K) (ShW5 d) D1.deck (small (by omega)) (fun i H' R hi Dh hR => ?_) (fun D ys ts H' Dh hl hlen htr hsh => ?_)
    · exact ⟨_, rfl, _, rfl, p, d, rfl, hd, Dh.deck, fun y t H3 D3 ht hs => hR y t H3 D3 ht hs⟩
    refine ⟨D, ys, rfl, .inl ⟨SqL.of hl, fun p5 hp5 => ?_⟩⟩
    obtain ⟨S5, t5⟩ := tupN (K := K) hp5 htr
    exact q _ _ _ ((D1.trans Dh).same S5) t5 hsh (by show ts.length ≤ m; omega)
end
end Sw53

namespace Sw53
open PySem PySem.Spec PyProof.Rows L2 Sw
section
variable {P : Program} {w : World} {K : PySem.W.Frag} {mg : Str → Option Value} {base : Heap} {f : Addr} {fd : FuncData}

theorem TR_two {K : PySem.W.Frag} {H : Hp} {t u : T} {x : V} (h : TR K H (.node [t, u]) x) : ∃ a y z, x = .ref a ∧ SqT K H a [y, z] ∧ TR K H t y ∧ TR K H u z := by
  obtain ⟨a, xs, rfl, ha, ra⟩ := TR_node.mp h
  obtain ⟨y, ys, rfl, hy, r2⟩ := TRs_cons.mp ra
  obtain ⟨z, zs, rfl, hz, r3⟩ := TRs_cons.mp r2
  obtain rfl := TRs_nil.mp r3
  exact ⟨a, y, z, rfl, ha, hy, hz⟩
theorem okSt.bx {tx s : List T} (h : okSt (tx, s)) : BX tx ∧ B 390 8000000 (.node s) := by
  obtain ⟨h1, h2, h3⟩ := h
  have h3 : T.partsL tx + T.partsL s ≤ 7900000 := h3
  exact ⟨BX.of (a := 390) (b := 8000000) ⟨h1, by rw [T.parts_node]; omega⟩ (by omega) (by omega), ⟨h2, by rw [T.parts_node]; omega⟩⟩
theorem ifRet {tc : TT} {tb u : TS} {D : Ends} {σ : L2.St} {H : Hp} (c : Prop) (k : ∀ H', Same H H' → ¬ c → u D σ H') (h : ∀ N : Hp → Prop, (∀ H', Same H H' → ¬ c → N H') → tc σ H fun b H1 => if b = true then tb { D with nx := u D } σ H1 else N H1) : tSeq (tIfS tc tb tNext) u D σ H := h (fun H1 => u D σ H1) k
theorem work_beh (w : T) (s : List T) : workT (sortT w) (loadT w) (pad s (many (sortT w))) = behind w s := by
  have h9 := sort_le w
  by_cases h0 : sortT w = 0
  · rw [beh0 h0, h0, show many 0 = 0 from rfl, pad_of (Nat.zero_le _)]; rfl
  by_cases h7 : 7 ≤ sortT w
  · rw [work_ge h7, beh7 (by omega)]
  rcases (by omega : sortT w = 1 ∨ sortT w = 2 ∨ sortT w = 3 ∨ sortT w = 4 ∨ sortT w = 5 ∨ sortT w = 6) with h | h | h | h | h | h
  · rw [beh1 h, h]; rfl
  · rw [beh2 h, h, show many 2 = 1 from rfl]
    show ats (pad s 1) 0 :: pad s 1 = _
    rw [pad1]; rfl
  · rw [beh3 h, h]; rfl
  · rw [beh4 h, h]; rfl
  · rw [beh5 h, h]; rfl
  · rw [beh6 h, h]; rfl
theorem ats_pad1 (s : List T) : ats (pad s 1) 0 = ats s 0 := by rw [pad1]; rfl
theorem take1_cons {s : List T} (h : 1 ≤ s.length) : s.take 1 ++ s = ats s 0 :: s := by
  cases s with
  | nil => exact absurd h (by decide)
  | cons a s => rfl
theorem ok__law_first (m_len : mg "len" = none) 
    (F : Fun K "_law_first" "_law_first" s__law_first f fd) : FnOk P w K mg base CX0 31 f fd ["_law_tree_here"] (spFirst5 K) := by
  refine okQ F sc__law_first (fun vs H Q E h => ?_) (fun cdv A outer s H vs Q E hr h => ?_)
  · obtain ⟨x, t, rfl, _⟩ := h
    rfl
  obtain ⟨x, t, rfl, ht, q⟩ := h
  refine ⟨_, (qss_cons (qs_if (qt_cmpR op_eq (qe_callB call_len_seq rfl m_len bt_len (qa_cons (qv 0) qa_nil)) qe_int (nomark _)) (qss_one (qs_ret (qe_tup qa_nil))) qss_nil)
      (qss_one (qs_ret (qe_ix ix_tup (qv 0) qe_int (fun _ _ => rfl))))), ?_⟩
  cases t with
  | node ts =>
  obtain ⟨a, xs, rfl, ha, ra⟩ := TR_node.mp ht
  have hl := ra.length
  refine ⟨_, rfl, a, xs, rfl, .inr ha, rfl, _, rfl, ite2 (fun hb => ?_) (fun hb => ?_)⟩
  · have h0 : xs.length = 0 := by have := V.int.inj (of_decide_eq_true hb); omega
    have e : ts = [] := List.length_eq_zero_iff.mp (by omega)
    subst e
    exact ⟨Nat.zero_le _, fun p hp => q _ _ (same_new hp _) (leaf_tr upd_same)⟩
  · cases ts with
    | nil => exact absurd (decide_eq_true (by rw [hl]; rfl)) hb
    | cons u us => exact ⟨_, rfl, nIxP ht 0 rfl (fun z tz => q _ _ (Same.refl _) tz)⟩
theorem ok__law_wide (m_len : mg "len" = none) 
    (F : Fun K "_law_wide" "_law_wide" s__law_wide f fd) : FnOk P w K mg base CX0 31 f fd ["_law_stack_here", "_law_sort_here"] (spWide5 K) := by
  refine okQ F sc__law_wide (fun vs H Q E h => ?_) (fun cdv A outer s H vs Q E hr h => ?_)
  · obtain ⟨x, s1, k, rfl, _⟩ := h
    rfl
  obtain ⟨x, s1, k, rfl, hx, hl, hk, q⟩ := h
  refine ⟨_, (qss_one (qs_ret (qe_op op_catTA (qv 0) (qe_op op_repTA (qe_tup (qa_cons (qe_tup qa_nil) qa_nil)) (qe_op op_sub (qe_ix ix_list (qe_lst (qa_cons qe_int (qa_cons qe_int (qa_cons qe_int (qa_cons qe_int (qa_cons qe_int (qa_cons qe_int (qa_cons qe_int (qa_cons qe_int (qa_cons qe_int (qa_cons qe_int qa_nil))))))))))) (qv 1) (fun _ _ => rfl)) (qe_callB call_len_seq rfl m_len bt_len (qa_cons (qv 0) qa_nil))))))), ?_⟩
  refine ⟨_, rfl, Nat.zero_le _, fun p1 g1 => ⟨(by show 1 ≤ sizeLine; decide), fun p2 g2 => ?_⟩⟩
  obtain ⟨S1, t1⟩ := tupN (K := K) (ts := []) g1 (TRs_nil.mpr rfl)
  obtain ⟨S2, t2⟩ := tupN (K := K) g2 (trs1 t1)
  refine ⟨(by show 10 ≤ sizeLine; decide), fun p3 g3 => ?_⟩
  have S3 := same_new g3 (.lst (([0, 1, 1, 2, 2, 1, 3, 1, 1, 0] : List Nat).map fun n : Nat => V.int (n : Int)))
  have S13 := S1.trans (S2.trans S3)
  have hx2 := hx.mono (.of S13)
  obtain ⟨a, xs, rfl, ha, ra⟩ := TR_node.mp hx2
  have hrl := ra.length
  have hm3 : many k ≤ 3 := (by decide : ∀ k, k ≤ 9 → many k ≤ 3) k hk
  refine ⟨_, rfl, p3, _, _, _, rfl, rfl, (show SqL K _ p3 (([0, 1, 1, 2, 2, 1, 3, 1, 1, 0] : List Nat).map fun n : Nat => V.int (n : Int)) from SqL.of upd_same), lit_get (ns := [0, 1, 1, 2, 2, 1, 3, 1, 1, 0]) (k := k) (by show _ < 10; omega), _, rfl, a, xs, rfl, .inr ha, _, _, rfl, rfl, ?_⟩
  rw [show ((([0, 1, 1, 2, 2, 1, 3, 1, 1, 0] : List Nat).getD k 0 : Nat) : Int) = ((many k : Nat) : Int) from rfl]
  refine nRep (many k - s1.length) (t2.mono (.of S3)) rfl (by omega) (by omega) (by omega) (fun z H' S tz => ?_)
  exact nCat (hx2.mono (.of S)) tz (smallM (by rw [List.length_replicate]; omega)) (fun z4 H4 S4 t4 => q _ _ (S13.trans (S.trans S4)) t4)
theorem ok__law_sort (m_min : mg "min" = none) (m_len : mg "len" = none) 
    {a__law_first : Addr} {d__law_first : FuncData} (F__law_first : Fun K "_law_first" "_law_first" s__law_first a__law_first d__law_first) (G__law_first : FnOk P w K mg base CX0 31 a__law_first d__law_first ["_law_tree_here"] (spFirst5 K)) (b__law_first : Binds K d__law_first ["_law_tree_here"] []) (m__law_first : mg "_law_first" = some (.ref a__law_first))
    (F : Fun K "_law_sort" "_law_sort" s__law_sort f fd) : FnOk P w K mg base CX0 32 f fd ["_law_stand"] (spSort5 K) := by
  refine okQ F sc__law_sort (fun vs H Q E h => ?_) (fun cdv A outer s H vs Q E hr h => ?_)
  · obtain ⟨x, w', ws, tx, sk, rfl, _⟩ := h
    rfl
  obtain ⟨x, w', ws, tx, sk, rfl, hx, q⟩ := h
  refine ⟨_, (qss_one (qs_ret (qe_callB (call_min2 rfl) rfl m_min bt_min (qa_cons (qe_callB call_len_seq rfl m_len bt_len (qa_cons (qe_call G__law_first hr rfl m__law_first F__law_first.kp b__law_first .nil pass0 (qa_cons (qe_ix ix_tup (qe_ix ix_tup (qe_ix ix_tup (qv 0) qe_int (fun _ _ => rfl)) qe_int (fun _ _ => rfl)) qe_int (fun _ _ => rfl)) qa_nil)) qa_nil)) (qa_cons qe_int qa_nil))))), ?_⟩
  refine ⟨_, rfl, nIxP hx 0 rfl (fun v1 t1 => nIxP t1 0 rfl (fun v2 t2 => nIxP t2 0 rfl (fun v3 t3 => ⟨v3, w', rfl, t3, fun y H1 S1 t4 => ?_⟩)))⟩
  obtain ⟨b, ys, rfl, hb', rb⟩ := TR_node.mp (TR_kids t4)
  refine ⟨b, ys, rfl, .inr hb', _, _, rfl, ?_⟩
  rw [rb.length, show (if (9 : Int) < ((ats w'.kids 0).kids.length : Int) then (9 : Int) else ((ats w'.kids 0).kids.length : Int)) = ((sortT w' : Nat) : Int) by rw [sort_ats]; split <;> omega]
  exact q _ S1
theorem ok__law_stack 
    {a__law_first : Addr} {d__law_first : FuncData} (F__law_first : Fun K "_law_first" "_law_first" s__law_first a__law_first d__law_first) (G__law_first : FnOk P w K mg base CX0 31 a__law_first d__law_first ["_law_tree_here"] (spFirst5 K)) (b__law_first : Binds K d__law_first ["_law_tree_here"] []) (m__law_first : mg "_law_first" = some (.ref a__law_first))
    (F : Fun K "_law_stack" "_law_stack" s__law_stack f fd) : FnOk P w K mg base CX0 32 f fd ["_law_sort_here", "_law_load_here", "_law_stack_here"] (spStack5 K) := by
  refine okQ F sc__law_stack (fun vs H Q E h => ?_) (fun cdv A outer s H vs Q E hr h => ?_)
  · obtain ⟨k, y, z, l, sk, rfl, _⟩ := h
    rfl
  obtain ⟨k, y, z, l, sk, rfl, hy, hz, hk9, hl, hb, q⟩ := h
  refine ⟨_, (qss_cons (qs_if (qt_cmpR op_eq (qv 0) qe_int (nomark _)) (qss_one (qs_ret (qe_op op_catTA (qe_tup (qa_cons (qv 1) qa_nil)) (qv 2)))) qss_nil)
      (qss_cons (qs_if (qt_cmpR op_eq (qv 0) qe_int (nomark _)) (qss_one (qs_ret (qe_slice sl_tupA (qv 2) (qo_some qe_int) qo_none))) qss_nil)
      (qss_cons (qs_if (qt_cmpR op_eq (qv 0) qe_int (nomark _)) (qss_one (qs_ret (qe_op op_catTA (qe_slice sl_tupA (qv 2) qo_none (qo_some qe_int)) (qv 2)))) qss_nil)
      (qss_cons (qs_if (qt_cmpR op_eq (qv 0) qe_int (nomark _)) (qss_one (qs_ret (qe_op op_catTA (qe_tup (qa_cons (qe_ix ix_tup (qv 2) qe_int (fun _ _ => rfl)) (qa_cons (qe_ix ix_tup (qv 2) qe_int (fun _ _ => rfl)) qa_nil))) (qe_slice sl_tupA (qv 2) (qo_some qe_int) qo_none)))) qss_nil)
      (qss_cons (qs_if (qt_cmpR op_eq (qv 0) qe_int (nomark _)) (qss_one (qs_ret (qe_op op_catTA (qe_tup (qa_cons (qe_op op_catTA (qe_tup (qa_cons (qe_ix ix_tup (qv 2) qe_int (fun _ _ => rfl)) qa_nil)) (qe_ix ix_tup (qv 2) qe_int (fun _ _ => rfl))) qa_nil)) (qe_slice sl_tupA (qv 2) (qo_some qe_int) qo_none)))) qss_nil)
      (qss_cons (qs_if (qt_cmpR op_eq (qv 0) qe_int (nomark _)) (qss_one (qs_ret (qe_op op_catTA (qe_tup (qa_cons (qe_call G__law_first hr rfl m__law_first F__law_first.kp b__law_first .nil pass0 (qa_cons (qe_ix ix_tup (qv 2) qe_int (fun _ _ => rfl)) qa_nil)) (qa_cons (qe_slice sl_tupA (qe_ix ix_tup (qv 2) qe_int (fun _ _ => rfl)) (qo_some qe_int) qo_none) qa_nil))) (qe_slice sl_tupA (qv 2) (qo_some qe_int) qo_none)))) qss_nil)
      (qss_cons (qs_if (qt_cmpR op_eq (qv 0) qe_int (nomark _)) (qss_one (qs_ret (qe_op op_catTA (qe_tup (qa_cons (qe_ix ix_tup (qv 2) qe_int (fun _ _ => rfl)) (qa_cons (qe_ix ix_tup (qv 2) qe_int (fun _ _ => rfl)) (qa_cons (qe_ix ix_tup (qv 2) qe_int (fun _ _ => rfl)) qa_nil)))) (qe_slice sl_tupA (qv 2) (qo_some qe_int) qo_none)))) qss_nil)
      (qss_one (qs_ret (qv 2)))))))))), ?_⟩
  have hlen := hb.len
  refine ⟨_, rfl, rfl, _, rfl, ite2 (fun h => ?_) (fun n0 => ?_)⟩
  · obtain rfl : k = 0 := by have := V.int.inj (of_decide_eq_true h); omega
    refine ⟨_, rfl, (by show 1 ≤ sizeLine; decide), fun p1 g1 => ?_⟩
    obtain ⟨S1, t1⟩ := tupN (K := K) g1 (trs1 hy)
    exact ⟨_, rfl, nCat t1 (hz.mono (.of S1)) (smallM (by show 1 + _ ≤ _; omega)) (fun v H2 S2 t2 => q _ _ (S1.trans S2) t2)⟩
  have n0 : k ≠ 0 := fun z => n0 (by rw [z]; exact decide_eq_true rfl)
  refine ⟨_, rfl, rfl, _, rfl, ite2 (fun h => ?_) (fun n1 => ?_)⟩
  · obtain rfl : k = 1 := by have := V.int.inj (of_decide_eq_true h); omega
    exact ⟨_, rfl, 1, rfl, nFromP hz 1 (fun v H2 S2 t2 => q _ _ S2 t2)⟩
  have n1 : k ≠ 1 := fun z => n1 (by rw [z]; exact decide_eq_true rfl)
  refine ⟨_, rfl, rfl, _, rfl, ite2 (fun h => ?_) (fun n2 => ?_)⟩
  · obtain rfl : k = 2 := by have := V.int.inj (of_decide_eq_true h); omega
    have hl : 1 ≤ sk.length := hl
    refine ⟨_, rfl, 1, rfl, nTo hz 1 (fun y1 H1 S1 t1 => ⟨_, rfl, nCat t1 (hz.mono (.of S1)) (smallM (by rw [List.length_take]; omega)) (fun v H2 S2 t2 => q _ _ (S1.trans S2) ?_)⟩)⟩
    rw [take1_cons hl] at t2
    exact t2
  have n2 : k ≠ 2 := fun z => n2 (by rw [z]; exact decide_eq_true rfl)
  refine ⟨_, rfl, rfl, _, rfl, ite2 (fun h => ?_) (fun n3 => ?_)⟩
  · obtain rfl : k = 3 := by have := V.int.inj (of_decide_eq_true h); omega
    have hl : 2 ≤ sk.length := hl
    refine ⟨_, rfl, nIxP hz 1 (ats_mem (by omega)) (fun v1 t1 => ⟨_, rfl, nIxP hz 0 (ats_mem (by omega)) (fun v0 t0 => ⟨(by show 2 ≤ sizeLine; decide), fun p1 g1 => ?_⟩)⟩)⟩
    obtain ⟨S1, t2⟩ := tupN (K := K) g1 (trs2 t1 t0)
    refine ⟨_, rfl, 2, rfl, nFromP (hz.mono (.of S1)) 2 (fun v4 H4 S4 t4 => nCat (t2.mono (.of S4)) t4 (smallM (by rw [List.length_drop]; show 2 + _ ≤ _; omega)) (fun v H2 S2 t5 => q _ _ (S1.trans (S4.trans S2)) ?_))⟩
    exact t5
  have n3 : k ≠ 3 := fun z => n3 (by rw [z]; exact decide_eq_true rfl)
  refine ⟨_, rfl, rfl, _, rfl, ite2 (fun h => ?_) (fun n4 => ?_)⟩
  · obtain rfl : k = 4 := by have := V.int.inj (of_decide_eq_true h); omega
    have hl : 2 ≤ sk.length := hl
    have hk1 := (B_kids (B_ats hb 1)).len
    refine ⟨_, rfl, nIxP hz 0 (ats_mem (by omega)) (fun v0 t0 => ⟨(by show 1 ≤ sizeLine; decide), fun p1 g1 => ?_⟩)⟩
    obtain ⟨S1, t1⟩ := tupN (K := K) g1 (trs1 t0)
    refine ⟨_, rfl, nIxP (hz.mono (.of S1)) 1 (ats_mem (by omega)) (fun v1 t2 => nCat t1 (TR_kids t2) (smallM (by show 1 + _ ≤ _; omega)) (fun v3 H3 S3 t3 => ⟨(by show 1 ≤ sizeLine; decide), fun p4 g4 => ?_⟩))⟩
    obtain ⟨S4, t4⟩ := tupN (K := K) g4 (trs1 t3)
    exact ⟨_, rfl, 2, rfl, nFromP (hz.mono (.of (S1.trans (S3.trans S4)))) 2 (fun v5 H5 S5 t5 => nCat (t4.mono (.of S5)) t5 (smallM (by rw [List.length_drop]; show 1 + _ ≤ _; omega)) (fun v H2 S2 t6 => q _ _ (S1.trans (S3.trans (S4.trans (S5.trans S2)))) t6))⟩
  have n4 : k ≠ 4 := fun z => n4 (by rw [z]; exact decide_eq_true rfl)
  refine ⟨_, rfl, rfl, _, rfl, ite2 (fun h => ?_) (fun n5 => ?_)⟩
  · obtain rfl : k = 5 := by have := V.int.inj (of_decide_eq_true h); omega
    have hl : 1 ≤ sk.length := hl
    have bt := B_ats hb 0
    refine ⟨_, rfl, nIxP hz 0 (ats_mem (by omega)) (fun v0 t0 => ⟨v0, ats sk 0, rfl, t0, fun y1 H1 S1 t1 => ?_⟩)⟩
    refine ⟨_, rfl, nIxP (hz.mono (.of S1)) 0 (ats_mem (by omega)) (fun v2 t2 => ⟨1, rfl, nFromP (TR_kids t2) 1 (fun y3 H3 S3 t3 => ⟨(by show 2 ≤ sizeLine; decide), fun p4 g4 => ?_⟩)⟩)⟩
    obtain ⟨S4, t4⟩ := tupN (K := K) g4 (trs2 (t1.mono (.of S3)) t3)
    exact ⟨_, rfl, 1, rfl, nFromP (hz.mono (.of (S1.trans (S3.trans S4)))) 1 (fun v5 H5 S5 t5 => nCat (t4.mono (.of S5)) t5 (smallM (by rw [List.length_drop]; show 2 + _ ≤ _; omega)) (fun v H2 S2 t6 => q _ _ (S1.trans (S3.trans (S4.trans (S5.trans S2)))) t6))⟩
  have n5 : k ≠ 5 := fun z => n5 (by rw [z]; exact decide_eq_true rfl)
  refine ⟨_, rfl, rfl, _, rfl, ite2 (fun h => ?_) (fun n6 => ?_)⟩
  · obtain rfl : k = 6 := by have := V.int.inj (of_decide_eq_true h); omega
    have hl : 3 ≤ sk.length := hl
    refine ⟨_, rfl, nIxP hz 2 (ats_mem (by omega)) (fun v2 t2 => ⟨_, rfl, nIxP hz 0 (ats_mem (by omega)) (fun v0 t0 => ⟨_, rfl, nIxP hz 1 (ats_mem (by omega)) (fun v1 t1 => ⟨(by show 3 ≤ sizeLine; decide), fun p1 g1 => ?_⟩)⟩)⟩)⟩
    obtain ⟨S1, t3⟩ := tupN (K := K) g1 (trs3 t2 t0 t1)
    exact ⟨_, rfl, 3, rfl, nFromP (hz.mono (.of S1)) 3 (fun v4 H4 S4 t4 => nCat (t3.mono (.of S4)) t4 (smallM (by rw [List.length_drop]; show 3 + _ ≤ _; omega)) (fun v H2 S2 t5 => q _ _ (S1.trans (S4.trans S2)) t5))⟩
  have n6 : k ≠ 6 := fun z => n6 (by rw [z]; exact decide_eq_true rfl)
  rw [work_ge (show 7 ≤ k by omega)] at q
  exact ⟨_, rfl, q _ _ (Same.refl _) hz⟩
theorem ok__law_behind 
    {a__law_sort : Addr} {d__law_sort : FuncData} (F__law_sort : Fun K "_law_sort" "_law_sort" s__law_sort a__law_sort d__law_sort) (G__law_sort : FnOk P w K mg base CX0 33 a__law_sort d__law_sort ["_law_stand"] (spSort5 K)) (b__law_sort : Binds K d__law_sort ["_law_stand"] []) (m__law_sort : mg "_law_sort" = some (.ref a__law_sort))
    {a__law_wide : Addr} {d__law_wide : FuncData} (F__law_wide : Fun K "_law_wide" "_law_wide" s__law_wide a__law_wide d__law_wide) (G__law_wide : FnOk P w K mg base CX0 33 a__law_wide d__law_wide ["_law_stack_here", "_law_sort_here"] (spWide5 K)) (b__law_wide : Binds K d__law_wide ["_law_stack_here", "_law_sort_here"] []) (m__law_wide : mg "_law_wide" = some (.ref a__law_wide))
    {a__law_first : Addr} {d__law_first : FuncData} (F__law_first : Fun K "_law_first" "_law_first" s__law_first a__law_first d__law_first) (G__law_first : FnOk P w K mg base CX0 33 a__law_first d__law_first ["_law_tree_here"] (spFirst5 K)) (b__law_first : Binds K d__law_first ["_law_tree_here"] []) (m__law_first : mg "_law_first" = some (.ref a__law_first))
    {a__law_stack : Addr} {d__law_stack : FuncData} (F__law_stack : Fun K "_law_stack" "_law_stack" s__law_stack a__law_stack d__law_stack) (G__law_stack : FnOk P w K mg base CX0 33 a__law_stack d__law_stack ["_law_sort_here", "_law_load_here", "_law_stack_here"] (spStack5 K)) (b__law_stack : Binds K d__law_stack ["_law_sort_here", "_law_load_here", "_law_stack_here"] []) (m__law_stack : mg "_law_stack" = some (.ref a__law_stack))
    (F : Fun K "_law_behind" "_law_behind" s__law_behind f fd) : FnOk P w K mg base CX0 34 f fd ["_law_stand"] (spNextOfM K) := by
  refine okQ F sc__law_behind (fun vs H Q E h => ?_) (fun cdv A outer s H vs Q E hr h => ?_)
  · obtain ⟨x, tx, sk, rfl, _⟩ := h
    rfl
  obtain ⟨x, tx, sk, rfl, hx, hne, bx, bs, q⟩ := h
  have hE := hr.un
  have hE : (A.deeper (envOfC "_law_behind" (defScope s__law_behind) s.heap.objs.size f cdv)).units + 401 < cLine := by omega
  refine ⟨_, (qss_cons (qs_asg (qv 0) (qg_tup rfl (qgs_cons (qg_name (i := 1) sc__law_behind.nd rfl (Or.inl rfl)) (qgs_cons (qg_name (i := 2) sc__law_behind.nd rfl (Or.inl rfl)) qgs_nil))))
      (qss_cons (qs_if (qt_cmpR (op_eqTr hE) (qe_ix ix_tup (qv 1) qe_int (fun _ _ => rfl)) (qe_tup qa_nil) (nomark _)) (qss_one (qs_ret (qe_tup (qa_cons (qe_slice sl_tupA (qv 1) (qo_some qe_int) qo_none) (qa_cons (qv 2) qa_nil))))) qss_nil)
      (qss_cons (qs_set (i := 3) sc__law_behind.nd rfl (Or.inl rfl) (qe_call G__law_sort hr rfl m__law_sort F__law_sort.kp b__law_sort .nil pass0 (qa_cons (qv 0) qa_nil)))
      (qss_cons (qs_set (i := 4) sc__law_behind.nd rfl (Or.inl rfl) (qe_slice sl_tupA (qe_ix ix_tup (qe_ix ix_tup (qv 1) qe_int (fun _ _ => rfl)) qe_int (fun _ _ => rfl)) (qo_some qe_int) qo_none))
      (qss_cons (qs_set (i := 2) sc__law_behind.nd rfl (Or.inl rfl) (qe_call G__law_wide hr rfl m__law_wide F__law_wide.kp b__law_wide .nil pass0 (qa_cons (qv 2) (qa_cons (qv 3) qa_nil))))
      (qss_cons (qs_set (i := 5) sc__law_behind.nd rfl (Or.inl rfl) (qe_op op_catTA (qe_tup (qa_cons (qe_slice sl_tupA (qe_ix ix_tup (qv 1) qe_int (fun _ _ => rfl)) (qo_some qe_int) qo_none) qa_nil)) (qe_slice sl_tupA (qv 1) (qo_some qe_int) qo_none)))
      (qss_cons (qs_if (QW.pt (qw_and (qt_cmpR op_eq (qv 3) qe_int (nomark _)) (qw_and1 (qt_cmpR (op_neTr hE) (qe_ix ix_tup (qv 2) qe_int (fun _ _ => rfl)) (qe_tup qa_nil) (nomark _))))) (qss_one (qs_ret (qe_tup (qa_cons (qe_op op_catTA (qe_tup (qa_cons (qe_call G__law_first hr rfl m__law_first F__law_first.kp b__law_first .nil pass0 (qa_cons (qv 4) qa_nil)) qa_nil)) (qv 5)) (qa_cons (qv 2) qa_nil))))) qss_nil)
      (qss_cons (qs_if (qt_cmpR op_eq (qv 3) qe_int (nomark _)) (qss_one (qs_ret (qe_tup (qa_cons (qe_op op_catTA (qe_tup (qa_cons (qe_slice sl_tupA (qv 4) (qo_some qe_int) qo_none) qa_nil)) (qv 5)) (qa_cons (qv 2) qa_nil))))) qss_nil)
      (qss_cons (qs_if (QW.pt (qw_and (qt_cmpR op_eq (qv 3) qe_int (nomark _)) (qw_and1 (qt_cmpR (op_neTr hE) (qe_ix ix_tup (qv 2) qe_int (fun _ _ => rfl)) (qe_tup qa_nil) (nomark _))))) (qss_one (qs_ret (qe_tup (qa_cons (qe_op op_catTA (qe_tup (qa_cons (qv 4) qa_nil)) (qv 1)) (qa_cons (qv 2) qa_nil))))) qss_nil)
      (qss_one (qs_ret (qe_tup (qa_cons (qv 5) (qa_cons (qe_call G__law_stack hr rfl m__law_stack F__law_stack.kp b__law_stack .nil pass0 (qa_cons (qv 3) (qa_cons (qv 4) (qa_cons (qv 2) qa_nil)))) qa_nil)))))))))))))), ?_⟩
  obtain ⟨ax, x1, x2, rfl, ha, t1, t2⟩ := TR_two hx
  have hsl := bs.len
  have hxl := bx.1
  have b0 := bx.ats
  have hpos : 0 < tx.length := List.length_pos_iff.mpr hne
  refine ⟨_, rfl, ax, [x1, x2], rfl, ha, rfl, _, _, rfl, _, _, rfl, rfl, ?_⟩
  refine ⟨_, rfl, nIxP t1 0 (ats_mem hpos) (fun v0 t0 => ⟨Nat.zero_le _, fun p1 g1 => ⟨ats tx 0, leaf, t0.mono (.new g1), leaf_tr upd_same, by have := b0.1; omega, _, rfl, ite2 (fun hb => ?_) (fun hb => ?_)⟩⟩)⟩
  · have e := (T.beq_iff _ _).mp hb
    rw [on_shut (by rw [e]; rfl)] at q
    refine ⟨_, rfl, 1, rfl, nFromP (t1.mono (.new g1)) 1 (fun z H3 S3 t4 => ⟨_, rfl, (by show 2 ≤ sizeLine; decide), fun p5 g5 => ?_⟩)⟩
    obtain ⟨S5, t5⟩ := tupN (K := K) g5 (trs2 t4 (t2.mono (.of ((same_new g1 _).trans S3))))
    exact q _ _ ((same_new g1 _).trans (S3.trans S5)) t5
  have S1 := same_new g1 (.tup [])
  cases tx with
  | nil => exact absurd rfl hne
  | cons tq ts =>
  cases tq with
  | node us0 =>
  cases us0 with
  | nil => exact absurd (T.beq_self _) hb
  | cons w' ws =>
  have bw : B 390 8000000 w' := B_mem (B_kids b0) List.mem_cons_self
  refine ⟨_, rfl, _, w', ws, ts, sk, rfl, hx.mono (.of S1), fun H2 S2 => ?_⟩
  have S12 := S1.trans S2
  refine ⟨_, rfl, nIxP (t1.mono (.of S12)) 0 rfl (fun v3 t3 => nIxP t3 0 rfl (fun v4 t4 => ⟨1, rfl, nFromP (TR_kids t4) 1 (fun v5 H5 S5 t5 => ?_)⟩))⟩
  have S15 := S12.trans S5
  have hs9 := sort_le w'
  refine ⟨_, rfl, _, rfl, x2, sk, sortT w', rfl, t2.mono (.of S15), by omega, hs9, fun v6 H6 S6 t6 => ?_⟩
  have S16 := S15.trans S6
  refine ⟨_, rfl, nIxP (t1.mono (.of S16)) 0 rfl (fun v7 t7 => ⟨1, rfl, nFromP (TR_kids t7) 1 (fun v8 H8 S8 t8 => ⟨(by show 1 ≤ sizeLine; decide), fun p9 g9 => ?_⟩)⟩)⟩
  obtain ⟨S9, t9⟩ := tupN (K := K) g9 (trs1 t8)
  have S19 := S16.trans (S8.trans S9)
  have hxl' : ts.length + 1 ≤ 8000000 := hxl
  refine ⟨_, rfl, 1, rfl, nFromP (t1.mono (.of S19)) 1 (fun v10 H10 S10 t10 => nCat (t9.mono (.of S10)) t10 (smallM (by show 1 + ts.length ≤ _; omega)) (fun v11 H11 S11 t11 => ?_))⟩
  have S611 := S8.trans (S9.trans (S10.trans S11))
  have S111 := S16.trans S611
  have t5' := t5.mono (.of (S6.trans S611))
  have t6' := t6.mono (.of S611)
  have t11 : TR K H11 (.node (.node ws :: ts)) v11 := t11
  have ow := onward_word (w := w') (ws := ws) (ts := ts) (s := sk)
  have bpd := B_pad (many (sortT w')) ((by decide : ∀ k, k ≤ 9 → many k ≤ 3) _ hs9) (by omega) bs
  have wb := work_beh w' sk
  dsimp only [gName]
  -- a fork whose top is no leaf
  refine ifRet (sortT w' = 7 ∧ (ats sk 0).kids ≠ []) (fun H12 S12' c1 => ?_) (fun N hN => ?_)
  rotate_left
  · refine ⟨_, rfl, rfl, _, rfl, ite2 (fun h7 => ?_) (fun h7 => ?_)⟩
    rotate_left
    · exact iteF (hN _ (Same.refl _) (fun z => h7 (by rw [z.1]; exact decide_eq_true rfl)))
    have h7 : sortT w' = 7 := by have := V.int.inj (of_decide_eq_true h7); omega
    have e0 : many (sortT w') = 1 := by rw [h7]; rfl
    rw [e0] at t6' bpd
    refine ⟨_, rfl, nIxP t6' 0 (ats_mem (pad_len _ _)) (fun v12 t12 => ⟨Nat.zero_le _, fun p13 g13 => ⟨_, leaf, t12.mono (.new g13), leaf_tr upd_same, by have := (B_ats bpd 0).1; omega, _, rfl, ?_⟩⟩)⟩
    rw [ats_pad1, leaf_iff]
    by_cases ht : (ats sk 0).kids = []
    · rw [decide_eq_true ht]
      exact iteF (hN _ (same_new g13 _) (fun z => z.2 ht))
    rw [decide_eq_false ht]
    refine iteT ?_
    have S13 := same_new g13 (.tup [])
    refine ⟨_, rfl, v5, loadT w', rfl, t5'.mono (.of S13), fun v14 H14 S14 t14 => ⟨(by show 1 ≤ sizeLine; decide), fun p15 g15 => ?_⟩⟩
    obtain ⟨S15', t15⟩ := tupN (K := K) g15 (trs1 t14)
    have S1315 := S13.trans (S14.trans S15')
    refine ⟨_, rfl, nCat t15 (t11.mono (.of S1315)) (smallM (by show 1 + (ts.length + 1) ≤ _; omega)) (fun v16 H16 S16' t16 => ⟨_, rfl, (by show 2 ≤ sizeLine; decide), fun p17 g17 => ?_⟩)⟩
    obtain ⟨S17, t17⟩ := tupN (K := K) g17 (trs2 t16 (t6'.mono (.of (S1315.trans S16'))))
    refine q _ _ (S111.trans (S1315.trans (S16'.trans S17))) ?_
    rw [ow, if_pos h7, if_pos ht, beh7 (by omega), e0]
    exact t17
  refine ifRet (sortT w' = 7) (fun H13 S13 c2 => ?_) (fun N hN => ?_)
  rotate_left
  · refine ⟨_, rfl, rfl, _, rfl, ite2 (fun h7 => ?_) (fun h7 => ?_)⟩
    rotate_left
    · exact hN _ (Same.refl _) (fun z => h7 (by rw [z]; exact decide_eq_true rfl))
    have h7 : sortT w' = 7 := by have := V.int.inj (of_decide_eq_true h7); omega
    have e0 : many (sortT w') = 1 := by rw [h7]; rfl
    have ht : ¬ (ats sk 0).kids ≠ [] := fun z => c1 ⟨h7, z⟩
    refine ⟨_, rfl, 1, rfl, nFromP (t5'.mono (.of S12')) 1 (fun v14 H14 S14 t14 => ⟨(by show 1 ≤ sizeLine; decide), fun p15 g15 => ?_⟩)⟩
    obtain ⟨S15', t15⟩ := tupN (K := K) g15 (trs1 t14)
    have S1315 := S12'.trans (S14.trans S15')
    refine ⟨_, rfl, nCat t15 (t11.mono (.of S1315)) (smallM (by show 1 + (ts.length + 1) ≤ _; omega)) (fun v16 H16 S16' t16 => ⟨_, rfl, (by show 2 ≤ sizeLine; decide), fun p17 g17 => ?_⟩)⟩
    obtain ⟨S17, t17⟩ := tupN (K := K) g17 (trs2 t16 (t6'.mono (.of (S1315.trans S16'))))
    refine q _ _ (S111.trans (S1315.trans (S16'.trans S17))) ?_
    rw [ow, if_pos h7, if_neg ht, beh7 (by omega)]
    rw [List.drop_drop] at t17
    exact t17
  have S113 := S12'.trans S13
  refine ifRet (sortT w' = 8 ∧ (ats sk 0).kids ≠ []) (fun H14 S14 c3 => ?_) (fun N hN => ?_)
  rotate_left
  · refine ⟨_, rfl, rfl, _, rfl, ite2 (fun h7 => ?_) (fun h7 => ?_)⟩
    rotate_left
    · exact iteF (hN _ (Same.refl _) (fun z => h7 (by rw [z.1]; exact decide_eq_true rfl)))
    have h8 : sortT w' = 8 := by have := V.int.inj (of_decide_eq_true h7); omega
    have e0 : many (sortT w') = 1 := by rw [h8]; rfl
    rw [e0] at t6' bpd
    refine ⟨_, rfl, nIxP (t6'.mono (.of S113)) 0 (ats_mem (pad_len _ _)) (fun v12 t12 => ⟨Nat.zero_le _, fun p13 g13 => ⟨_, leaf, t12.mono (.new g13), leaf_tr upd_same, by have := (B_ats bpd 0).1; omega, _, rfl, ?_⟩⟩)⟩
    rw [ats_pad1, leaf_iff]
    by_cases ht : (ats sk 0).kids = []
    · rw [decide_eq_true ht]
      exact iteF (hN _ (same_new g13 _) (fun z => z.2 ht))
    rw [decide_eq_false ht]
    refine iteT ?_
    have S14 := S113.trans (same_new g13 (.tup []))
    refine ⟨_, rfl, (by show 1 ≤ sizeLine; decide), fun p15 g15 => ?_⟩
    obtain ⟨S15', t15⟩ := tupN (K := K) g15 (trs1 (t5'.mono (.of S14)))
    have S1315 := S14.trans S15'
    refine ⟨_, rfl, nCat t15 (t1.mono (.of (S111.trans S1315))) (smallM (by show 1 + (ts.length + 1) ≤ _; omega)) (fun v16 H16 S16' t16 => ⟨_, rfl, (by show 2 ≤ sizeLine; decide), fun p17 g17 => ?_⟩)⟩
    obtain ⟨S17, t17⟩ := tupN (K := K) g17 (trs2 t16 (t6'.mono (.of (S1315.trans S16'))))
    refine q _ _ (S111.trans (S1315.trans (S16'.trans S17))) ?_
    rw [ow, if_neg (by omega), if_pos h8, if_pos ht, beh7 (by omega), e0]
    exact t17
  have S114 := S113.trans S14
  refine ⟨_, rfl, _, rfl, _, rfl, _, rfl, sortT w', v5, v6, loadT w', _, rfl, t5'.mono (.of S114), t6'.mono (.of S114), hs9, pad_len _ _, bpd.le (by omega) (by omega), fun v15 H15 S15' t15 => ⟨(by show 2 ≤ sizeLine; decide), fun p17 g17 => ?_⟩⟩
  obtain ⟨S17, t17⟩ := tupN (K := K) g17 (trs2 (t11.mono (.of (S114.trans S15'))) t15)
  refine q _ _ (S111.trans (S114.trans (S15'.trans S17))) ?_
  rw [wb] at t17
  rw [ow, if_neg c2]
  by_cases h8 : sortT w' = 8
  · rw [if_pos h8, if_neg (fun z => c3 ⟨h8, z⟩)]
    exact t17
  · rw [if_neg h8]
    split <;> exact t17
end
end Sw53

namespace Sw53
open PySem PySem.Spec PyProof.Rows L2 Sw
section
variable {P : Program} {w : World} {K : PySem.W.Frag} {mg : Str → Option Value} {base : Heap} {f : Addr} {fd : FuncData}
theorem ok_law (m_range : mg "range" = none) 
    {a__law_deck : Addr} {d__law_deck : FuncData} (F__law_deck : Fun K "_law_deck" "_law_deck" s__law_deck a__law_deck d__law_deck) (G__law_deck : FnOk P w K mg base CX0 49 a__law_deck d__law_deck ["_law_script"] (spDeck K)) (b__law_deck : Binds K d__law_deck ["_law_script"] []) (m__law_deck : mg "_law_deck" = some (.ref a__law_deck))
    {a__law_text : Addr} {d__law_text : FuncData} (F__law_text : Fun K "_law_text" "_law_text" s__law_text a__law_text d__law_text) (G__law_text : FnOk P w K mg base CX0 49 a__law_text d__law_text ["_law_deck_here", "_law_deep", "_law_many"] (spText5 K 3)) (b__law_text : Binds K d__law_text ["_law_deck_here", "_law_deep", "_law_many"] []) (m__law_text : mg "_law_text" = some (.ref a__law_text))
    {a__law_tree : Addr} {d__law_tree : FuncData} (F__law_tree : Fun K "_law_tree" "_law_tree" s__law_tree a__law_tree d__law_tree) (G__law_tree : FnOk P w K mg base CX0 49 a__law_tree d__law_tree ["_law_deck_here", "_law_deep"] (spTree K 3)) (b__law_tree : Binds K d__law_tree ["_law_deck_here", "_law_deep"] []) (m__law_tree : mg "_law_tree" = some (.ref a__law_tree))
    {a_selfrunner : Addr} {d_selfrunner : FuncData} (F_selfrunner : Fun K "selfrunner" "selfrunner" s_selfrunner a_selfrunner d_selfrunner) (G_selfrunner : FnOk P w K mg base CX0 49 a_selfrunner d_selfrunner [] (spTxt K tSelf)) (b_selfrunner : Binds K d_selfrunner [] []) (m_selfrunner : mg "selfrunner" = some (.ref a_selfrunner))
    {a_ended : Addr} {d_ended : FuncData} (F_ended : Fun K "ended" "ended" s_ended a_ended d_ended) (G_ended : FnOk P w K mg base CX0 49 a_ended d_ended ["stand"] (spEndedM K)) (b_ended : Binds K d_ended ["stand"] []) (m_ended : mg "ended" = some (.ref a_ended))
    {a_shown : Addr} {d_shown : FuncData} (F_shown : Fun K "shown" "shown" s_shown a_shown d_shown) (G_shown : FnOk P w K mg base CX0 49 a_shown d_shown ["stand"] (spShown K)) (b_shown : Binds K d_shown ["stand"] []) (m_shown : mg "shown" = some (.ref a_shown))
    {a__law_behind : Addr} {d__law_behind : FuncData} (F__law_behind : Fun K "_law_behind" "_law_behind" s__law_behind a__law_behind d__law_behind) (G__law_behind : FnOk P w K mg base CX0 49 a__law_behind d__law_behind ["_law_stand"] (spNextOfM K)) (b__law_behind : Binds K d__law_behind ["_law_stand"] []) (m__law_behind : mg "_law_behind" = some (.ref a__law_behind))
    {a_next_of : Addr} {d_next_of : FuncData} (F_next_of : Fun K "next_of" "next_of" s_next_of a_next_of d_next_of) (G_next_of : FnOk P w K mg base CX0 49 a_next_of d_next_of ["stand"] (spNextOfM K)) (b_next_of : Binds K d_next_of ["stand"] []) (m_next_of : mg "next_of" = some (.ref a_next_of))
    (F : Fun K "law" "law" s_law f fd) : FnOk P w K mg base CX0 50 f fd ["_law_script"] (spLaw K) := by
  refine okQ F sc_law (fun vs H Q E h => ?_) (fun cdv A outer s H vs Q E hr h => ?_)
  · obtain ⟨a, ns, rfl, _⟩ := h
    rfl
  obtain ⟨a, ns, rfl, hl, h63, q⟩ := h
  have hE := hr.un
  have hE : (A.deeper (envOfC "law" (defScope s_law) s.heap.objs.size f cdv)).units + 401 < cLine := by omega
  refine ⟨_, (qss_cons (qs_set (i := 1) sc_law.nd rfl (Or.inl rfl) (qe_call G__law_deck hr rfl m__law_deck F__law_deck.kp b__law_deck .nil pass0 (qa_cons (qv 0) qa_nil)))
      (qss_cons (qs_set (i := 2) sc_law.nd rfl (Or.inl rfl) (qe_call G__law_text hr rfl m__law_text F__law_text.kp b__law_text .nil pass0 (qa_cons (qv 1) (qa_cons qe_int (qa_cons qe_int qa_nil)))))
      (qss_cons (qs_set (i := 3) sc_law.nd rfl (Or.inl rfl) (qe_call G__law_tree hr rfl m__law_tree F__law_tree.kp b__law_tree .nil pass0 (qa_cons (qv 1) (qa_cons qe_int qa_nil))))
      (qss_cons (qs_set (i := 4) sc_law.nd rfl (Or.inl rfl) (qe_call0 G_selfrunner hr rfl m_selfrunner F_selfrunner.kp b_selfrunner .nil pass0))
      (qss_cons (qs_set (i := 5) sc_law.nd rfl (Or.inl rfl) (qe_op op_catTA (qe_tup (qa_cons (qv 2) qa_nil)) (qv 3)))
      (qss_cons (qs_set (i := 6) sc_law.nd rfl (Or.inl rfl) (qe_tup (qa_cons (qe_tup (qa_cons (qv 4) qa_nil)) (qa_cons (qe_tup (qa_cons (qv 5) qa_nil)) qa_nil))))
      (qss_cons (qs_set (i := 7) sc_law.nd rfl (Or.inl rfl) (qe_tup (qa_cons (qe_tup (qa_cons (qv 2) qa_nil)) (qa_cons (qe_tup (qa_cons (qv 3) qa_nil)) qa_nil))))
      (qss_cons (qs_set (i := 8) sc_law.nd rfl (Or.inl rfl) (qe_tup (qa_cons (qe_tup (qa_cons (qv 4) qa_nil)) (qa_cons (qe_tup (qa_cons (qe_op op_catTA (qe_tup (qa_cons (qv 4) qa_nil)) (qv 5)) qa_nil)) qa_nil))))
      (qss_cons (qs_set (i := 9) sc_law.nd rfl (Or.inl rfl) qe_int)
      (qss_cons (qs_for PassesOwn.never rfl (qi_range1 rfl m_range (qa_cons qe_int qa_nil)) (qg_name (i := 10) sc_law.nd rfl (Or.inl rfl)) (qss_cons (qs_if (qt_val (qe_call G_ended hr rfl m_ended F_ended.kp b_ended .nil pass0 (qa_cons (qv 8) qa_nil))) (qss_one qs_break) qss_nil)
      (qss_cons (qs_set (i := 11) sc_law.nd rfl (Or.inl rfl) (qe_call G_shown hr rfl m_shown F_shown.kp b_shown .nil pass0 (qa_cons (qv 8) qa_nil)))
      (qss_cons (qs_if (qt_cmpR op_notN (qv 11) qe_non (nomark _)) (qss_cons (qs_if (qt_cmpR (op_neTr hE) (qv 11) (qv 6) (nomark _)) (qss_one (qs_ret qe_bl)) qss_nil)
      (qss_cons (qs_set (i := 9) sc_law.nd rfl (Or.inl rfl) (qe_op op_add (qv 9) qe_int))
      (qss_cons (qs_set (i := 12) sc_law.nd rfl (Or.inl rfl) (qe_call G_shown hr rfl m_shown F_shown.kp b_shown .nil pass0 (qa_cons (qv 6) qa_nil)))
      (qss_cons (qs_if (qt_cmpR op_notN (qv 12) qe_non (nomark _)) (qss_cons (qs_if (qt_cmpR (op_neTr hE) (qv 12) (qv 7) (nomark _)) (qss_one (qs_ret qe_bl)) qss_nil)
      (qss_one (qs_if (qt_cmpR (op_neTr hE) (qe_ix ix_tup (qv 7) qe_int (fun _ _ => rfl)) (qe_tup qa_nil) (nomark _)) (qss_one (qs_set (i := 7) sc_law.nd rfl (Or.inl rfl) (qe_call G__law_behind hr rfl m__law_behind F__law_behind.kp b__law_behind .nil pass0 (qa_cons (qv 7) qa_nil)))) qss_nil))) qss_nil)
      (qss_one (qs_if (qt_not (qt_val (qe_call G_ended hr rfl m_ended F_ended.kp b_ended .nil pass0 (qa_cons (qv 6) qa_nil)))) (qss_one (qs_set (i := 6) sc_law.nd rfl (Or.inl rfl) (qe_call G_next_of hr rfl m_next_of F_next_of.kp b_next_of .nil pass0 (qa_cons (qv 6) qa_nil)))) qss_nil)))))) qss_nil)
      (qss_one (qs_set (i := 8) sc_law.nd rfl (Or.inl rfl) (qe_call G_next_of hr rfl m_next_of F_next_of.kp b_next_of .nil pass0 (qa_cons (qv 8) qa_nil))))))))
      (qss_one (qs_ret (qe_cmpR op_gt (qv 9) qe_int (nomark _)))))))))))))), ?_⟩
  refine setQ (fun v => [some (.ref a), some v, none, none, none, none, none, none, none, none, none, none, none]) (fun _ => rfl) (fun v H' => ∃ p, v = .ref p ∧ Same H H' ∧ H p = none ∧ DkAt H' p) (fun R r => ⟨_, rfl, a, ns, rfl, hl, h63, fun p H1 S1 hp0 hk => r _ _ ⟨p, rfl, S1, hp0, hk⟩⟩) (fun v1 H1 h1 => ?_)
  obtain ⟨p, rfl, _, _, hk⟩ := h1
  have D1 := Dr.refl hk
  have q2 : pbT 2 = 13 := rfl
  have pw1 : pw5 1 = 422 := rfl
  refine setQ (fun v => [some (.ref a), some (.ref p), some v, none, none, none, none, none, none, none, none, none, none]) (fun _ => rfl) (fun v H' => ∃ ws, Dr p H1 H' ∧ TR K H' (.node ws) v ∧ (∀ w ∈ ws, ShW5 1 w) ∧ ws.length ≤ 3) (fun R r => ⟨_, rfl, p, 1, 3, rfl, by decide, by decide, D1.deck, fun y t H2 D2 ht hs hl2 => ?_⟩) (fun v2 H2 h2 => ?_)
  · cases t with
    | node ws => exact r _ _ ⟨ws, D1.trans D2, ht, hs, hl2⟩
  obtain ⟨ws, D2, t2, hws, hwl⟩ := h2
  refine setQ (fun v => [some (.ref a), some (.ref p), some v2, some v, none, none, none, none, none, none, none, none, none]) (fun _ => rfl) (fun v H' => ∃ its, TR K H' (.node ws) v2 ∧ TR K H' (.node its) v ∧ ShT 2 (.node its)) (fun R r => ⟨_, rfl, p, 2, rfl, by decide, D2.deck, fun y t H3 D3 ht hs => ?_⟩) (fun v3 H3 h3 => ?_)
  · cases t with
    | node its => exact r _ _ ⟨its, t2.mono (D3.kt D2.deck), ht, hs⟩
  obtain ⟨its, t23, t3, hts⟩ := h3
  have hwp : ∀ w ∈ ws, w.parts ≤ 422 := fun w hw => by have := (hws w hw).2; omega
  have hpw : T.partsL ws ≤ 3 * 422 := partsL_le hwl hwp
  have hdw : T.deepL ws ≤ 7 := T.deepL_le_of fun w hw => by have := (hws w hw).1; omega
  have hti := hts.1
  have htp := hts.2
  rw [T.deep_node] at hti
  rw [T.parts_node, q2] at htp
  have hil := T.len_le_parts its
  have hd : dpLe 40 ([.node ws], [.node its]) := ⟨by show (T.node [.node ws]).deep ≤ 40; rw [d_one]; omega, by show (T.node [.node its]).deep ≤ 40; rw [d_one]; omega⟩
  have hw : wt ([.node ws], [.node its]) ≤ 20000 := by show T.partsL [.node ws] + T.partsL [.node its] ≤ _; rw [p_one, p_one]; omega
  have hg : GRun ([.node ws], [.node its]) := run_small hd (fun t ht w hw => by rw [List.mem_singleton.mp ht] at hw; exact hwp w hw) (by rw [p_one]; omega) (by rw [p_one]; omega)
  clear hws hwl t2 D2
  -- the runner, what it is given, the inner stand, what is due, the outer stand
  refine setQ (fun v => [some (.ref a), some (.ref p), some v2, some v3, some v, none, none, none, none, none, none, none, none]) (fun _ => rfl) (fun v H' => Same H3 H' ∧ TR K H' (.node tSelf) v) (fun R r => ⟨rfl, fun y H4 S4 t4 => r _ _ ⟨S4, t4⟩⟩) (fun v4 H4 h4 => ?_)
  obtain ⟨S4, t4⟩ := h4
  have t24 := t23.mono (K := K) (.of S4)
  have t34 := t3.mono (K := K) (.of S4)
  refine setQ (fun v => [some (.ref a), some (.ref p), some v2, some v3, some v4, some v, none, none, none, none, none, none, none]) (fun _ => rfl) (fun v H' => Same H4 H' ∧ TR K H' (.node (.node ws :: its)) v) (fun R r => ⟨_, rfl, (by show 1 ≤ sizeLine; decide), fun p1 g1 => ?_⟩) (fun v5 H5 h5 => ?_)
  · obtain ⟨S1, t1⟩ := tupN (K := K) g1 (trs1 t24)
    exact ⟨_, rfl, nCat t1 (t34.mono (.of S1)) (small (by show 1 + its.length ≤ _; omega)) (fun y2 H6 S2 t2 => r _ _ ⟨S1.trans S2, t2⟩)⟩
  obtain ⟨S5, t5⟩ := h5
  have t45 := t4.mono (K := K) (.of S5)
  have t25 := t24.mono (K := K) (.of S5)
  have t35 := t34.mono (K := K) (.of S5)
  refine setQ (fun v => [some (.ref a), some (.ref p), some v2, some v3, some v4, some v5, some v, none, none, none, none, none, none]) (fun _ => rfl) (fun v H' => Same H5 H' ∧ TR K H' (.node [.node [.node tSelf], .node [.node (.node ws :: its)]]) v) (fun R r => ⟨_, rfl, (by show 1 ≤ sizeLine; decide), fun p1 g1 => ⟨_, rfl, (by show 1 ≤ sizeLine; decide), fun p2 g2 => ⟨(by show 2 ≤ sizeLine; decide), fun p3 g3 => ?_⟩⟩⟩) (fun v6 H6 h6 => ?_)
  · obtain ⟨S1, t1⟩ := tupN (K := K) g1 (trs1 t45)
    obtain ⟨S2, t2⟩ := tupN (K := K) g2 (trs1 (t5.mono (.of S1)))
    obtain ⟨S3, t3⟩ := tupN (K := K) g3 (trs2 (t1.mono (.of S2)) t2)
    exact r _ _ ⟨S1.trans (S2.trans S3), t3⟩
  obtain ⟨S6, t6⟩ := h6
  have t46 := t45.mono (K := K) (.of S6)
  have t56 := t5.mono (K := K) (.of S6)
  have t26 := t25.mono (K := K) (.of S6)
  have t36 := t35.mono (K := K) (.of S6)
  refine setQ (fun v => [some (.ref a), some (.ref p), some v2, some v3, some v4, some v5, some v6, some v, none, none, none, none, none]) (fun _ => rfl) (fun v H' => Same H6 H' ∧ TR K H' (.node [.node [.node ws], .node [.node its]]) v) (fun R r => ⟨_, rfl, (by show 1 ≤ sizeLine; decide), fun p1 g1 => ⟨_, rfl, (by show 1 ≤ sizeLine; decide), fun p2 g2 => ⟨(by show 2 ≤ sizeLine; decide), fun p3 g3 => ?_⟩⟩⟩) (fun v7 H7 h7 => ?_)
  · obtain ⟨S1, t1⟩ := tupN (K := K) g1 (trs1 t26)
    obtain ⟨S2, t2⟩ := tupN (K := K) g2 (trs1 (t36.mono (.of S1)))
    obtain ⟨S3, t3⟩ := tupN (K := K) g3 (trs2 (t1.mono (.of S2)) t2)
    exact r _ _ ⟨S1.trans (S2.trans S3), t3⟩
  obtain ⟨S7, t7⟩ := h7
  have t47 := t46.mono (K := K) (.of S7)
  have t57 := t56.mono (K := K) (.of S7)
  have t67 := t6.mono (K := K) (.of S7)
  refine setQ (fun v => [some (.ref a), some (.ref p), some v2, some v3, some v4, some v5, some v6, some v7, some v, none, none, none, none]) (fun _ => rfl) (fun v H' => Same H7 H' ∧ TR K H' (.node [.node [.node tSelf], .node [.node (.node tSelf :: .node ws :: its)]]) v) (fun R r => ⟨_, rfl, (by show 1 ≤ sizeLine; decide), fun p1 g1 => ⟨_, rfl, (by show 1 ≤ sizeLine; decide), fun p2 g2 => ?_⟩⟩) (fun v8 H8 h8 => ?_)
  · obtain ⟨S1, t1⟩ := tupN (K := K) g1 (trs1 t47)
    obtain ⟨S2, t2⟩ := tupN (K := K) g2 (trs1 (t47.mono (.of S1)))
    refine ⟨_, rfl, nCat t2 (t57.mono (.of (S1.trans S2))) (small (by show 1 + (its.length + 1) ≤ _; omega)) (fun y4 H9 S4 t4 => ⟨(by show 1 ≤ sizeLine; decide), fun p5 g5 => ⟨(by show 2 ≤ sizeLine; decide), fun p6 g6 => ?_⟩⟩)⟩
    obtain ⟨S5, t5⟩ := tupN (K := K) g5 (trs1 t4)
    obtain ⟨S6, t6⟩ := tupN (K := K) g6 (trs2 (t1.mono (.of (S2.trans (S4.trans S5)))) t5)
    exact r _ _ ⟨S1.trans (S2.trans (S4.trans (S5.trans S6))), t6⟩
  obtain ⟨S8, t8⟩ := h8
  have t68 := t67.mono (K := K) (.of S8)
  have t78 := t7.mono (K := K) (.of S8)
  refine setQ (fun v => [some (.ref a), some (.ref p), some v2, some v3, some v4, some v5, some v6, some v7, some v8, some v, none, none, none]) (fun _ => rfl) (fun v H' => v = .int ((0 : Nat) : Int) ∧ H' = H8) (fun R r => r _ _ ⟨rfl, rfl⟩) (fun v9 H9 h9 => ?_)
  obtain ⟨rfl, rfl⟩ := h9
  have hb := J53.begin hd hw
  generalize hd0 : (([.node ws], [.node its]) : Std) = d0 at hg hb
  refine ⟨1200, rfl, by decide, by decide, ?_⟩
  refine for_range (n := 1200) (fun k σ' H' => ∃ (vi vd vs : V) (h : Nat) (o i d : Std) (o10 o11 o12 : Option V), σ' = [some (.ref a), some (.ref p), some v2, some v3, some v4, some v5, some vi, some vd, some vs, some (.int (h : Int)), o10, o11, o12] ∧ TR K H' (.node [.node i.1, .node i.2]) vi ∧ TR K H' (.node [.node d.1, .node d.2]) vd ∧ TR K H' (.node [.node o.1, .node o.2]) vs ∧ J53 d0 k o i d h) ?_ ?_ ?_
  · subst hd0
    exact ⟨v6, v7, v8, 0, _, _, _, _, _, _, rfl, t68, t78, t8, hb⟩
  · rintro k σ' H' hk ⟨vi, vd, vs, h, o, i, d, o10, o11, o12, rfl, ti, td, ts, j⟩
    dsimp only [gName]
    obtain ⟨oko, oki, okd⟩ := j.ok hg (by omega)
    obtain ⟨bx, bs⟩ := okSt.bx (tx := o.1) (s := o.2) oko
    obtain ⟨bxi, bsi⟩ := okSt.bx (tx := i.1) (s := i.2) oki
    obtain ⟨bxd, bsd⟩ := okSt.bx (tx := d.1) (s := d.2) okd
    have ddi : (T.node [.node i.1, .node i.2]).deep ≤ 400 := by
      have z1 := oki.1
      have z2 := oki.2.1
      rw [T.deep_node] at z1 z2
      rw [d_two]; omega
    have ddd : (T.node [.node d.1, .node d.2]).deep ≤ 400 := by
      have z1 := okd.1
      have z2 := okd.2.1
      rw [T.deep_node] at z1 z2
      rw [d_two]; omega
    refine ⟨_, rfl, vs, o.1, o.2, rfl, ts, bx, bs, fun H1 S1 => ⟨_, rfl, ?_⟩⟩
    rcases j.turn hg (by omega) with ⟨e0, hh⟩ | ⟨hne, hnh, j'⟩ | ⟨eo, hcase⟩
    · rw [decide_eq_true (show o.1.length = 0 by rw [e0]; rfl)]
      refine iteT ?_
      refine ⟨_, rfl, _, _, rfl, rfl, ?_⟩
      show Q (.bl (decide ((h : Int) > 0))) H1
      rw [decide_eq_true (show (h : Int) > 0 by omega)]
      exact q _
    · rw [decide_eq_false (fun z => hne (List.length_eq_zero_iff.mp z))]
      refine iteF ?_
      dsimp only [tNext]
      refine ⟨_, rfl, vs, o.1, o.2, rfl, ts.mono (.of S1), oko.1, .inl ⟨hnh, fun H2 S2 => ?_⟩⟩
      refine ⟨_, rfl, rfl, _, rfl, ?_⟩
      rw [decide_eq_true (rfl : V.non = V.non)]
      refine iteF ?_
      have S12 := S1.trans S2
      refine ⟨_, rfl, vs, o.1, o.2, rfl, ts.mono (.of S12), hne, bx, bs, fun y3 H4 S3 t3 => ?_⟩
      exact ⟨vi, vd, y3, h, nx o, i, d, _, _, _, rfl, ti.mono (.of (S12.trans S3)), td.mono (.of (S12.trans S3)), t3, j'⟩
    · have hne : o.1 ≠ [] := by rw [eo]; simp [headOf]
      have hhd : ats o.1 0 = .node tHead := by rw [eo]; rfl
      have htk : o.2.take 2 = [.node i.1, .node i.2] := by rw [eo]; rfl
      rw [decide_eq_false (fun z => hne (List.length_eq_zero_iff.mp z))]
      refine iteF ?_
      dsimp only [tNext]
      refine ⟨_, rfl, vs, o.1, o.2, rfl, ts.mono (.of S1), oko.1, .inr ⟨hhd, fun y2 H2 S2 t2 => ?_⟩⟩
      rw [htk] at t2
      obtain ⟨b2, z1, z2, rfl, hb2, _, _⟩ := TR_two t2
      have S12 := S1.trans S2
      -- the join behind the head
      dsimp only [gName]
      refine ifJoin (fun σ8 H8 => ∃ (vi vd : V) (h : Nat) (i d : Std) (o12 : Option V), σ8 = [some (.ref a), some (.ref p), some v2, some v3, some v4, some v5, some vi, some vd, some vs, some (.int (h : Int)), some (.int (0 + (k : Int))), some (.ref b2), o12] ∧ Same H' H8 ∧ TR K H8 (.node [.node i.1, .node i.2]) vi ∧ TR K H8 (.node [.node d.1, .node d.2]) vd ∧ J53 d0 (k + 1) (nx o) i d h) (fun σ8 H8 h8 => ?_) (fun N hN => ?_)
      · obtain ⟨vi, vd, h, i, d, o12, rfl, S8, ti8, td8, j8⟩ := h8
        refine ⟨_, rfl, vs, o.1, o.2, rfl, ts.mono (.of S8), hne, bx, bs, fun y3 H4 S3 t3 => ?_⟩
        exact ⟨vi, vd, y3, h, nx o, i, d, _, _, _, rfl, ti8.mono (.of S3), td8.mono (.of S3), t3, j8⟩
      refine ⟨_, rfl, rfl, _, rfl, ?_⟩
      rw [decide_eq_false (show ¬ V.ref b2 = V.non from fun z => by cases z)]
      refine iteT ?_
      have ti2 := ti.mono (K := K) (.of S12)
      have td2 := td.mono (K := K) (.of S12)
      refine ⟨_, rfl, _, rfl, _, _, t2, ti2, ddi, _, rfl, ?_⟩
      rw [T.beq_self]
      refine iteF ?_
      dsimp only [tNext]
      refine setQ (fun v => [some (.ref a), some (.ref p), some v2, some v3, some v4, some v5, some vi, some vd, some vs, some v, some (.int (0 + (k : Int))), some (.ref b2), o12]) (fun _ => rfl) (fun v H'' => v = .int ((h + 1 : Nat) : Int) ∧ H'' = H2) (fun R r => ⟨_, rfl, _, _, rfl, rfl, r _ _ ⟨rfl, rfl⟩⟩) (fun v9 H9 h9 => ?_)
      obtain ⟨rfl, rfl⟩ := h9
      rcases hcase with ⟨ei, hc⟩ | ⟨hni, hc⟩
      · have hnei : i.1 ≠ [] := by rw [ei]; simp [headOf]
        have hhi : ats i.1 0 = .node tHead := by rw [ei]; rfl
        have htki : i.2.take 2 = [.node d.1, .node d.2] := by rw [ei]; rfl
        refine ⟨_, rfl, vi, i.1, i.2, rfl, ti2, oki.1, .inr ⟨hhi, fun y3 H3 S3 t3 => ?_⟩⟩
        rw [htki] at t3
        obtain ⟨b3, z3, z4, rfl, hb3, _, _⟩ := TR_two t3
        have td3 := td2.mono (K := K) (.of S3)
        have ti3 := ti2.mono (K := K) (.of S3)
        -- what is due goes on, or stays
        dsimp only [gName]
        refine ifJoin (fun σ8 H8 => ∃ (vd' : V) (d' : Std), σ8 = [some (.ref a), some (.ref p), some v2, some v3, some v4, some v5, some vi, some vd', some vs, some (.int ((h + 1 : Nat) : Int)), some (.int (0 + (k : Int))), some (.ref b2), some (.ref b3)] ∧ Same H' H8 ∧ TR K H8 (.node [.node d'.1, .node d'.2]) vd' ∧ J53 d0 (k + 1) (nx o) (nx i) d' (h + 1)) (fun σ8 H8 h8 => ?_) (fun N2 hN2 => ?_)
        · obtain ⟨vd', d', rfl, S8, td8, j8⟩ := h8
          have ti8 := ti.mono (K := K) (.of S8)
          refine ⟨_, rfl, vi, i.1, i.2, rfl, ti8, bxi, bsi, fun H5 S5 => ⟨_, rfl, ?_⟩⟩
          rw [decide_eq_false (fun z => hnei (List.length_eq_zero_iff.mp z))]
          refine iteT ?_
          refine ⟨_, rfl, vi, i.1, i.2, rfl, ti8.mono (.of S5), hnei, bxi, bsi, fun y6 H6 S6 t6 => ?_⟩
          exact hN _ _ ⟨y6, vd', h + 1, nx i, d', _, rfl, S8.trans (S5.trans S6), t6, td8.mono (.of (S5.trans S6)), j8⟩
        refine ⟨_, rfl, rfl, _, rfl, ?_⟩
        rw [decide_eq_false (show ¬ V.ref b3 = V.non from fun z => by cases z)]
        refine iteT ?_
        refine ⟨_, rfl, _, rfl, _, _, t3, td3, ddd, _, rfl, ?_⟩
        rw [T.beq_self]
        refine iteF ?_
        dsimp only [tNext]
        refine ⟨_, rfl, nIxP td3 0 rfl (fun v4 t4 => ⟨Nat.zero_le _, fun p5 g5 => ⟨_, leaf, t4.mono (.new g5), leaf_tr upd_same, by have := okd.1; omega, _, rfl, ?_⟩⟩)⟩
        rw [leaf_iff, show (T.node d.1).kids = d.1 from rfl]
        have S5 := same_new g5 (.tup [])
        rcases hc with ⟨h0, j'⟩ | ⟨h0, j'⟩
        · rw [decide_eq_false h0]
          refine iteT ?_
          refine ⟨_, rfl, vd, d.1, d.2, rfl, td3.mono (.of S5), h0, bxd, bsd, fun y6 H6 S6 t6 => ?_⟩
          exact hN2 _ _ ⟨y6, nx d, rfl, S12.trans (S3.trans (S5.trans S6)), t6, j'⟩
        · rw [decide_eq_true h0]
          refine iteF ?_
          exact hN2 _ _ ⟨vd, d, rfl, S12.trans (S3.trans S5), td3.mono (.of S5), j'⟩
      · refine ⟨_, rfl, vi, i.1, i.2, rfl, ti2, oki.1, .inl ⟨hni, fun H3 S3 => ?_⟩⟩
        have ti3 := ti2.mono (K := K) (.of S3)
        have td3 := td2.mono (K := K) (.of S3)
        refine ⟨_, rfl, rfl, _, rfl, ?_⟩
        rw [decide_eq_true (rfl : V.non = V.non)]
        refine iteF ?_
        refine ⟨_, rfl, vi, i.1, i.2, rfl, ti3, bxi, bsi, fun H5 S5 => ⟨_, rfl, ?_⟩⟩
        have S15 := S12.trans (S3.trans S5)
        rcases hc with ⟨h0, j'⟩ | ⟨h0, j'⟩
        · rw [decide_eq_false (fun z => h0 (List.length_eq_zero_iff.mp z))]
          refine iteT ?_
          refine ⟨_, rfl, vi, i.1, i.2, rfl, ti3.mono (.of S5), h0, bxi, bsi, fun y6 H6 S6 t6 => ?_⟩
          exact hN _ _ ⟨y6, vd, h + 1, nx i, d, _, rfl, S15.trans S6, t6, td3.mono (.of (S5.trans S6)), j'⟩
        · rw [decide_eq_true (show i.1.length = 0 by rw [h0]; rfl)]
          refine iteF ?_
          exact hN _ _ ⟨vi, vd, h + 1, i, d, _, rfl, S15, ti3.mono (.of S5), td3.mono (.of S5), j'⟩
  · rintro σ' H' ⟨vi, vd, vs, h, o, i, d, o10, o11, o12, rfl, ti, td, ts, j⟩
    have hh := j.heads
    refine ⟨_, rfl, _, _, rfl, rfl, ?_⟩
    show Q (.bl (decide ((h : Int) > 0))) H'
    rw [decide_eq_true (show (h : Int) > 0 by omega)]
    exact q _
end
end Sw53

namespace Sw53
open PySem PySem.Spec PyProof.Rows L2 Sw
theorem all_mk {l : PySem.W.OpenLaw} {w : World} {K : PySem.W.Frag} {h : Heap} {mg : Str → Option Value} {fa f1 f2 f3 f4 f5 f6 f7 f8 f9 f10 f11 f12 f13 f14 f15 f16 f17 f18 f19 f20 f21 f22 f23 f24 f25 f26 f27 f28 f29 f30 f31 f33 f34 f35 f36 f37 : Addr} (X : K.In h) (G : h.Ns mainGlobals mg) (hfa : mg "law" = some (.ref fa))  {a_NAMES : Addr} {o_NAMES : Obj} {u_NAMELESS : Value} {u_FORK : Value} {u_WHILE : Value} {u_LAY : Value} {u_LAID : Value} {u_TOP_REACHED : Value} {u_INTO_NO : Value} {u_INTO_YES : Value} {u_STACK_PARTED : Value} {a_WORKED : Addr} {o_WORKED : Obj} {u_PAST_BODY : Value} {u_INTO_BODY : Value} {a_LOOKS : Addr} {o_LOOKS : Obj} {u_SHUT : Value} {u_FORK_YES : Value} {u_FORK_NO : Value} {u_WHILE_INTO : Value} {u_WHILE_PAST : Value} {u_NO_WORD : Value} {u_DROP : Value} {u_TWIN : Value} {u_SWAP : Value} {u_FRONT : Value} {u_PART : Value} {u_TURN : Value}
    {od1 an1 od2 an2 od3 an3 od4 an4 od5 an5 od6 an6 od7 an7 od8 an8 od9 an9 od10 an10 od11 an11 od12 an12 od13 an13 od14 an14 od15 an15 od16 an16 od17 an17 od18 an18 od19 an19 od20 an20 od21 an21 od22 an22 od23 an23 od24 an24 od25 an25 od26 an26 od27 an27 od28 an28 od29 an29 od30 an30 od31 an31 od33 an33 od34 an34 od35 an35 od36 an36 od37 an37 : Option Addr} {sl1 sl2 sl3 sl4 sl5 sl6 sl7 sl8 sl9 sl10 sl11 sl12 sl13 sl14 sl15 sl16 sl17 sl18 sl19 sl20 sl21 sl22 sl23 sl24 sl25 sl26 sl27 sl28 sl29 sl30 sl31 sl33 sl34 sl35 sl36 sl37 : Array (Option Value)} {oc1 kV1 dc1 pm1 cd1 ct1 oc2 kV2 dc2 pm2 cd2 ct2 oc3 kV3 dc3 pm3 cd3 ct3 oc4 kV4 dc4 pm4 cd4 ct4 oc5 kV5 dc5 pm5 cd5 ct5 oc6 kV6 dc6 pm6 cd6 ct6 oc7 kV7 dc7 pm7 cd7 ct7 oc8 kV8 dc8 pm8 cd8 ct8 oc9 kV9 dc9 pm9 cd9 ct9 oc10 kV10 dc10 pm10 cd10 ct10 oc11 kV11 dc11 pm11 cd11 ct11 oc12 kV12 dc12 pm12 cd12 ct12 oc13 kV13 dc13 pm13 cd13 ct13 oc14 kV14 dc14 pm14 cd14 ct14 oc15 kV15 dc15 pm15 cd15 ct15 oc16 kV16 dc16 pm16 cd16 ct16 oc17 kV17 dc17 pm17 cd17 ct17 oc18 kV18 dc18 pm18 cd18 ct18 oc19 kV19 dc19 pm19 cd19 ct19 oc20 kV20 dc20 pm20 cd20 ct20 oc21 kV21 dc21 pm21 cd21 ct21 oc22 kV22 dc22 pm22 cd22 ct22 oc23 kV23 dc23 pm23 cd23 ct23 oc24 kV24 dc24 pm24 cd24 ct24 oc25 kV25 dc25 pm25 cd25 ct25 oc26 kV26 dc26 pm26 cd26 ct26 oc27 kV27 dc27 pm27 cd27 ct27 oc28 kV28 dc28 pm28 cd28 ct28 oc29 kV29 dc29 pm29 cd29 ct29 oc30 kV30 dc30 pm30 cd30 ct30 oc31 kV31 dc31 pm31 cd31 ct31 oc33 kV33 dc33 pm33 cd33 ct33 oc34 kV34 dc34 pm34 cd34 ct34 oc35 kV35 dc35 pm35 cd35 ct35 oc36 kV36 dc36 pm36 cd36 ct36 oc37 kV37 dc37 pm37 cd37 ct37 : Value}
    (a1 : PySem.W.nsIn K mainGlobals "first" = some (some (.ref f1))) (l1 : K.lookup f1 = some ⟨oc1, od1, .func (PySem.W.fnOf "first" "first" (defArgs s_first) (defBody s_first) (defScope s_first) .none kV1 dc1 pm1 an1 cd1 ct1), sl1⟩) (c1 : PySem.W.codeIn K cd1 "first" = true) (k1 : PySem.W.keepIn K (.ref f1) = true)
    (a2 : PySem.W.nsIn K mainGlobals "rest" = some (some (.ref f2))) (l2 : K.lookup f2 = some ⟨oc2, od2, .func (PySem.W.fnOf "rest" "rest" (defArgs s_rest) (defBody s_rest) (defScope s_rest) .none kV2 dc2 pm2 an2 cd2 ct2), sl2⟩) (c2 : PySem.W.codeIn K cd2 "rest" = true) (k2 : PySem.W.keepIn K (.ref f2) = true)
    (a3 : PySem.W.nsIn K mainGlobals "sort_of" = some (some (.ref f3))) (l3 : K.lookup f3 = some ⟨oc3, od3, .func (PySem.W.fnOf "sort_of" "sort_of" (defArgs s_sort_of) (defBody s_sort_of) (defScope s_sort_of) .none kV3 dc3 pm3 an3 cd3 ct3), sl3⟩) (c3 : PySem.W.codeIn K cd3 "sort_of" = true) (k3 : PySem.W.keepIn K (.ref f3) = true)
    (a4 : PySem.W.nsIn K mainGlobals "load_of" = some (some (.ref f4))) (l4 : K.lookup f4 = some ⟨oc4, od4, .func (PySem.W.fnOf "load_of" "load_of" (defArgs s_load_of) (defBody s_load_of) (defScope s_load_of) .none kV4 dc4 pm4 an4 cd4 ct4), sl4⟩) (c4 : PySem.W.codeIn K cd4 "load_of" = true) (k4 : PySem.W.keepIn K (.ref f4) = true)
    (a5 : PySem.W.nsIn K mainGlobals "lay" = some (some (.ref f5))) (l5 : K.lookup f5 = some ⟨oc5, od5, .func (PySem.W.fnOf "lay" "lay" (defArgs s_lay) (defBody s_lay) (defScope s_lay) .none kV5 dc5 pm5 an5 cd5 ct5), sl5⟩) (c5 : PySem.W.codeIn K cd5 "lay" = true) (k5 : PySem.W.keepIn K (.ref f5) = true)
    (a6 : PySem.W.nsIn K mainGlobals "plain" = some (some (.ref f6))) (l6 : K.lookup f6 = some ⟨oc6, od6, .func (PySem.W.fnOf "plain" "plain" (defArgs s_plain) (defBody s_plain) (defScope s_plain) .none kV6 dc6 pm6 an6 cd6 ct6), sl6⟩) (c6 : PySem.W.codeIn K cd6 "plain" = true) (k6 : PySem.W.keepIn K (.ref f6) = true)
    (a7 : PySem.W.nsIn K mainGlobals "fork" = some (some (.ref f7))) (l7 : K.lookup f7 = some ⟨oc7, od7, .func (PySem.W.fnOf "fork" "fork" (defArgs s_fork) (defBody s_fork) (defScope s_fork) .none kV7 dc7 pm7 an7 cd7 ct7), sl7⟩) (c7 : PySem.W.codeIn K cd7 "fork" = true) (k7 : PySem.W.keepIn K (.ref f7) = true)
    (a8 : PySem.W.nsIn K mainGlobals "loop" = some (some (.ref f8))) (l8 : K.lookup f8 = some ⟨oc8, od8, .func (PySem.W.fnOf "loop" "loop" (defArgs s_loop) (defBody s_loop) (defScope s_loop) .none kV8 dc8 pm8 an8 cd8 ct8), sl8⟩) (c8 : PySem.W.codeIn K cd8 "loop" = true) (k8 : PySem.W.keepIn K (.ref f8) = true)
    (a9 : PySem.W.nsIn K mainGlobals "plains" = some (some (.ref f9))) (l9 : K.lookup f9 = some ⟨oc9, od9, .func (PySem.W.fnOf "plains" "plains" (defArgs s_plains) (defBody s_plains) (defScope s_plains) .none kV9 dc9 pm9 an9 cd9 ct9), sl9⟩) (c9 : PySem.W.codeIn K cd9 "plains" = true) (k9 : PySem.W.keepIn K (.ref f9) = true)
    (a10 : PySem.W.nsIn K mainGlobals "selfrunner" = some (some (.ref f10))) (l10 : K.lookup f10 = some ⟨oc10, od10, .func (PySem.W.fnOf "selfrunner" "selfrunner" (defArgs s_selfrunner) (defBody s_selfrunner) (defScope s_selfrunner) .none kV10 dc10 pm10 an10 cd10 ct10), sl10⟩) (c10 : PySem.W.codeIn K cd10 "selfrunner" = true) (k10 : PySem.W.keepIn K (.ref f10) = true)
    (a11 : PySem.W.nsIn K mainGlobals "opening" = some (some (.ref f11))) (l11 : K.lookup f11 = some ⟨oc11, od11, .func (PySem.W.fnOf "opening" "opening" (defArgs s_opening) (defBody s_opening) (defScope s_opening) .none kV11 dc11 pm11 an11 cd11 ct11), sl11⟩) (c11 : PySem.W.codeIn K cd11 "opening" = true) (k11 : PySem.W.keepIn K (.ref f11) = true)
    (a12 : PySem.W.nsIn K mainGlobals "from_head" = some (some (.ref f12))) (l12 : K.lookup f12 = some ⟨oc12, od12, .func (PySem.W.fnOf "from_head" "from_head" (defArgs s_from_head) (defBody s_from_head) (defScope s_from_head) .none kV12 dc12 pm12 an12 cd12 ct12), sl12⟩) (c12 : PySem.W.codeIn K cd12 "from_head" = true) (k12 : PySem.W.keepIn K (.ref f12) = true)
    (a13 : PySem.W.nsIn K mainGlobals "stepped" = some (some (.ref f13))) (l13 : K.lookup f13 = some ⟨oc13, od13, .func (PySem.W.fnOf "stepped" "stepped" (defArgs s_stepped) (defBody s_stepped) (defScope s_stepped) .none kV13 dc13 pm13 an13 cd13 ct13), sl13⟩) (c13 : PySem.W.codeIn K cd13 "stepped" = true) (k13 : PySem.W.keepIn K (.ref f13) = true)
    (a14 : PySem.W.nsIn K mainGlobals "by_sort" = some (some (.ref f14))) (l14 : K.lookup f14 = some ⟨oc14, od14, .func (PySem.W.fnOf "by_sort" "by_sort" (defArgs s_by_sort) (defBody s_by_sort) (defScope s_by_sort) .none kV14 dc14 pm14 an14 cd14 ct14), sl14⟩) (c14 : PySem.W.codeIn K cd14 "by_sort" = true) (k14 : PySem.W.keepIn K (.ref f14) = true)
    (a15 : PySem.W.nsIn K mainGlobals "gone_of" = some (some (.ref f15))) (l15 : K.lookup f15 = some ⟨oc15, od15, .func (PySem.W.fnOf "gone_of" "gone_of" (defArgs s_gone_of) (defBody s_gone_of) (defScope s_gone_of) .none kV15 dc15 pm15 an15 cd15 ct15), sl15⟩) (c15 : PySem.W.codeIn K cd15 "gone_of" = true) (k15 : PySem.W.keepIn K (.ref f15) = true)
    (a16 : PySem.W.nsIn K mainGlobals "while_gone" = some (some (.ref f16))) (l16 : K.lookup f16 = some ⟨oc16, od16, .func (PySem.W.fnOf "while_gone" "while_gone" (defArgs s_while_gone) (defBody s_while_gone) (defScope s_while_gone) .none kV16 dc16 pm16 an16 cd16 ct16), sl16⟩) (c16 : PySem.W.codeIn K cd16 "while_gone" = true) (k16 : PySem.W.keepIn K (.ref f16) = true)
    (a17 : PySem.W.nsIn K mainGlobals "nameless_gone" = some (some (.ref f17))) (l17 : K.lookup f17 = some ⟨oc17, od17, .func (PySem.W.fnOf "nameless_gone" "nameless_gone" (defArgs s_nameless_gone) (defBody s_nameless_gone) (defScope s_nameless_gone) .none kV17 dc17 pm17 an17 cd17 ct17), sl17⟩) (c17 : PySem.W.codeIn K cd17 "nameless_gone" = true) (k17 : PySem.W.keepIn K (.ref f17) = true)
    (a18 : PySem.W.nsIn K mainGlobals "shown" = some (some (.ref f18))) (l18 : K.lookup f18 = some ⟨oc18, od18, .func (PySem.W.fnOf "shown" "shown" (defArgs s_shown) (defBody s_shown) (defScope s_shown) .none kV18 dc18 pm18 an18 cd18 ct18), sl18⟩) (c18 : PySem.W.codeIn K cd18 "shown" = true) (k18 : PySem.W.keepIn K (.ref f18) = true)
    (a19 : PySem.W.nsIn K mainGlobals "ended" = some (some (.ref f19))) (l19 : K.lookup f19 = some ⟨oc19, od19, .func (PySem.W.fnOf "ended" "ended" (defArgs s_ended) (defBody s_ended) (defScope s_ended) .none kV19 dc19 pm19 an19 cd19 ct19), sl19⟩) (c19 : PySem.W.codeIn K cd19 "ended" = true) (k19 : PySem.W.keepIn K (.ref f19) = true)
    (a20 : PySem.W.nsIn K mainGlobals "next_of" = some (some (.ref f20))) (l20 : K.lookup f20 = some ⟨oc20, od20, .func (PySem.W.fnOf "next_of" "next_of" (defArgs s_next_of) (defBody s_next_of) (defScope s_next_of) .none kV20 dc20 pm20 an20 cd20 ct20), sl20⟩) (c20 : PySem.W.codeIn K cd20 "next_of" = true) (k20 : PySem.W.keepIn K (.ref f20) = true)
    (a21 : PySem.W.nsIn K mainGlobals "step_of" = some (some (.ref f21))) (l21 : K.lookup f21 = some ⟨oc21, od21, .func (PySem.W.fnOf "step_of" "step_of" (defArgs s_step_of) (defBody s_step_of) (defScope s_step_of) .none kV21 dc21 pm21 an21 cd21 ct21), sl21⟩) (c21 : PySem.W.codeIn K cd21 "step_of" = true) (k21 : PySem.W.keepIn K (.ref f21) = true)
    (a22 : PySem.W.nsIn K mainGlobals "place_of" = some (some (.ref f22))) (l22 : K.lookup f22 = some ⟨oc22, od22, .func (PySem.W.fnOf "place_of" "place_of" (defArgs s_place_of) (defBody s_place_of) (defScope s_place_of) .none kV22 dc22 pm22 an22 cd22 ct22), sl22⟩) (c22 : PySem.W.codeIn K cd22 "place_of" = true) (k22 : PySem.W.keepIn K (.ref f22) = true)
    (a23 : PySem.W.nsIn K mainGlobals "filled" = some (some (.ref f23))) (l23 : K.lookup f23 = some ⟨oc23, od23, .func (PySem.W.fnOf "filled" "filled" (defArgs s_filled) (defBody s_filled) (defScope s_filled) .none kV23 dc23 pm23 an23 cd23 ct23), sl23⟩) (c23 : PySem.W.codeIn K cd23 "filled" = true) (k23 : PySem.W.keepIn K (.ref f23) = true)
    (a24 : PySem.W.nsIn K mainGlobals "worked" = some (some (.ref f24))) (l24 : K.lookup f24 = some ⟨oc24, od24, .func (PySem.W.fnOf "worked" "worked" (defArgs s_worked) (defBody s_worked) (defScope s_worked) .none kV24 dc24 pm24 an24 cd24 ct24), sl24⟩) (c24 : PySem.W.codeIn K cd24 "worked" = true) (k24 : PySem.W.keepIn K (.ref f24) = true)
    (a25 : PySem.W.nsIn K mainGlobals "_law_deck" = some (some (.ref f25))) (l25 : K.lookup f25 = some ⟨oc25, od25, .func (PySem.W.fnOf "_law_deck" "_law_deck" (defArgs s__law_deck) (defBody s__law_deck) (defScope s__law_deck) .none kV25 dc25 pm25 an25 cd25 ct25), sl25⟩) (c25 : PySem.W.codeIn K cd25 "_law_deck" = true) (k25 : PySem.W.keepIn K (.ref f25) = true)
    (a26 : PySem.W.nsIn K mainGlobals "_law_next" = some (some (.ref f26))) (l26 : K.lookup f26 = some ⟨oc26, od26, .func (PySem.W.fnOf "_law_next" "_law_next" (defArgs s__law_next) (defBody s__law_next) (defScope s__law_next) .none kV26 dc26 pm26 an26 cd26 ct26), sl26⟩) (c26 : PySem.W.codeIn K cd26 "_law_next" = true) (k26 : PySem.W.keepIn K (.ref f26) = true)
    (a27 : PySem.W.nsIn K mainGlobals "_law_tree" = some (some (.ref f27))) (l27 : K.lookup f27 = some ⟨oc27, od27, .func (PySem.W.fnOf "_law_tree" "_law_tree" (defArgs s__law_tree) (defBody s__law_tree) (defScope s__law_tree) .none kV27 dc27 pm27 an27 cd27 ct27), sl27⟩) (c27 : PySem.W.codeIn K cd27 "_law_tree" = true) (k27 : PySem.W.keepIn K (.ref f27) = true)
    (a28 : PySem.W.nsIn K mainGlobals "_law_load" = some (some (.ref f28))) (l28 : K.lookup f28 = some ⟨oc28, od28, .func (PySem.W.fnOf "_law_load" "_law_load" (defArgs s__law_load) (defBody s__law_load) (defScope s__law_load) .none kV28 dc28 pm28 an28 cd28 ct28), sl28⟩) (c28 : PySem.W.codeIn K cd28 "_law_load" = true) (k28 : PySem.W.keepIn K (.ref f28) = true)
    (a29 : PySem.W.nsIn K mainGlobals "_law_word" = some (some (.ref f29))) (l29 : K.lookup f29 = some ⟨oc29, od29, .func (PySem.W.fnOf "_law_word" "_law_word" (defArgs s__law_word) (defBody s__law_word) (defScope s__law_word) .none kV29 dc29 pm29 an29 cd29 ct29), sl29⟩) (c29 : PySem.W.codeIn K cd29 "_law_word" = true) (k29 : PySem.W.keepIn K (.ref f29) = true)
    (a30 : PySem.W.nsIn K mainGlobals "_law_text" = some (some (.ref f30))) (l30 : K.lookup f30 = some ⟨oc30, od30, .func (PySem.W.fnOf "_law_text" "_law_text" (defArgs s__law_text) (defBody s__law_text) (defScope s__law_text) .none kV30 dc30 pm30 an30 cd30 ct30), sl30⟩) (c30 : PySem.W.codeIn K cd30 "_law_text" = true) (k30 : PySem.W.keepIn K (.ref f30) = true)
    (a31 : PySem.W.nsIn K mainGlobals "_law_first" = some (some (.ref f31))) (l31 : K.lookup f31 = some ⟨oc31, od31, .func (PySem.W.fnOf "_law_first" "_law_first" (defArgs s__law_first) (defBody s__law_first) (defScope s__law_first) .none kV31 dc31 pm31 an31 cd31 ct31), sl31⟩) (c31 : PySem.W.codeIn K cd31 "_law_first" = true) (k31 : PySem.W.keepIn K (.ref f31) = true)
    (a33 : PySem.W.nsIn K mainGlobals "_law_wide" = some (some (.ref f33))) (l33 : K.lookup f33 = some ⟨oc33, od33, .func (PySem.W.fnOf "_law_wide" "_law_wide" (defArgs s__law_wide) (defBody s__law_wide) (defScope s__law_wide) .none kV33 dc33 pm33 an33 cd33 ct33), sl33⟩) (c33 : PySem.W.codeIn K cd33 "_law_wide" = true) (k33 : PySem.W.keepIn K (.ref f33) = true)
    (a34 : PySem.W.nsIn K mainGlobals "_law_sort" = some (some (.ref f34))) (l34 : K.lookup f34 = some ⟨oc34, od34, .func (PySem.W.fnOf "_law_sort" "_law_sort" (defArgs s__law_sort) (defBody s__law_sort) (defScope s__law_sort) .none kV34 dc34 pm34 an34 cd34 ct34), sl34⟩) (c34 : PySem.W.codeIn K cd34 "_law_sort" = true) (k34 : PySem.W.keepIn K (.ref f34) = true)
    (a35 : PySem.W.nsIn K mainGlobals "_law_stack" = some (some (.ref f35))) (l35 : K.lookup f35 = some ⟨oc35, od35, .func (PySem.W.fnOf "_law_stack" "_law_stack" (defArgs s__law_stack) (defBody s__law_stack) (defScope s__law_stack) .none kV35 dc35 pm35 an35 cd35 ct35), sl35⟩) (c35 : PySem.W.codeIn K cd35 "_law_stack" = true) (k35 : PySem.W.keepIn K (.ref f35) = true)
    (a36 : PySem.W.nsIn K mainGlobals "_law_behind" = some (some (.ref f36))) (l36 : K.lookup f36 = some ⟨oc36, od36, .func (PySem.W.fnOf "_law_behind" "_law_behind" (defArgs s__law_behind) (defBody s__law_behind) (defScope s__law_behind) .none kV36 dc36 pm36 an36 cd36 ct36), sl36⟩) (c36 : PySem.W.codeIn K cd36 "_law_behind" = true) (k36 : PySem.W.keepIn K (.ref f36) = true)
    (a37 : PySem.W.nsIn K mainGlobals "law" = some (some (.ref f37))) (l37 : K.lookup f37 = some ⟨oc37, od37, .func (PySem.W.fnOf "law" "law" (defArgs s_law) (defBody s_law) (defScope s_law) .none kV37 dc37 pm37 an37 cd37 ct37), sl37⟩) (c37 : PySem.W.codeIn K cd37 "law" = true) (k37 : PySem.W.keepIn K (.ref f37) = true)
    (e_NAMES : PySem.W.nsIn K mainGlobals "NAMES" = some (some (.ref a_NAMES)))
    (l_NAMES : K.lookup a_NAMES = some o_NAMES)
    (y_NAMES : TupO o_NAMES [.str (PySem.Str.ofString "lay"), .str (PySem.Str.ofString "drop"), .str (PySem.Str.ofString "twin"), .str (PySem.Str.ofString "swap"), .str (PySem.Str.ofString "front"), .str (PySem.Str.ofString "part"), .str (PySem.Str.ofString "turn"), .str (PySem.Str.ofString "fork"), .str (PySem.Str.ofString "while")])
    (x_NAMES : o_NAMES.cls = .type "tuple" ∧ o_NAMES.dict = none)
    (e_NAMELESS : PySem.W.nsIn K mainGlobals "NAMELESS" = some (some u_NAMELESS))
    (r_NAMELESS : RelV (.int 9) u_NAMELESS)
    (e_FORK : PySem.W.nsIn K mainGlobals "FORK" = some (some u_FORK))
    (r_FORK : RelV (.int 7) u_FORK)
    (e_WHILE : PySem.W.nsIn K mainGlobals "WHILE" = some (some u_WHILE))
    (r_WHILE : RelV (.int 8) u_WHILE)
    (e_LAY : PySem.W.nsIn K mainGlobals "LAY" = some (some u_LAY))
    (r_LAY : RelV (.int 0) u_LAY)
    (e_LAID : PySem.W.nsIn K mainGlobals "LAID" = some (some u_LAID))
    (r_LAID : RelV (.str (PySem.Str.ofString "turn turn front turn turn front swap")) u_LAID)
    (e_TOP_REACHED : PySem.W.nsIn K mainGlobals "TOP_REACHED" = some (some u_TOP_REACHED))
    (r_TOP_REACHED : RelV (.str (PySem.Str.ofString "turn turn front turn part")) u_TOP_REACHED)
    (e_INTO_NO : PySem.W.nsIn K mainGlobals "INTO_NO" = some (some u_INTO_NO))
    (r_INTO_NO : RelV (.str (PySem.Str.ofString "front swap turn part drop front")) u_INTO_NO)
    (e_INTO_YES : PySem.W.nsIn K mainGlobals "INTO_YES" = some (some u_INTO_YES))
    (r_INTO_YES : RelV (.str (PySem.Str.ofString "front swap turn part swap drop front")) u_INTO_YES)
    (e_STACK_PARTED : PySem.W.nsIn K mainGlobals "STACK_PARTED" = some (some u_STACK_PARTED))
    (r_STACK_PARTED : RelV (.str (PySem.Str.ofString "drop front swap part")) u_STACK_PARTED)
    (e_WORKED : PySem.W.nsIn K mainGlobals "WORKED" = some (some (.ref a_WORKED)))
    (l_WORKED : K.lookup a_WORKED = some o_WORKED)
    (t_WORKED : TupO o_WORKED [.str (PySem.Str.ofString ""), .str (PySem.Str.ofString "drop"), .str (PySem.Str.ofString "twin turn swap front swap front"), .str (PySem.Str.ofString "swap part swap turn front swap front"), .str (PySem.Str.ofString "swap part turn front front"), .str (PySem.Str.ofString "part turn turn front swap front"), .str (PySem.Str.ofString "swap part swap part swap turn front turn front swap front")])
    (e_PAST_BODY : PySem.W.nsIn K mainGlobals "PAST_BODY" = some (some u_PAST_BODY))
    (r_PAST_BODY : RelV (.str (PySem.Str.ofString "front turn drop swap")) u_PAST_BODY)
    (e_INTO_BODY : PySem.W.nsIn K mainGlobals "INTO_BODY" = some (some u_INTO_BODY))
    (r_INTO_BODY : RelV (.str (PySem.Str.ofString "front swap turn part swap twin turn front turn part turn front front swap front")) u_INTO_BODY)
    (e_LOOKS : PySem.W.nsIn K mainGlobals "LOOKS" = some (some (.ref a_LOOKS)))
    (l_LOOKS : K.lookup a_LOOKS = some o_LOOKS)
    (t_LOOKS : TupO o_LOOKS [.int 0, .int 1, .int 1, .int 2, .int 2, .int 1, .int 3, .int 1, .int 1, .int 1, .int 1, .int 0, .int 0])
    (e_SHUT : PySem.W.nsIn K mainGlobals "SHUT" = some (some u_SHUT))
    (r_SHUT : RelV (.int 12) u_SHUT)
    (e_FORK_YES : PySem.W.nsIn K mainGlobals "FORK_YES" = some (some u_FORK_YES))
    (r_FORK_YES : RelV (.int 7) u_FORK_YES)
    (e_FORK_NO : PySem.W.nsIn K mainGlobals "FORK_NO" = some (some u_FORK_NO))
    (r_FORK_NO : RelV (.int 8) u_FORK_NO)
    (e_WHILE_INTO : PySem.W.nsIn K mainGlobals "WHILE_INTO" = some (some u_WHILE_INTO))
    (r_WHILE_INTO : RelV (.int 9) u_WHILE_INTO)
    (e_WHILE_PAST : PySem.W.nsIn K mainGlobals "WHILE_PAST" = some (some u_WHILE_PAST))
    (r_WHILE_PAST : RelV (.int 10) u_WHILE_PAST)
    (e_NO_WORD : PySem.W.nsIn K mainGlobals "NO_WORD" = some (some u_NO_WORD))
    (r_NO_WORD : RelV (.int 11) u_NO_WORD)
    (e_DROP : PySem.W.nsIn K mainGlobals "DROP" = some (some u_DROP))
    (r_DROP : RelV (.int 1) u_DROP)
    (e_TWIN : PySem.W.nsIn K mainGlobals "TWIN" = some (some u_TWIN))
    (r_TWIN : RelV (.int 2) u_TWIN)
    (e_SWAP : PySem.W.nsIn K mainGlobals "SWAP" = some (some u_SWAP))
    (r_SWAP : RelV (.int 3) u_SWAP)
    (e_FRONT : PySem.W.nsIn K mainGlobals "FRONT" = some (some u_FRONT))
    (r_FRONT : RelV (.int 4) u_FRONT)
    (e_PART : PySem.W.nsIn K mainGlobals "PART" = some (some u_PART))
    (r_PART : RelV (.int 5) u_PART)
    (e_TURN : PySem.W.nsIn K mainGlobals "TURN" = some (some u_TURN))
    (r_TURN : RelV (.int 6) u_TURN)
    (z_min : PySem.W.nsIn K mainGlobals "min" = some none) (z_len : PySem.W.nsIn K mainGlobals "len" = some none) (z_tuple : PySem.W.nsIn K mainGlobals "tuple" = some none) (z_range : PySem.W.nsIn K mainGlobals "range" = some none) (z_reversed : PySem.W.nsIn K mainGlobals "reversed" = some none) (z_int : PySem.W.nsIn K mainGlobals "int" = some none) :
    ∃ fd : FuncData, (∀ (s : Shared) (v : Value), BindsTo s fd ⟨[v], []⟩ [("_law_script", v)]) ∧ ∀ base : Heap, K.In base → base.Ns mainGlobals mg → FnOk l.prog w K mg base CX0 50 fa fd ["_law_script"] (spLaw K) := by
  have e := hfa.symm.trans (PySem.W.mg_of X G a37)
  cases e
  have F1 := fun_mk (st := s_first) l1 c1 k1
  have F2 := fun_mk (st := s_rest) l2 c2 k2
  have F3 := fun_mk (st := s_sort_of) l3 c3 k3
  have F4 := fun_mk (st := s_load_of) l4 c4 k4
  have F5 := fun_mk (st := s_lay) l5 c5 k5
  have F6 := fun_mk (st := s_plain) l6 c6 k6
  have F7 := fun_mk (st := s_fork) l7 c7 k7
  have F8 := fun_mk (st := s_loop) l8 c8 k8
  have F9 := fun_mk (st := s_plains) l9 c9 k9
  have F10 := fun_mk (st := s_selfrunner) l10 c10 k10
  have F11 := fun_mk (st := s_opening) l11 c11 k11
  have F12 := fun_mk (st := s_from_head) l12 c12 k12
  have F13 := fun_mk (st := s_stepped) l13 c13 k13
  have F14 := fun_mk (st := s_by_sort) l14 c14 k14
  have F15 := fun_mk (st := s_gone_of) l15 c15 k15
  have F16 := fun_mk (st := s_while_gone) l16 c16 k16
  have F17 := fun_mk (st := s_nameless_gone) l17 c17 k17
  have F18 := fun_mk (st := s_shown) l18 c18 k18
  have F19 := fun_mk (st := s_ended) l19 c19 k19
  have F20 := fun_mk (st := s_next_of) l20 c20 k20
  have F21 := fun_mk (st := s_step_of) l21 c21 k21
  have F22 := fun_mk (st := s_place_of) l22 c22 k22
  have F23 := fun_mk (st := s_filled) l23 c23 k23
  have F24 := fun_mk (st := s_worked) l24 c24 k24
  have F25 := fun_mk (st := s__law_deck) l25 c25 k25
  have F26 := fun_mk (st := s__law_next) l26 c26 k26
  have F27 := fun_mk (st := s__law_tree) l27 c27 k27
  have F28 := fun_mk (st := s__law_load) l28 c28 k28
  have F29 := fun_mk (st := s__law_word) l29 c29 k29
  have F30 := fun_mk (st := s__law_text) l30 c30 k30
  have F31 := fun_mk (st := s__law_first) l31 c31 k31
  have F33 := fun_mk (st := s__law_wide) l33 c33 k33
  have F34 := fun_mk (st := s__law_sort) l34 c34 k34
  have F35 := fun_mk (st := s__law_stack) l35 c35 k35
  have F36 := fun_mk (st := s__law_behind) l36 c36 k36
  have F37 := fun_mk (st := s_law) l37 c37 k37
  have b1 := F1.binds (ps := ["tree"]) fun _ _ _ _ _ _ us hl => match us, hl with | [_], _ => rfl
  have m1 := PySem.W.mg_of X G a1
  have b2 := F2.binds (ps := ["tree"]) fun _ _ _ _ _ _ us hl => match us, hl with | [_], _ => rfl
  have m2 := PySem.W.mg_of X G a2
  have b3 := F3.binds (ps := ["word"]) fun _ _ _ _ _ _ us hl => match us, hl with | [_], _ => rfl
  have m3 := PySem.W.mg_of X G a3
  have b4 := F4.binds (ps := ["word"]) fun _ _ _ _ _ _ us hl => match us, hl with | [_], _ => rfl
  have m4 := PySem.W.mg_of X G a4
  have b5 := F5.binds (ps := ["tree"]) fun _ _ _ _ _ _ us hl => match us, hl with | [_], _ => rfl
  have m5 := PySem.W.mg_of X G a5
  have b6 := F6.binds (ps := ["sort"]) fun _ _ _ _ _ _ us hl => match us, hl with | [_], _ => rfl
  have m6 := PySem.W.mg_of X G a6
  have b7 := F7.binds (ps := ["yes", "no"]) fun _ _ _ _ _ _ us hl => match us, hl with | [_, _], _ => rfl
  have m7 := PySem.W.mg_of X G a7
  have b8 := F8.binds (ps := ["body"]) fun _ _ _ _ _ _ us hl => match us, hl with | [_], _ => rfl
  have m8 := PySem.W.mg_of X G a8
  have b9 := F9.binds (ps := ["names"]) fun _ _ _ _ _ _ us hl => match us, hl with | [_], _ => rfl
  have m9 := PySem.W.mg_of X G a9
  have b10 := F10.binds (ps := []) fun _ _ _ _ _ _ us hl => match us, hl with | [], _ => rfl
  have m10 := PySem.W.mg_of X G a10
  have b11 := F11.binds (ps := []) fun _ _ _ _ _ _ us hl => match us, hl with | [], _ => rfl
  have m11 := PySem.W.mg_of X G a11
  have b12 := F12.binds (ps := []) fun _ _ _ _ _ _ us hl => match us, hl with | [], _ => rfl
  have m12 := PySem.W.mg_of X G a12
  have b13 := F13.binds (ps := []) fun _ _ _ _ _ _ us hl => match us, hl with | [], _ => rfl
  have m13 := PySem.W.mg_of X G a13
  have b14 := F14.binds (ps := []) fun _ _ _ _ _ _ us hl => match us, hl with | [], _ => rfl
  have m14 := PySem.W.mg_of X G a14
  have b15 := F15.binds (ps := ["sort"]) fun _ _ _ _ _ _ us hl => match us, hl with | [_], _ => rfl
  have m15 := PySem.W.mg_of X G a15
  have b16 := F16.binds (ps := []) fun _ _ _ _ _ _ us hl => match us, hl with | [], _ => rfl
  have m16 := PySem.W.mg_of X G a16
  have b17 := F17.binds (ps := []) fun _ _ _ _ _ _ us hl => match us, hl with | [], _ => rfl
  have m17 := PySem.W.mg_of X G a17
  have b18 := F18.binds (ps := ["stand"]) fun _ _ _ _ _ _ us hl => match us, hl with | [_], _ => rfl
  have m18 := PySem.W.mg_of X G a18
  have b19 := F19.binds (ps := ["stand"]) fun _ _ _ _ _ _ us hl => match us, hl with | [_], _ => rfl
  have m19 := PySem.W.mg_of X G a19
  have b20 := F20.binds (ps := ["stand"]) fun _ _ _ _ _ _ us hl => match us, hl with | [_], _ => rfl
  have m20 := PySem.W.mg_of X G a20
  have b21 := F21.binds (ps := ["stand"]) fun _ _ _ _ _ _ us hl => match us, hl with | [_], _ => rfl
  have m21 := PySem.W.mg_of X G a21
  have b22 := F22.binds (ps := ["sort", "top"]) fun _ _ _ _ _ _ us hl => match us, hl with | [_, _], _ => rfl
  have m22 := PySem.W.mg_of X G a22
  have b23 := F23.binds (ps := ["stack", "count"]) fun _ _ _ _ _ _ us hl => match us, hl with | [_, _], _ => rfl
  have m23 := PySem.W.mg_of X G a23
  have b24 := F24.binds (ps := ["step", "load", "stack"]) fun _ _ _ _ _ _ us hl => match us, hl with | [_, _, _], _ => rfl
  have m24 := PySem.W.mg_of X G a24
  have b25 := F25.binds (ps := ["_law_script"]) fun _ _ _ _ _ _ us hl => match us, hl with | [_], _ => rfl
  have m25 := PySem.W.mg_of X G a25
  have b26 := F26.binds (ps := ["_law_deck_here", "_law_many"]) fun _ _ _ _ _ _ us hl => match us, hl with | [_, _], _ => rfl
  have m26 := PySem.W.mg_of X G a26
  have b27 := F27.binds (ps := ["_law_deck_here", "_law_deep"]) fun _ _ _ _ _ _ us hl => match us, hl with | [_, _], _ => rfl
  have m27 := PySem.W.mg_of X G a27
  have b28 := F28.binds (ps := ["_law_deck_here"]) fun _ _ _ _ _ _ us hl => match us, hl with | [_], _ => rfl
  have m28 := PySem.W.mg_of X G a28
  have b29 := F29.binds (ps := ["_law_deck_here", "_law_deep"]) fun _ _ _ _ _ _ us hl => match us, hl with | [_, _], _ => rfl
  have m29 := PySem.W.mg_of X G a29
  have b30 := F30.binds (ps := ["_law_deck_here", "_law_deep", "_law_many"]) fun _ _ _ _ _ _ us hl => match us, hl with | [_, _, _], _ => rfl
  have m30 := PySem.W.mg_of X G a30
  have b31 := F31.binds (ps := ["_law_tree_here"]) fun _ _ _ _ _ _ us hl => match us, hl with | [_], _ => rfl
  have m31 := PySem.W.mg_of X G a31
  have b33 := F33.binds (ps := ["_law_stack_here", "_law_sort_here"]) fun _ _ _ _ _ _ us hl => match us, hl with | [_, _], _ => rfl
  have m33 := PySem.W.mg_of X G a33
  have b34 := F34.binds (ps := ["_law_stand"]) fun _ _ _ _ _ _ us hl => match us, hl with | [_], _ => rfl
  have m34 := PySem.W.mg_of X G a34
  have b35 := F35.binds (ps := ["_law_sort_here", "_law_load_here", "_law_stack_here"]) fun _ _ _ _ _ _ us hl => match us, hl with | [_, _, _], _ => rfl
  have m35 := PySem.W.mg_of X G a35
  have b36 := F36.binds (ps := ["_law_stand"]) fun _ _ _ _ _ _ us hl => match us, hl with | [_], _ => rfl
  have m36 := PySem.W.mg_of X G a36
  have m_min := PySem.W.mg_none_of X G z_min
  have m_len := PySem.W.mg_none_of X G z_len
  have m_tuple := PySem.W.mg_none_of X G z_tuple
  have m_range := PySem.W.mg_none_of X G z_range
  have m_reversed := PySem.W.mg_none_of X G z_reversed
  have m_int := PySem.W.mg_none_of X G z_int
  have m_NAMES := PySem.W.mg_of X G e_NAMES
  have q_NAMES := fun H => y_NAMES.sq (H := H) l_NAMES
  have t_NAMES : ∃ ob, K.lookup a_NAMES = some ob ∧ ob.cls = .type "tuple" ∧ ob.dict = none := ⟨_, l_NAMES, x_NAMES⟩
  have m_NAMELESS := PySem.W.mg_of X G e_NAMELESS
  have m_FORK := PySem.W.mg_of X G e_FORK
  have m_WHILE := PySem.W.mg_of X G e_WHILE
  have m_LAY := PySem.W.mg_of X G e_LAY
  have m_LAID := PySem.W.mg_of X G e_LAID
  have m_TOP_REACHED := PySem.W.mg_of X G e_TOP_REACHED
  have m_INTO_NO := PySem.W.mg_of X G e_INTO_NO
  have m_INTO_YES := PySem.W.mg_of X G e_INTO_YES
  have m_STACK_PARTED := PySem.W.mg_of X G e_STACK_PARTED
  have m_WORKED := PySem.W.mg_of X G e_WORKED
  have q_WORKED := fun H => t_WORKED.sq (H := H) l_WORKED
  have m_PAST_BODY := PySem.W.mg_of X G e_PAST_BODY
  have m_INTO_BODY := PySem.W.mg_of X G e_INTO_BODY
  have m_LOOKS := PySem.W.mg_of X G e_LOOKS
  have q_LOOKS := fun H => t_LOOKS.sq (H := H) l_LOOKS
  have m_SHUT := PySem.W.mg_of X G e_SHUT
  have m_FORK_YES := PySem.W.mg_of X G e_FORK_YES
  have m_FORK_NO := PySem.W.mg_of X G e_FORK_NO
  have m_WHILE_INTO := PySem.W.mg_of X G e_WHILE_INTO
  have m_WHILE_PAST := PySem.W.mg_of X G e_WHILE_PAST
  have m_NO_WORD := PySem.W.mg_of X G e_NO_WORD
  have m_DROP := PySem.W.mg_of X G e_DROP
  have m_TWIN := PySem.W.mg_of X G e_TWIN
  have m_SWAP := PySem.W.mg_of X G e_SWAP
  have m_FRONT := PySem.W.mg_of X G e_FRONT
  have m_PART := PySem.W.mg_of X G e_PART
  have m_TURN := PySem.W.mg_of X G e_TURN
  refine ⟨PySem.W.fnOf "law" "law" (defArgs s_law) (defBody s_law) (defScope s_law) .none kV37 dc37 pm37 an37 cd37 ct37, fun s v => .of_eq rfl, fun base _ _ => ?_⟩
  have O1 := ok_first (P := l.prog) (w := w) (mg := mg) (base := base) F1
  have O2 := ok_rest (P := l.prog) (w := w) (mg := mg) (base := base) F2
  have O5 := ok_lay (P := l.prog) (w := w) (mg := mg) (base := base) F5
  have O6 := ok_plain (P := l.prog) (w := w) (mg := mg) (base := base) F6
  have O7 := ok_fork (P := l.prog) (w := w) (mg := mg) (base := base) m_FORK r_FORK F7
  have O8 := ok_loop (P := l.prog) (w := w) (mg := mg) (base := base) m_WHILE r_WHILE F8
  have O19 := ok_ended (P := l.prog) (w := w) (mg := mg) (base := base) F19
  have O22 := ok_place_of (P := l.prog) (w := w) (mg := mg) (base := base) m_FORK r_FORK m_FORK_NO r_FORK_NO m_FORK_YES r_FORK_YES m_WHILE r_WHILE m_WHILE_PAST r_WHILE_PAST m_WHILE_INTO r_WHILE_INTO m_NAMELESS r_NAMELESS m_NO_WORD r_NO_WORD F22
  have O23 := ok_filled (P := l.prog) (w := w) (mg := mg) (base := base) m_len F23
  have O26 := ok__law_next (P := l.prog) (w := w) (mg := mg) (base := base) m_len F26
  have O31 := ok__law_first (P := l.prog) (w := w) (mg := mg) (base := base) m_len F31
  have O33 := ok__law_wide (P := l.prog) (w := w) (mg := mg) (base := base) m_len F33
  have O3 := ok_sort_of (P := l.prog) (w := w) (mg := mg) (base := base) m_min m_len m_NAMELESS r_NAMELESS F1 (O1.mono (by decide)) b1 m1 F3
  have O4 := ok_load_of (P := l.prog) (w := w) (mg := mg) (base := base) F2 (O2.mono (by decide)) b2 m2 F4
  have O9 := ok_plains (P := l.prog) (w := w) (mg := mg) (base := base) m_tuple m_NAMES q_NAMES F6 (O6.mono (by decide)) b6 m6 t_NAMES F9
  have O25 := ok__law_deck (P := l.prog) (w := w) (mg := mg) (base := base) m_len m_range m_min F25
  have O34 := ok__law_sort (P := l.prog) (w := w) (mg := mg) (base := base) m_min m_len F31 (O31.mono (by decide)) b31 m31 F34
  have O35 := ok__law_stack (P := l.prog) (w := w) (mg := mg) (base := base) F31 (O31.mono (by decide)) b31 m31 F35
  have O11 := ok_opening (P := l.prog) (w := w) (mg := mg) (base := base) F5 (O5.mono (by decide)) b5 m5 F9 (O9.mono (by decide)) b9 m9 F11
  have O16 := ok_while_gone (P := l.prog) (w := w) (mg := mg) (base := base) m_WHILE r_WHILE m_TOP_REACHED r_TOP_REACHED m_PAST_BODY r_PAST_BODY m_INTO_BODY r_INTO_BODY F9 (O9.mono (by decide)) b9 m9 F7 (O7.mono (by decide)) b7 m7 F16
  have O17 := ok_nameless_gone (P := l.prog) (w := w) (mg := mg) (base := base) m_WHILE r_WHILE F9 (O9.mono (by decide)) b9 m9 F17
  have O21 := ok_step_of (P := l.prog) (w := w) (mg := mg) (base := base) m_SHUT r_SHUT F1 (O1.mono (by decide)) b1 m1 F22 (O22.mono (by decide)) b22 m22 F3 (O3.mono (by decide)) b3 m3 F21
  have O24 := ok_worked (P := l.prog) (w := w) (mg := mg) (base := base) m_LAY r_LAY m_DROP r_DROP m_TWIN r_TWIN m_SWAP r_SWAP m_FRONT r_FRONT m_PART r_PART m_TURN r_TURN F2 (O2.mono (by decide)) b2 m2 F1 (O1.mono (by decide)) b1 m1 F24
  have O15 := ok_gone_of (P := l.prog) (w := w) (mg := mg) (base := base) m_LAY r_LAY m_LAID r_LAID m_FORK r_FORK m_TOP_REACHED r_TOP_REACHED m_INTO_NO r_INTO_NO m_INTO_YES r_INTO_YES m_STACK_PARTED r_STACK_PARTED m_WORKED q_WORKED F9 (O9.mono (by decide)) b9 m9 F7 (O7.mono (by decide)) b7 m7 F15
  have O20 := ok_next_of (P := l.prog) (w := w) (mg := mg) (base := base) m_LOOKS q_LOOKS m_SHUT r_SHUT m_FORK_YES r_FORK_YES m_FORK_NO r_FORK_NO m_WHILE_INTO r_WHILE_INTO F21 (O21.mono (by decide)) b21 m21 F23 (O23.mono (by decide)) b23 m23 F4 (O4.mono (by decide)) b4 m4 F2 (O2.mono (by decide)) b2 m2 F1 (O1.mono (by decide)) b1 m1 F24 (O24.mono (by decide)) b24 m24 F20
  have O36 := ok__law_behind (P := l.prog) (w := w) (mg := mg) (base := base) F34 (O34.mono (by decide)) b34 m34 F33 (O33.mono (by decide)) b33 m33 F31 (O31.mono (by decide)) b31 m31 F35 (O35.mono (by decide)) b35 m35 F36
  have O27 := okN_tree (P := l.prog) (w := w) (mg := mg) (base := base) m_tuple m_range F26 (O26.mono (by decide)) b26 m26 F27 b27 m27 3
  have O14 := ok_by_sort (P := l.prog) (w := w) (mg := mg) (base := base) m_range m_reversed m_WHILE r_WHILE F7 (O7.mono (by decide)) b7 m7 F16 (O16.mono (by decide)) b16 m16 F17 (O17.mono (by decide)) b17 m17 F15 (O15.mono (by decide)) b15 m15 F9 (O9.mono (by decide)) b9 m9 F14
  have O13 := ok_stepped (P := l.prog) (w := w) (mg := mg) (base := base) F9 (O9.mono (by decide)) b9 m9 F14 (O14.mono (by decide)) b14 m14 F7 (O7.mono (by decide)) b7 m7 F13
  have O28 := ok__law_load (P := l.prog) (w := w) (mg := mg) (base := base) F26 (O26.mono (by decide)) b26 m26 F27 (O27.mono (by decide)) b27 m27 F28
  have O12 := ok_from_head (P := l.prog) (w := w) (mg := mg) (base := base) F8 (O8.mono (by decide)) b8 m8 F13 (O13.mono (by decide)) b13 m13 F9 (O9.mono (by decide)) b9 m9 F12
  have O10 := ok_selfrunner (P := l.prog) (w := w) (mg := mg) (base := base) F11 (O11.mono (by decide)) b11 m11 F12 (O12.mono (by decide)) b12 m12 F10
  have O18 := ok_shown (P := l.prog) (w := w) (mg := mg) (base := base) m_WHILE r_WHILE F1 (O1.mono (by decide)) b1 m1 F12 (O12.mono (by decide)) b12 m12 F3 (O3.mono (by decide)) b3 m3 F18
  have O29 := (okN_wt (P := l.prog) (w := w) (mg := mg) (base := base) m_range m_tuple m_int F26 (O26.mono (by decide)) b26 m26 F27 (O27.mono (by decide)) b27 m27 F28 (O28.mono (by decide)) b28 m28 F29 b29 m29 F30 b30 m30 3 (by decide)).1
  have O30 := (okN_wt (P := l.prog) (w := w) (mg := mg) (base := base) m_range m_tuple m_int F26 (O26.mono (by decide)) b26 m26 F27 (O27.mono (by decide)) b27 m27 F28 (O28.mono (by decide)) b28 m28 F29 b29 m29 F30 b30 m30 3 (by decide)).2
  exact ok_law (P := l.prog) (w := w) (mg := mg) (base := base) m_range F25 (O25.mono (by decide)) b25 m25 F30 (O30.mono (by decide)) b30 m30 F27 (O27.mono (by decide)) b27 m27 F10 (O10.mono (by decide)) b10 m10 F19 (O19.mono (by decide)) b19 m19 F18 (O18.mono (by decide)) b18 m18 F36 (O36.mono (by decide)) b36 m36 F20 (O20.mono (by decide)) b20 m20 F37
theorem walk {l : PySem.W.OpenLaw} {q : Program} {loose : List Str} {XP : (Str → Option Value) → Heap → Prop} {YP : World → Heap → Prop} {d : DefRec} {K : Params → PySem.W.Frag} (hn : l.most = some 63) (hdf : d.params.defaults = [])
    (hY : ∀ (w : World) (h : Heap), YP w h → (K w.params).In h)
    (F : ∀ (w : World) (mg : Str → Option Value) (fa : Addr) (h : Heap), (K w.params).In h → h.Ns mainGlobals mg → mg d.name = some (.ref fa) →
      ∃ fd : FuncData, (∀ (s : Shared) (u : Value), BindsTo s fd ⟨[u], []⟩ [("_law_script", u)]) ∧ ∀ base : Heap, (K w.params).In base → base.Ns mainGlobals mg → FnOk l.prog w (K w.params) mg base CX0 50 fa fd ["_law_script"] (spLaw (K w.params))) :
    PySem.W.WalkO q loose XP YP l.row.toRowW d [] (fun f vs => PySem.call f vs) :=
  L2.walk_of (n := 63) (k := 50) (x := "_law_script") (CX := fun _ => CX0) (sp := fun w => spLaw (K w.params)) hn (by decide) hdf ⟨rfl, by decide, by decide⟩ hY F (fun _ _ a ns hl _ hS => ⟨a, ns, rfl, hS, hl, fun _ => rfl⟩) fun _ _ _ _ _ z => z
theorem walkX_of {q : Program} {loose : List Str} {XP : (Str → Option Value) → Heap → Prop} {K : Params → PySem.W.Frag} {n t : Nat} {ad : List Addr} {r : PySem.W.RowW} {d : DefRec} {kwd : List (Str × Expr)} {run : Value → List Value → Sem Value}
    (h : PySem.W.WalkO q loose XP (fun w hp => (K w.params).In hp) r d kwd run)
    (hI : ∀ (w : World) (s₀ s₁ : Shared) (args : List PySem.W.WData) (vals : List Value) (as : List Addr), PySem.W.X.obsZ ad s₀ = PySem.W.X.valZ K n t w → PySem.W.Laid r.records w s₀ s₁ args vals as → (K w.params).In s₁.heap) :
    PySem.W.WalkX q loose XP (PySem.W.X.obsZ ad) (PySem.W.X.valZ K n t) r d kwd run :=
  fun w s₀ s₁ mg mb G y a o pm cd doc dV kV ho hd hcd hD hmg hg args vals as L hpre hlay hrd hwl hlo => h w s₀ s₁ mg mb G (hI w s₀ s₁ args vals as y L) a o pm cd doc dV kV ho hd hcd hD hmg hg args vals as hpre hlay hrd hwl hlo
end Sw53
open PySem PySem.W PyProof.Rows
set_option maxRecDepth 100000 in
set_option maxHeartbeats 0 in
theorem PySem.Challenge.cw_selfword_k53_whole_the_selfrunner_in_its_holds : PySem.Challenge.rw_selfword_k53_whole_the_selfrunner_in_its.Holds := by
  w_on; o_law; z_head; (case hw => w_witness2)
  k_fill
  refine Sw53.walkX_of (Sw53.walk (l := PySem.Challenge.rw_selfword_k53_whole_the_selfrunner_in_its) rfl rfl (fun w h Y => Y) ?F) ?I
  case I =>
    intro w s₀ s₁ args vals as y L
    z_open y L KX ZH ZN ZT
    exact KX
  case F =>
    intro w mg fa h KX G hmg
    refine' Sw53.all_mk KX G hmg ?a1 ?l1 ?c1 ?k1 ?a2 ?l2 ?c2 ?k2 ?a3 ?l3 ?c3 ?k3 ?a4 ?l4 ?c4 ?k4 ?a5 ?l5 ?c5 ?k5 ?a6 ?l6 ?c6 ?k6 ?a7 ?l7 ?c7 ?k7 ?a8 ?l8 ?c8 ?k8 ?a9 ?l9 ?c9 ?k9 ?a10 ?l10 ?c10 ?k10 ?a11 ?l11 ?c11 ?k11 ?a12 ?l12 ?c12 ?k12 ?a13 ?l13 ?c13 ?k13 ?a14 ?l14 ?c14 ?k14 ?a15 ?l15 ?c15 ?k15 ?a16 ?l16 ?c16 ?k16 ?a17 ?l17 ?c17 ?k17 ?a18 ?l18 ?c18 ?k18 ?a19 ?l19 ?c19 ?k19 ?a20 ?l20 ?c20 ?k20 ?a21 ?l21 ?c21 ?k21 ?a22 ?l22 ?c22 ?k22 ?a23 ?l23 ?c23 ?k23 ?a24 ?l24 ?c24 ?k24 ?a25 ?l25 ?c25 ?k25 ?a26 ?l26 ?c26 ?k26 ?a27 ?l27 ?c27 ?k27 ?a28 ?l28 ?c28 ?k28 ?a29 ?l29 ?c29 ?k29 ?a30 ?l30 ?c30 ?k30 ?a31 ?l31 ?c31 ?k31 ?a33 ?l33 ?c33 ?k33 ?a34 ?l34 ?c34 ?k34 ?a35 ?l35 ?c35 ?k35 ?a36 ?l36 ?c36 ?k36 ?a37 ?l37 ?c37 ?k37 ?e_NAMES ?l_NAMES ?y_NAMES ?x_NAMES ?e_NAMELESS ?r_NAMELESS ?e_FORK ?r_FORK ?e_WHILE ?r_WHILE ?e_LAY ?r_LAY ?e_LAID ?r_LAID ?e_TOP_REACHED ?r_TOP_REACHED ?e_INTO_NO ?r_INTO_NO ?e_INTO_YES ?r_INTO_YES ?e_STACK_PARTED ?r_STACK_PARTED ?e_WORKED ?l_WORKED ?t_WORKED ?e_PAST_BODY ?r_PAST_BODY ?e_INTO_BODY ?r_INTO_BODY ?e_LOOKS ?l_LOOKS ?t_LOOKS ?e_SHUT ?r_SHUT ?e_FORK_YES ?r_FORK_YES ?e_FORK_NO ?r_FORK_NO ?e_WHILE_INTO ?r_WHILE_INTO ?e_WHILE_PAST ?r_WHILE_PAST ?e_NO_WORD ?r_NO_WORD ?e_DROP ?r_DROP ?e_TWIN ?r_TWIN ?e_SWAP ?r_SWAP ?e_FRONT ?r_FRONT ?e_PART ?r_PART ?e_TURN ?r_TURN ?z_min ?z_len ?z_tuple ?z_range ?z_reversed ?z_int
    (case a1 => k_is); (case l1 => k_is); (case c1 => k_is); (case k1 => k_is)
    (case a2 => k_is); (case l2 => k_is); (case c2 => k_is); (case k2 => k_is)
    (case a3 => k_is); (case l3 => k_is); (case c3 => k_is); (case k3 => k_is)
    (case a4 => k_is); (case l4 => k_is); (case c4 => k_is); (case k4 => k_is)
    (case a5 => k_is); (case l5 => k_is); (case c5 => k_is); (case k5 => k_is)
    (case a6 => k_is); (case l6 => k_is); (case c6 => k_is); (case k6 => k_is)
    (case a7 => k_is); (case l7 => k_is); (case c7 => k_is); (case k7 => k_is)
    (case a8 => k_is); (case l8 => k_is); (case c8 => k_is); (case k8 => k_is)
    (case a9 => k_is); (case l9 => k_is); (case c9 => k_is); (case k9 => k_is)
    (case a10 => k_is); (case l10 => k_is); (case c10 => k_is); (case k10 => k_is)
    (case a11 => k_is); (case l11 => k_is); (case c11 => k_is); (case k11 => k_is)
    (case a12 => k_is); (case l12 => k_is); (case c12 => k_is); (case k12 => k_is)
    (case a13 => k_is); (case l13 => k_is); (case c13 => k_is); (case k13 => k_is)
    (case a14 => k_is); (case l14 => k_is); (case c14 => k_is); (case k14 => k_is)
    (case a15 => k_is); (case l15 => k_is); (case c15 => k_is); (case k15 => k_is)
    (case a16 => k_is); (case l16 => k_is); (case c16 => k_is); (case k16 => k_is)
    (case a17 => k_is); (case l17 => k_is); (case c17 => k_is); (case k17 => k_is)
    (case a18 => k_is); (case l18 => k_is); (case c18 => k_is); (case k18 => k_is)
    (case a19 => k_is); (case l19 => k_is); (case c19 => k_is); (case k19 => k_is)
    (case a20 => k_is); (case l20 => k_is); (case c20 => k_is); (case k20 => k_is)
    (case a21 => k_is); (case l21 => k_is); (case c21 => k_is); (case k21 => k_is)
    (case a22 => k_is); (case l22 => k_is); (case c22 => k_is); (case k22 => k_is)
    (case a23 => k_is); (case l23 => k_is); (case c23 => k_is); (case k23 => k_is)
    (case a24 => k_is); (case l24 => k_is); (case c24 => k_is); (case k24 => k_is)
    (case a25 => k_is); (case l25 => k_is); (case c25 => k_is); (case k25 => k_is)
    (case a26 => k_is); (case l26 => k_is); (case c26 => k_is); (case k26 => k_is)
    (case a27 => k_is); (case l27 => k_is); (case c27 => k_is); (case k27 => k_is)
    (case a28 => k_is); (case l28 => k_is); (case c28 => k_is); (case k28 => k_is)
    (case a29 => k_is); (case l29 => k_is); (case c29 => k_is); (case k29 => k_is)
    (case a30 => k_is); (case l30 => k_is); (case c30 => k_is); (case k30 => k_is)
    (case a31 => k_is); (case l31 => k_is); (case c31 => k_is); (case k31 => k_is)
    (case a33 => k_is); (case l33 => k_is); (case c33 => k_is); (case k33 => k_is)
    (case a34 => k_is); (case l34 => k_is); (case c34 => k_is); (case k34 => k_is)
    (case a35 => k_is); (case l35 => k_is); (case c35 => k_is); (case k35 => k_is)
    (case a36 => k_is); (case l36 => k_is); (case c36 => k_is); (case k36 => k_is)
    (case a37 => k_is); (case l37 => k_is); (case c37 => k_is); (case k37 => k_is)
    (case e_NAMES => k_is)
    (case l_NAMES => k_is)
    (case y_NAMES => exact ⟨_, _, rfl, rfl, by decide, by repeat (first | exact .nil | refine .cons ⟨_, rfl⟩ ?_)⟩)
    (case x_NAMES => exact ⟨rfl, rfl⟩)
    (case e_NAMELESS => k_is)
    (case r_NAMELESS => exact ⟨_, rfl⟩)
    (case e_FORK => k_is)
    (case r_FORK => exact ⟨_, rfl⟩)
    (case e_WHILE => k_is)
    (case r_WHILE => exact ⟨_, rfl⟩)
    (case e_LAY => k_is)
    (case r_LAY => exact ⟨_, rfl⟩)
    (case e_LAID => k_is)
    (case r_LAID => exact ⟨_, rfl⟩)
    (case e_TOP_REACHED => k_is)
    (case r_TOP_REACHED => exact ⟨_, rfl⟩)
    (case e_INTO_NO => k_is)
    (case r_INTO_NO => exact ⟨_, rfl⟩)
    (case e_INTO_YES => k_is)
    (case r_INTO_YES => exact ⟨_, rfl⟩)
    (case e_STACK_PARTED => k_is)
    (case r_STACK_PARTED => exact ⟨_, rfl⟩)
    (case e_WORKED => k_is)
    (case l_WORKED => k_is)
    (case t_WORKED => exact ⟨_, _, rfl, rfl, by decide, by repeat (first | exact .nil | refine .cons ⟨_, rfl⟩ ?_)⟩)
    (case e_PAST_BODY => k_is)
    (case r_PAST_BODY => exact ⟨_, rfl⟩)
    (case e_INTO_BODY => k_is)
    (case r_INTO_BODY => exact ⟨_, rfl⟩)
    (case e_LOOKS => k_is)
    (case l_LOOKS => k_is)
    (case t_LOOKS => exact ⟨_, _, rfl, rfl, by decide, by repeat (first | exact .nil | refine .cons ⟨_, rfl⟩ ?_)⟩)
    (case e_SHUT => k_is)
    (case r_SHUT => exact ⟨_, rfl⟩)
    (case e_FORK_YES => k_is)
    (case r_FORK_YES => exact ⟨_, rfl⟩)
    (case e_FORK_NO => k_is)
    (case r_FORK_NO => exact ⟨_, rfl⟩)
    (case e_WHILE_INTO => k_is)
    (case r_WHILE_INTO => exact ⟨_, rfl⟩)
    (case e_WHILE_PAST => k_is)
    (case r_WHILE_PAST => exact ⟨_, rfl⟩)
    (case e_NO_WORD => k_is)
    (case r_NO_WORD => exact ⟨_, rfl⟩)
    (case e_DROP => k_is)
    (case r_DROP => exact ⟨_, rfl⟩)
    (case e_TWIN => k_is)
    (case r_TWIN => exact ⟨_, rfl⟩)
    (case e_SWAP => k_is)
    (case r_SWAP => exact ⟨_, rfl⟩)
    (case e_FRONT => k_is)
    (case r_FRONT => exact ⟨_, rfl⟩)
    (case e_PART => k_is)
    (case r_PART => exact ⟨_, rfl⟩)
    (case e_TURN => k_is)
    (case r_TURN => exact ⟨_, rfl⟩)
    (case z_min => k_is)
    (case z_len => k_is)
    (case z_tuple => k_is)
    (case z_range => k_is)
    (case z_reversed => k_is)
    (case z_int => k_is)
#print axioms PySem.Challenge.cw_selfword_k53_whole_the_selfrunner_in_its_holds
