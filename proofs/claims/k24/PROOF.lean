import PyProof.Rows.All
import Wide.All
import OpenK.AllK
import Wide.FinOn
import PyProof.EqAt
import PyProof.EqKinds
import PyProof.TupleCall
import PySem.Challenge.RW_selfword_k24_texts_spoilt
set_option Elab.async false
set_option linter.all false
set_option maxRecDepth 100000
/-! THE HAND LAYER, for ints, bools, texts, own classes, LISTS and tuples (index, slices, in, append, pop ..), calls, loops. Paste it whole ahead of your own text; what your proof does not reach may be deleted. -/
namespace L2
open PySem PySem.Spec PyProof.Rows

/-- a key: an int or a str -/
abbrev Key := Sum Int Str
def keyIs : Key → Value → Bool
  | .inl k, v => Value.isInt k v
  | .inr x, v => Value.isStrOf x v
def keyH (w : World) : Key → Int
  | .inl k => hashInt k
  | .inr x => hashStr w x
theorem keyIs_shape : ∀ {k : Key} {v : Value}, keyIs k v = true → (∃ i t, k = Sum.inl i ∧ v = Value.int i t) ∨ (∃ x t, k = Sum.inr x ∧ v = Value.str x t)
  | .inl i, v, h => by
    obtain ⟨t, e⟩ := Value.isInt_shape (k := i) (v := v) h
    exact .inl ⟨i, t, rfl, e⟩
  | .inr x, v, h => by
    obtain ⟨t, e⟩ := Value.isStrOf_shape (x := x) (v := v) h
    exact .inr ⟨x, t, rfl, e⟩
theorem key_ll (a b : Int) : decide ((Sum.inl a : Key) = Sum.inl b) = (a == b) := by
  by_cases e : a = b
  · subst e; simp
  · have h : ¬ (Sum.inl a : Key) = Sum.inl b := fun q => e (Sum.inl.inj q)
    rw [decide_eq_false h]
    exact (beq_eq_false_iff_ne.mpr e).symm
theorem key_rr (a b : Str) : decide ((Sum.inr a : Key) = Sum.inr b) = decide (a = b) := by
  by_cases e : a = b
  · subst e; simp
  · have h : ¬ (Sum.inr a : Key) = Sum.inr b := fun q => e (Sum.inr.inj q)
    rw [decide_eq_false h, decide_eq_false e]
theorem key_lr (a : Int) (b : Str) : decide ((Sum.inl a : Key) = Sum.inr b) = false := decide_eq_false (fun q => nomatch q)
theorem key_rl (a : Str) (b : Int) : decide ((Sum.inr a : Key) = Sum.inl b) = false := decide_eq_false (fun q => nomatch q)

def mixKind (prog : Program) (w : World) : PySem.KeyKind prog w Key where
  is := keyIs
  hash := keyH w
  inj := fun v a b ha hb => by
    rcases keyIs_shape ha with ⟨i, t, rfl, rfl⟩ | ⟨x, t, rfl, rfl⟩
    · rcases keyIs_shape hb with ⟨j, u, rfl, e⟩ | ⟨y, u, rfl, e⟩
      · injection e with e1 _; rw [e1]
      · exact nomatch e
    · rcases keyIs_shape hb with ⟨j, u, rfl, e⟩ | ⟨y, u, rfl, e⟩
      · exact nomatch e
      · injection e with e1 _; rw [e1]
  byValue := fun k v h => by
    rcases keyIs_shape h with ⟨i, t, rfl, rfl⟩ | ⟨x, t, rfl, rfl⟩ <;> rfl
  pyHash := fun hv h => by
    rcases keyIs_shape hv with ⟨i, t, rfl, rfl⟩ | ⟨x, t, rfl, rfl⟩
    · exact wpAny_pyHash_int h
    · exact wpAny_pyHash_str h
  eqBool := fun hu hv h => by
    rcases keyIs_shape hu with ⟨i, t, rfl, rfl⟩ | ⟨x, t, rfl, rfl⟩
    · rcases keyIs_shape hv with ⟨j, u, rfl, rfl⟩ | ⟨y, u, rfl, rfl⟩
      · rw [key_ll] at h; exact wpAny_eqBool_int h
      · rw [key_lr] at h; exact SeqAt.EqAt.int_str i t y u _ _ _ _ h
    · rcases keyIs_shape hv with ⟨j, u, rfl, rfl⟩ | ⟨y, u, rfl, rfl⟩
      · rw [key_rl] at h; exact SeqAt.EqAt.str_int x t j u _ _ _ _ h
      · rw [key_rr] at h; exact wpAny_eqBool_str h
  «strs» := fun k x t v h => by
    rcases keyIs_shape h with ⟨i, u, rfl, e⟩ | ⟨y, u, rfl, e⟩
    · exact nomatch e
    · injection e with e1 _
      subst e1
      cases v <;> rfl

end L2

namespace L2
open PySem PySem.Spec PyProof.Rows

/-- a value, without the heap -/
inductive V where
  | non | bl (b : Bool) | int (i : Int) | str (x : Str) | byt (b : Array UInt8) | flt (b : UInt64) | ref (a : Addr) | ty (n : String)
  deriving DecidableEq

def RelV : V → Value → Prop
  | .non, u => u = Value.none
  | .bl b, u => u = Value.bool b
  | .int i, u => ∃ t, u = Value.int i t
  | .str x, u => ∃ t, u = Value.str x t
  | .byt b, u => ∃ t, u = Value.bytes b t
  | .flt b, u => ∃ t, u = Value.float b t
  | .ref a, u => u = Value.ref a
  | .ty n, u => u = Value.type n

abbrev Vals : List V → List Value → Prop := Paired RelV
theorem Vals.length {xs : List V} {us : List Value} (r : Vals xs us) : xs.length = us.length := Paired.length r
theorem Vals.get : ∀ {xs : List V} {us : List Value} {i : Nat} {x : V}, Vals xs us → xs[i]? = some x → ∃ u, us[i]? = some u ∧ RelV x u
  | _, _, _, _, .nil, e => by simp at e
  | _, _, 0, _, .cons r _, e => by simp at e; subst e; exact ⟨_, rfl, r⟩
  | _, _, i + 1, x, .cons _ t, e => by
    obtain ⟨u, h1, h2⟩ := Vals.get (i := i) (x := x) t (by simpa using e)
    exact ⟨u, by simpa using h1, h2⟩
theorem Vals.append : ∀ {xs ys : List V} {us ws : List Value}, Vals xs us → Vals ys ws → Vals (xs ++ ys) (us ++ ws)
  | _, _, _, _, .nil, s => s
  | _, _, _, _, .cons r t, s => .cons r (Vals.append t s)
theorem Vals.take : ∀ {xs : List V} {us : List Value} (n : Nat), Vals xs us → Vals (xs.take n) (us.take n)
  | _, _, 0, _ => .nil
  | _, _, _ + 1, .nil => .nil
  | _, _, n + 1, .cons r t => .cons r (Vals.take n t)
theorem Vals.drop : ∀ {xs : List V} {us : List Value} (n : Nat), Vals xs us → Vals (xs.drop n) (us.drop n)
  | _, _, 0, r => r
  | _, _, _ + 1, .nil => .nil
  | _, _, n + 1, .cons _ t => Vals.drop n t

def RelO : Option V → Option Value → Prop
  | some v, some u => RelV v u
  | none, none => True
  | _, _ => False
def KV {κ : Type} : List (κ × V) → List (κ × Value) → Prop := Paired fun (p : κ × V) (q : κ × Value) => p.1 = q.1 ∧ RelV p.2 q.2

/-- a key of a dict (00_mix): an int or a text -/
def kV : Key → V
  | .inl i => .int i
  | .inr x => .str x

/-- what stands at a tracked address -/
inductive HO where
  /-- a list -/
  | lst (xs : List V)
  /-- a tuple (never changes) -/
  | tup (xs : List V)
  /-- a dict whose keys are ints and texts; one whose keys are tuples of ints and texts (the empty one is both) -/
  | dK (kvs : List (Key × V)) | dT (kvs : List (List Key × V))
  /-- a set of ints: its members, its size -/
  | set (S : Int → Bool) (n : Nat)
  /-- an instance of the class at C, its dict at dx, its attributes -/
  | ins (C dx : Addr) (fs : List (Str × V))
  /-- the dict of the instance at x -/
  | own (x : Addr)
  /-- the dict of an exception -/
  | xd (fs : List (Str × V))
  /-- a bound method, f of x -/
  | met (f x : Addr)
  /-- a range object lo, lo + 1, .. below hi -/
  | rng (lo hi : Int)
  /-- a thing that is known to the object (the script; a dict while a loop walks it): read, never written while it is so -/
  | frz (o : Obj) (u : HO)
  /-- a code object's table -/
  | tbl (ps : Array Value)
  /-- any other thing, by what is true of its one object (a def of one's own: SetO a S n := HO.ext fun h => ..) -/
  | ext (φ : Heap → Prop)

abbrev Hp := Addr → Option HO
def upd (H : Hp) (a : Addr) (o : HO) : Hp := fun b => if b = a then some o else H b
theorem upd_same {H : Hp} {a : Addr} {o : HO} : upd H a o a = some o := by unfold upd; rw [if_pos rfl]
theorem upd_ne {H : Hp} {a b : Addr} {o : HO} (h : b ≠ a) : upd H a o b = H b := by unfold upd; rw [if_neg h]
theorem upd_upd {H : Hp} {a : Addr} {o u : HO} : upd (upd H a o) a u = upd H a u := by
  funext b; unfold upd; split <;> rfl
/-- two objects of different content stand apart -/
theorem ne_of {H : Hp} {a b : Addr} {o u : HO} (h : H a = some o) (h' : H b = some u) (d : o ≠ u) : a ≠ b := by
  intro e; subst e; rw [h] at h'; exact d (Option.some.inj h')
theorem ne_of_none {H : Hp} {a b : Addr} {o : HO} (h : H a = some o) (h' : H b = none) : a ≠ b := by
  intro e; subst e; rw [h] at h'; cases h'

section
variable (P : Program) (w : World)
def ObjOk (H : Hp) (h : Heap) (a : Addr) : HO → Prop
  | .lst xs => xs.length ≤ sizeLine ∧ ∃ (its : List Value) (n : Nat), Vals xs its ∧ h.get? a = some { cls := .type "list", data := .seq its.toArray n }
  | .tup xs => xs.length ≤ sizeLine ∧ ∃ its : List Value, Vals xs its ∧ IsTup h a its.toArray
  | .dK kvs => kvs.length ≤ sizeLine ∧ (a == sysModules) = false ∧ ∃ vs, KV kvs vs ∧ h.DictOf (mixKind P w) a vs
  | .dT kvs => kvs.length ≤ sizeLine ∧ (a == sysModules) = false ∧ ∃ xs : List (List Key × Addr × Value),
      Paired (fun (p : List Key × V) (q : List Key × Addr × Value) => p.1 = q.1 ∧ H q.2.1 = some (.tup (p.1.map kV)) ∧ RelV p.2 q.2.2) kvs xs ∧
      ∃ o es ep, h.get? a = some o ∧ o.ExactDict ∧ o.data = .dict es ep ∧ es.toList = xs.map (entryOfKey (tupleKind (mixKind P w))) ∧ (xs.map (·.1)).Nodup
  | .set S n => h.SetOf (intKind P w) a S n
  | .ins C dx fs => H dx = some (.own a) ∧ fs.length ≤ 1000 ∧ dx ≠ a ∧ h.get? a = some (PySem.W.instObj C dx) ∧
      ∃ mA, h.Ns1 dx mA ∧ (∀ f, RelO (fs.lookup f) (mA f)) ∧ PySem.Within mA (fs.map (·.1))
  | .own _ => ∃ o, h.get? a = some o
  | .xd fs => ∃ mA, h.Ns1 a mA ∧ ∀ f, RelO (fs.lookup f) (mA f)
  | .rng lo hi => ∃ t u v, h.get? a = some { cls := .type "range", data := .fields #[.int lo t, .int hi u, .int 1 v] }
  | .frz o u => h.get? a = some o ∧ ObjOk H h a u
  | .tbl ps => h.get? a = some { cls := .none, data := .fields ps }
  | .met f x => h.get? a = some (PySem.W.methodObj (.ref f) (.ref x))
  | .ext φ => φ h ∧ (∃ o, h.get? a = some o) ∧ ∀ h1 h2 : Heap, φ h1 → (∀ o, h1.get? a = some o → h2.get? a = some o) → φ h2
/-- the abstract heap is held -/
def HOk (H : Hp) (h : Heap) : Prop := ∀ a o, H a = some o → ObjOk P w H h a o
end

section
variable {P : Program} {w : World} {H H' : Hp} {h h' : Heap} {a : Addr} {o : HO}
theorem ObjOk.lt (x : ObjOk P w H h a o) : a < h.objs.size := by
  cases o with
  | lst xs => obtain ⟨_, _, _, _, e⟩ := x; exact Heap.lt_size e
  | tup xs => obtain ⟨_, _, _, p⟩ := x; exact p.lt
  | dK kvs => obtain ⟨_, _, _, _, o, _, _, e, _⟩ := x; exact Heap.lt_size e
  | dT kvs => obtain ⟨_, _, _, _, o, _, _, e, _⟩ := x; exact Heap.lt_size e
  | set S n => obtain ⟨o, _, _, _, e, _⟩ := x; exact Heap.lt_size e
  | ins C dx fs => obtain ⟨_, _, _, e, _⟩ := x; exact Heap.lt_size e
  | own y => obtain ⟨_, e⟩ := x; exact Heap.lt_size e
  | xd fs => obtain ⟨_, ⟨_, _, _, e, _⟩, _⟩ := x; exact Heap.lt_size e
  | rng lo hi => obtain ⟨_, _, _, e⟩ := x; exact Heap.lt_size e
  | frz ob u => obtain ⟨e, _⟩ := x; exact Heap.lt_size e
  | tbl ps => exact Heap.lt_size (show h.get? a = some _ from x)
  | met f y => exact Heap.lt_size (show h.get? a = some _ from x)
  | ext φ => obtain ⟨_, ⟨_, e⟩, _⟩ := x; exact Heap.lt_size e
theorem Paired.mapP {α β : Type} {F G : α → β → Prop} : ∀ {l₁ : List α} {l₂ : List β}, Paired F l₁ l₂ → (∀ a b, F a b → G a b) → Paired G l₁ l₂
  | _, _, .nil, _ => .nil
  | _, _, .cons r t, f => .cons (f _ _ r) (Paired.mapP t f)
/-- what an object's description leans on: its own object, its own dict, the tuples -/
theorem ObjOk.stay (x : ObjOk P w H h a o) (k : ∀ b u, (b = a ∨ H b = some (.own a)) → h.get? b = some u → h'.get? b = some u)
    (ho : ∀ b, H b = some (.own a) → H' b = some (.own a)) (ht : ∀ b xs, H b = some (.tup xs) → H' b = some (.tup xs)) : ObjOk P w H' h' a o := by
  induction o with
  | lst xs => obtain ⟨z, its, n, r, e⟩ := x; exact ⟨z, its, n, r, k _ _ (.inl rfl) e⟩
  | tup xs => obtain ⟨z, its, r, ob, e, c⟩ := x; exact ⟨z, its, r, ob, k _ _ (.inl rfl) e, c⟩
  | dK kvs => obtain ⟨z, y, vs, r, ob, es, ep, e, c⟩ := x; exact ⟨z, y, vs, r, ob, es, ep, k _ _ (.inl rfl) e, c⟩
  | dT kvs =>
    obtain ⟨z, y, xs, r, ob, es, ep, e, c⟩ := x
    exact ⟨z, y, xs, Paired.mapP r fun p q z => ⟨z.1, ht _ _ z.2.1, z.2.2⟩, ob, es, ep, k _ _ (.inl rfl) e, c⟩
  | set S n => obtain ⟨ob, es, ep, t, e, c⟩ := x; exact ⟨ob, es, ep, t, k _ _ (.inl rfl) e, c⟩
  | ins C dx fs =>
    obtain ⟨d, z, ne, e, mA, ⟨od, es, ep, e2, c⟩, r⟩ := x
    exact ⟨ho _ d, z, ne, k _ _ (.inl rfl) e, mA, ⟨od, es, ep, k _ _ (.inr d) e2, c⟩, r⟩
  | own y => obtain ⟨ob, e⟩ := x; exact ⟨ob, k _ _ (.inl rfl) e⟩
  | xd fs => obtain ⟨mA, ⟨od, es, ep, e, c⟩, r⟩ := x; exact ⟨mA, ⟨od, es, ep, k _ _ (.inl rfl) e, c⟩, r⟩
  | rng lo hi => obtain ⟨t, u, v, e⟩ := x; exact ⟨t, u, v, k _ _ (.inl rfl) e⟩
  | frz ob u ih => obtain ⟨e, q⟩ := x; exact ⟨k _ _ (.inl rfl) e, ih q⟩
  | tbl ps =>
    have e : h.get? a = some { cls := .none, data := .fields ps } := x
    show h'.get? a = some { cls := .none, data := .fields ps }
    exact k a _ (.inl rfl) e
  | met f y =>
    have e : h.get? a = some (PySem.W.methodObj (.ref f) (.ref y)) := x
    show h'.get? a = some (PySem.W.methodObj (.ref f) (.ref y))
    exact k a _ (.inl rfl) e
  | ext φ => obtain ⟨p, ⟨o, e⟩, st⟩ := x; exact ⟨st _ _ p fun o q => k _ _ (.inl rfl) q, ⟨o, k _ _ (.inl rfl) e⟩, st⟩
theorem HOk.lt (x : HOk P w H h) (e : H a = some o) : a < h.objs.size := (x a o e).lt
theorem HOk.fresh (x : HOk P w H h) (e : h.objs.size ≤ a) : H a = none := by
  cases q : H a with
  | none => rfl
  | some u => exact absurd (Nat.lt_of_lt_of_le (x.lt q) e) (Nat.lt_irrefl _)
/-- every object of the heap is kept -/
theorem HOk.kept (x : HOk P w H h) (k : ∀ b u, h.get? b = some u → h'.get? b = some u) : HOk P w H h' := fun a o e =>
  (x a o e).stay (fun b u _ q => k b u q) (fun _ q => q) fun _ _ q => q
/-- a new object is laid and tracked -/
theorem HOk.laid (x : HOk P w H h) (k : ∀ b u, h.get? b = some u → h'.get? b = some u) (hp : h.objs.size ≤ a) (new : ObjOk P w (upd H a o) h' a o) : HOk P w (upd H a o) h' := fun b u e => by
  have hn := x.fresh hp
  by_cases hb : b = a
  · subst hb; rw [upd_same] at e; cases e; exact new
  · rw [upd_ne hb] at e
    exact (x b u e).stay (fun c v _ q => k c v q) (fun c q => by rw [upd_ne (ne_of_none q hn)]; exact q) fun c xs q => by rw [upd_ne (ne_of_none q hn)]; exact q
end

/-- what may be read as u: it is u, or a known u -/
def Rd (H : Hp) (a : Addr) (u : HO) : Prop := H a = some u ∨ ∃ o, H a = some (.frz o u)
theorem Rd.ok {P : Program} {w : World} {H : Hp} {h : Heap} {a : Addr} {u : HO} (r : Rd H a u) (x : HOk P w H h) : ObjOk P w H h a u := by
  rcases r with r | ⟨o, r⟩
  · exact x a u r
  · obtain ⟨_, q⟩ := x a _ r
    exact q
/-- what may be written -/
def Mut : Option HO → Prop
  | some (.lst _) => True
  | some (.dK _) => True
  | some (.dT _) => True
  | some (.set _ _) => True
  | some (.ins _ _ _) => True
  | some (.ext _) => True
  | _ => False
section
variable {P : Program} {w : World} {H : Hp} {h h' : Heap} {x e : Addr} {o' : HO}
/-- the object at e is changed: x itself, or the dict of the instance x -/
theorem HOk.write (ok : HOk P w H h) (mu : Mut (H x)) (he : e = x ∨ H e = some (.own x)) (k : ∀ b u, b ≠ e → h.get? b = some u → h'.get? b = some u) (heo : ∃ u, h'.get? e = some u)
    (new : ObjOk P w (upd H x o') h' x o') : HOk P w (upd H x o') h' := fun b u q => by
  have nown : ∀ c y, H c = some (.own y) → c ≠ x := fun c y r z => by subst z; rw [r] at mu; exact mu
  have ntup : ∀ c xs, H c = some (.tup xs) → c ≠ x := fun c xs r z => by subst z; rw [r] at mu; exact mu
  by_cases hb : b = x
  · subst hb; rw [upd_same] at q; cases q; exact new
  · rw [upd_ne hb] at q
    by_cases hbe : b = e
    · have q' : H b = some (.own x) := by
        rcases he with z | z
        · exact absurd (hbe.trans z) hb
        · rw [hbe]; exact z
      rw [q] at q'; cases q'
      obtain ⟨v, hv⟩ := heo
      exact ⟨v, by rw [hbe]; exact hv⟩
    · refine (ok b u q).stay (fun c v hc r => k c v ?_ r) (fun c r => by rw [upd_ne (nown c b r)]; exact r) fun c xs r => by rw [upd_ne (ntup c xs r)]; exact r
      rcases hc with rfl | hc
      · exact hbe
      · rintro rfl
        rcases he with z | z
        · exact nown c b hc z
        · rw [hc] at z; cases z; exact hb rfl
end

/-! ### kept unless tracked; of the frames at fs (the callers') the slots may change (an exception that passes writes there); of the records at ex (iterators) nothing is said -/
structure Un (fs ex : List Addr) (H H' : Hp) (h h' : Heap) : Prop where
  keep : ∀ b o, h.get? b = some o → H b = none → b ∉ fs → b ∉ ex → h'.get? b = some o
  slot : ∀ b o, h.get? b = some o → H b = none → b ∈ fs → b ∉ ex → ∃ sl, h'.get? b = some { o with slots := sl }
  free : ∀ b o, h.get? b = some o → H b = none → b ∉ ex → H' b = none
  there : ∀ b o, h.get? b = some o → b ∉ ex → ∃ o', h'.get? b = some o'
  tups : ∀ b xs, H b = some (.tup xs) → H' b = some (.tup xs)
  frzs : ∀ b o u, H b = some (.frz o u) → H' b = some (.frz o u)
  tbls : ∀ b ps, H b = some (.tbl ps) → ∃ more, H' b = some (.tbl (ps ++ more))
section
variable {fs fs' ex ex' : List Addr} {H H1 H2 : Hp} {h h1 h2 h' : Heap} {a x e : Addr} {o : HO}
theorem Un.any (u : Un fs ex H H1 h h1) {b : Addr} {ob : Obj} (q : h.get? b = some ob) (n : H b = none) (hx : b ∉ ex) : ∃ sl, h1.get? b = some { ob with slots := sl } := by
  by_cases hb : b ∈ fs
  · exact u.slot b ob q n hb hx
  · exact ⟨ob.slots, u.keep b ob q n hb hx⟩
theorem Un.kept (k : ∀ b u, h.get? b = some u → h'.get? b = some u) : Un fs ex H H h h' :=
  ⟨fun b ob q _ _ _ => k b ob q, fun b ob q _ _ _ => ⟨ob.slots, k b ob q⟩, fun _ _ _ n _ => n, fun b ob q _ => ⟨ob, k b ob q⟩, fun _ _ q => q, fun _ _ _ q => q, fun _ ps q => ⟨#[], by rw [q]; simp⟩⟩
theorem Un.refl : Un fs ex H H h h := Un.kept fun _ _ q => q
theorem Un.laid (k : ∀ b u, h.get? b = some u → h'.get? b = some u) (hp : h.objs.size ≤ a) (hn : H a = none) : Un fs ex H (upd H a o) h h' where
  keep := fun b u q _ _ _ => k b u q
  slot := fun b u q _ _ _ => ⟨u.slots, k b u q⟩
  free := fun b u q n _ => by rw [upd_ne (Nat.ne_of_lt (Nat.lt_of_lt_of_le (Heap.lt_size q) hp))]; exact n
  there := fun b u q _ => ⟨u, k b u q⟩
  tups := fun b xs q => by rw [upd_ne (ne_of_none q hn)]; exact q
  frzs := fun b u xs q => by rw [upd_ne (ne_of_none q hn)]; exact q
  tbls := fun b ps q => ⟨#[], by rw [upd_ne (ne_of_none q hn), q]; simp⟩
theorem Un.write (mu : Mut (H x)) (he : e = x ∨ H e = some (.own x)) (k : ∀ b u, b ≠ e → h.get? b = some u → h'.get? b = some u) (heo : ∃ u, h'.get? e = some u) : Un fs ex H (upd H x o) h h' := by
  have hx : ∀ b, H b = none → b ≠ x := fun b n z => by subst z; rw [n] at mu; exact mu
  have hb : ∀ b, H b = none → b ≠ e := fun b n z => by
    subst z
    rcases he with r | r
    · exact hx b n r
    · rw [n] at r; cases r
  have hm : ∀ b u, H b = some u → ¬ Mut (some u) → b ≠ x := fun b u q nm z => by subst z; rw [q] at mu; exact nm mu
  refine ⟨fun b u q n _ _ => k b u (hb b n) q, fun b u q n _ _ => ⟨u.slots, k b u (hb b n) q⟩, fun b u q n _ => by rw [upd_ne (hx b n)]; exact n, fun b u q _ => ?_,
    fun b xs q => by rw [upd_ne (hm b _ q fun z => z)]; exact q, fun b u xs q => by rw [upd_ne (hm b _ q fun z => z)]; exact q, fun b ps q => ⟨#[], by rw [upd_ne (hm b _ q fun z => z), q]; simp⟩⟩
  by_cases hbe : b = e
  · subst hbe; exact heo
  · exact ⟨u, k b u hbe q⟩
end

/-! ### the heap without what is tracked -/
def trk (h : Heap) (H : Hp) : List Addr := (List.range h.objs.size).filter fun a => (H a).isSome
def hidT (h : Heap) (H : Hp) : Heap := PySem.W.hideAll h (trk h H)
theorem hidT_size (h : Heap) (H : Hp) : (hidT h H).objs.size = h.objs.size := PySem.W.hideAll_size _ _
theorem hidT_get {h : Heap} {H : Hp} {b : Addr} {o : Obj} (e : h.get? b = some o) (n : H b = none) : (hidT h H).get? b = some o :=
  PySem.W.hideAll_get _ e fun hm => by
    have q : (H b).isSome = true := (List.mem_filter.mp hm).2
    rw [n] at q; simp at q
theorem of_hidT {h : Heap} {H : Hp} {b : Addr} {o : Obj} (e : (hidT h H).get? b = some o) : h.get? b = some o ∧ H b = none := by
  have e' : h.get? b = some o := PySem.W.of_hideAll (trk h H) e
  refine ⟨e', ?_⟩
  cases q : H b with
  | none => rfl
  | some x =>
    have hm : b ∈ trk h H := List.mem_filter.mpr ⟨List.mem_range.mpr (Heap.lt_size e'), by simp [q]⟩
    have z : (hidT h H).get? b = none := PySem.W.hideAll_none (trk h H) hm
    rw [z] at e; cases e

/-! ### OpenK's ledger, filled with every new object but one -/
end L2

namespace L2
open PySem PySem.Spec PyProof.Rows

/-- the module's facts, over the base: the heap at the law's entry without what is tracked there -/
structure Mod (K : PySem.W.Frag) (mg : Str → Option Value) (base : Heap) : Prop where
  kin : K.In base
  glob : base.Ns mainGlobals mg
  blt : ∃ mb, base.Ns builtinsNs mb ∧ ∀ x : Str, x ≠ "__name__" → mb x = bootBuiltins x
  nolimit : base.NoLimit

/-- the context: a def's body (or a comprehension's block) running. base: fixed through the whole law; s₀, H₀: the entry; outer: the frames whose slots others may change (a def's callers); stack: all frames that run;
   ex: iterators that were made ahead of the entry and are walked here (a comprehension's); fn: the names whose cells were made at the entry (a def: all; a comprehension's block: its own); calm: not within an except suite; pn: pins that every state bears; xe: what is wanted of an exception that leaves the code -/
structure Cx where
  prog : Program
  w : World
  K : PySem.W.Frag
  mg : Str → Option Value
  base : Heap
  A : Around
  N : List Str
  s₀ : Shared
  H₀ : Hp
  env : Env
  outer : List Env
  stack : List Env
  ex : List Addr
  fn : Str → Bool
  calm : Bool
  pn : List (Addr × Obj)
  xe : Value → Shared → Prop
/-- the callers' frames -/
def frs (l : List Env) : List Addr := l.filterMap (·.frame)
abbrev Cx.fs (X : Cx) : List Addr := frs X.outer

def Vis (sc : Scope) (x : Str) : Prop := sc.names.lookup x = some .local ∨ sc.names.lookup x = some .cell ∨ sc.names.lookup x = some .free
def Loc (sc : Scope) (x : Str) : Prop := sc.names.lookup x = some .local ∨ sc.names.lookup x = some .cell
def Look (env : Env) (h : Heap) (m : Str → Option Value) (x : Str) (u : Value) : Prop :=
  (env.kindOf x = some .local ∧ m x = some u) ∨ ((env.kindOf x = some .cell ∨ env.kindOf x = some .free) ∧ ∃ c, env.cells.lookup x = some c ∧ h.IsCell c (some u))

structure Cx.Ok (X : Cx) : Prop where
  mod : Mod X.K X.mg X.base
  kind : X.env.scope.kind = .function
  glob : X.env.globals = mainGlobals
  blt : X.env.builtins = builtinsNs
  above : X.s₀.heap.objs.size ≤ X.env.locals
  inj : ∀ x y c, X.env.cells.lookup x = some c → X.env.cells.lookup y = some c → x = y
  has : ∀ x, (X.env.kindOf x = some .cell ∨ X.env.kindOf x = some .free) → ∃ c, X.env.cells.lookup x = some c
  cab : ∀ x c, X.fn x = true → X.env.cells.lookup x = some c → X.s₀.heap.objs.size ≤ c
  hd : X.calm = true → X.A.handled = none
  frames : X.A.frames = some X.stack
  stk : X.stack = X.outer ∨ (X.stack = X.env :: X.outer ∧ X.env.frame = some X.env.locals)
  exf : ∀ b ∈ X.ex, b ≠ X.env.locals ∧ ∀ x c, X.env.cells.lookup x = some c → c ≠ b
  bs : ∀ b o, X.base.get? b = some o → X.s₀.heap.get? b = some o ∧ X.H₀ b = none
  bsz : X.base.objs.size ≤ X.s₀.heap.objs.size
  noex : ∀ b o, X.base.get? b = some o → b ∉ X.ex
  exfs : ∀ b ∈ X.ex, b ∉ X.fs
  funs : X.s₀.heap.FunFrames X.base X.outer
  frf : ∀ b ∈ X.fs, X.H₀ b = none

structure Inv (X : Cx) (pins : List (Addr × Obj)) (σ : List (Option V)) (H : Hp) (s : Shared) : Prop where
  ok : X.Ok
  os : s.os = X.s₀.os
  bare : AllBare s.gens
  base : Un X.fs X.ex X.H₀ H X.s₀.heap s.heap
  loc : ∃ m, s.heap.Ns X.env.locals m ∧ ∀ (i : Nat) (x : Str) (v : V), X.N[i]? = some x → σ[i]? = some (some v) → Vis X.env.scope x → ∃ u, RelV v u ∧ Look X.env s.heap m x u
  cell : ∀ x c, X.env.cells.lookup x = some c → ∃ v, s.heap.IsCell c v
  free : H X.env.locals = none
  freeC : ∀ x c, X.env.cells.lookup x = some c → H c = none
  pin : ∀ p ∈ X.pn ++ pins, s.heap.get? p.1 = some p.2 ∧ H p.1 = none ∧ p.1 ≠ X.env.locals ∧ p.1 ∉ X.fs ∧ ∀ v, p.2.data ≠ .cell v
  hok : HOk X.prog X.w H s.heap
  len : σ.length = X.N.length

section
variable {X : Cx} {pins : List (Addr × Obj)} {σ : List (Option V)} {H H' : Hp} {s : Shared} {h' : Heap}

theorem Cx.Ok.nofr (ok : X.Ok) {b : Addr} {o : Obj} (e : X.base.get? b = some o) : b ∉ X.fs := fun hb => by
  have := (ok.funs.mem hb).1
  rw [e] at this; cases this
theorem Inv.bs (I : Inv X pins σ H s) : ∀ b o, X.base.get? b = some o → s.heap.get? b = some o ∧ H b = none := fun b o e =>
  ⟨I.base.keep b o (I.ok.bs b o e).1 (I.ok.bs b o e).2 (I.ok.nofr e) (I.ok.noex b o e), I.base.free b o (I.ok.bs b o e).1 (I.ok.bs b o e).2 (I.ok.noex b o e)⟩
theorem Inv.bk (I : Inv X pins σ H s) : ∀ b o, X.base.get? b = some o → s.heap.get? b = some o := fun b o e => (I.bs b o e).1
theorem Inv.mod (I : Inv X pins σ H s) : Mod X.K X.mg X.base := I.ok.mod
theorem Inv.kIn (I : Inv X pins σ H s) : X.K.In s.heap := I.ok.mod.kin.keeps I.bk
theorem Inv.lt (I : Inv X pins σ H s) : X.env.locals < s.heap.objs.size := let ⟨_, hn, _⟩ := I.loc; hn.lt
theorem Inv.sz (I : Inv X pins σ H s) : X.s₀.heap.objs.size ≤ s.heap.objs.size := Nat.le_trans I.ok.above (Nat.le_of_lt I.lt)
theorem Inv.nofs (I : Inv X pins σ H s) {a : Addr} (h : s.heap.objs.size ≤ a) : a ∉ X.fs := fun hb => by
  obtain ⟨_, o, ho, _⟩ := I.ok.funs.mem hb
  exact absurd (Nat.lt_of_lt_of_le (Heap.lt_size ho) (Nat.le_trans I.sz h)) (Nat.lt_irrefl _)
theorem Inv.cne (I : Inv X pins σ H s) : ∀ x c, X.env.cells.lookup x = some c → c ≠ X.env.locals := fun x c e z => by
  obtain ⟨v, o, ho, hd⟩ := I.cell x c e
  obtain ⟨m, ⟨o', es, ep, ho', hd', _⟩, _⟩ := I.loc
  rw [z, ho'] at ho; cases ho; rw [hd'] at hd; cases hd
theorem Inv.funs (I : Inv X pins σ H s) : s.heap.FunFrames X.base X.outer := by
  have all : ∀ (l : List Env), (∀ b ∈ frs l, b ∈ X.fs) → X.s₀.heap.FunFrames X.base l → s.heap.FunFrames X.base l := by
    intro l
    induction l with
    | nil => intro _ _; trivial
    | cons env r ih =>
      intro hs hl
      obtain ⟨hk, ⟨L, o, hf, hn, ho, hd⟩, hr⟩ := hl
      have hL : L ∈ X.fs := hs L (by unfold frs; rw [List.filterMap_cons, hf]; exact List.mem_cons_self)
      obtain ⟨sl, e⟩ := I.base.slot L o ho (I.ok.frf L hL) hL fun z => I.ok.exfs L z hL
      exact ⟨hk, ⟨L, _, hf, hn, e, hd⟩, ih (fun b hb => hs b (by unfold frs; rw [List.filterMap_cons, hf]; exact List.mem_cons_of_mem _ hb)) hr⟩
  exact all X.outer (fun _ hb => hb) I.ok.funs

/-- the frames that run, for a call -/
theorem Inv.stack (I : Inv X pins σ H s) : s.heap.FunFrames X.base X.stack := by
  rcases I.ok.stk with e | ⟨e, hf⟩
  · rw [e]; exact I.funs
  · rw [e]
    obtain ⟨m, hn, _⟩ := I.loc
    refine .cons (by rw [I.ok.kind]; decide) hf hn ?_ I.funs
    exact Heap.get?_none_of_le (Nat.le_trans I.ok.bsz I.ok.above)
theorem Inv.stkSub (I : Inv X pins σ H s) : ∀ b ∈ frs X.stack, b ∈ X.env.locals :: X.fs := fun b hb => by
  rcases I.ok.stk with e | ⟨e, hf⟩
  · rw [e] at hb; exact List.mem_cons_of_mem _ hb
  · rw [e] at hb
    unfold frs at hb
    rw [List.filterMap_cons, hf] at hb
    exact hb
theorem Inv.stkFree (I : Inv X pins σ H s) : ∀ b ∈ frs X.stack, H b = none := fun b hb => by
  rcases List.mem_cons.mp (I.stkSub b hb) with e | hb
  · rw [e]; exact I.free
  · obtain ⟨_, o, ho, _⟩ := I.ok.funs.mem hb
    exact I.base.free b o ho (I.ok.frf b hb) fun z => I.ok.exfs b z hb

/-- THE STEP: the untracked objects but the frame and the records at ch are kept (the callers' frames up to slots), the frame's map is kept, the new abstract heap is held -/
theorem Inv.step {g' : Array GenState} {t' : Nat} {d' : Drawn} {ch : List Addr} (I : Inv X pins σ H s)
    (hch : ∀ b ∈ ch, (b ∈ X.ex ∨ X.s₀.heap.objs.size ≤ b) ∧ b ≠ X.env.locals ∧ (∀ x c, X.env.cells.lookup x = some c → c ≠ b) ∧ ∀ p ∈ X.pn ++ pins, p.1 ≠ b)
    (keep : ∀ b o, b ≠ X.env.locals → b ∉ X.fs → b ∉ ch → s.heap.get? b = some o → H b = none → h'.get? b = some o)
    (slot : ∀ b o, b ≠ X.env.locals → b ∈ X.fs → b ∉ ch → s.heap.get? b = some o → H b = none → ∃ sl, h'.get? b = some { o with slots := sl }) (free : ∀ b o, b ∉ ch → s.heap.get? b = some o → H b = none → H' b = none)
    (there : ∀ b o, b ∉ ch → s.heap.get? b = some o → ∃ o', h'.get? b = some o')
    (tups : ∀ b xs, H b = some (.tup xs) → H' b = some (.tup xs)) (frzs : ∀ b o u, H b = some (.frz o u) → H' b = some (.frz o u)) (tbls : ∀ b ps, H b = some (.tbl ps) → ∃ more, H' b = some (.tbl (ps ++ more)))
    (ns : ∀ m, s.heap.Ns X.env.locals m → h'.Ns X.env.locals m) (hok : HOk X.prog X.w H' h') (hg : AllBare g') :
    Inv X pins σ H' { s with heap := h', gens := g', drawn := d', toks := t' } := by
  have neL : ∀ b o, X.s₀.heap.get? b = some o → b ≠ X.env.locals := fun b o e => Nat.ne_of_lt (Nat.lt_of_lt_of_le (Heap.lt_size e) I.ok.above)
  have neC : ∀ b o, X.s₀.heap.get? b = some o → b ∉ X.ex → b ∉ ch := fun b o e hx hb => by
    rcases (hch b hb).1 with z | z
    · exact hx z
    · exact absurd (Nat.lt_of_lt_of_le (Heap.lt_size e) z) (Nat.lt_irrefl _)
  have cellK : ∀ x c, X.env.cells.lookup x = some c → ∀ v, s.heap.IsCell c v → h'.IsCell c v := fun x c e v ⟨o, ho, hd⟩ => by
    have nch : c ∉ ch := fun z => (hch c z).2.2.1 x c e rfl
    by_cases hc : c ∈ X.fs
    · obtain ⟨sl, q⟩ := slot c o (I.cne x c e) hc nch ho (I.freeC x c e)
      exact ⟨_, q, hd⟩
    · exact ⟨o, keep c o (I.cne x c e) hc nch ho (I.freeC x c e), hd⟩
  refine ⟨I.ok, I.os, hg, ⟨fun b o e n hb hx => ?_, fun b o e n hb hx => ?_, fun b o e n hx => ?_, fun b o e hx => ?_, fun b xs e => tups b xs (I.base.tups b xs e), fun b o xs e => frzs b o xs (I.base.frzs b o xs e), fun b ps e => ?_⟩, ?_, fun x c e => ?_, ?_, fun x c e => ?_, fun p hp => ?_, hok, I.len⟩
  · exact keep b o (neL b o e) hb (neC b o e hx) (I.base.keep b o e n hb hx) (I.base.free b o e n hx)
  · obtain ⟨sl, e1⟩ := I.base.slot b o e n hb hx
    obtain ⟨sl', e2⟩ := slot b _ (neL b o e) hb (neC b o e hx) e1 (I.base.free b o e n hx)
    exact ⟨sl', e2⟩
  · obtain ⟨o', e1⟩ := I.base.there b o e hx
    exact free b o' (neC b o e hx) e1 (I.base.free b o e n hx)
  · obtain ⟨o', e1⟩ := I.base.there b o e hx
    exact there b o' (neC b o e hx) e1
  · obtain ⟨m1, e1⟩ := I.base.tbls b ps e
    obtain ⟨m2, e2⟩ := tbls b _ e1
    exact ⟨m1 ++ m2, by rw [e2, Array.append_assoc]⟩
  · obtain ⟨m, hn, hl⟩ := I.loc
    refine ⟨m, ns m hn, fun i x v e1 e2 e3 => ?_⟩
    obtain ⟨u, r, l⟩ := hl i x v e1 e2 e3
    refine ⟨u, r, ?_⟩
    rcases l with l | ⟨k, c, e, z⟩
    · exact .inl l
    · exact .inr ⟨k, c, e, cellK x c e _ z⟩
  · obtain ⟨v, z⟩ := I.cell x c e
    exact ⟨v, cellK x c e v z⟩
  · obtain ⟨m, ⟨o, _, _, ho, _⟩, _⟩ := I.loc
    exact free _ o (fun z => (hch _ z).2.1 rfl) ho I.free
  · obtain ⟨v, o, ho, hd⟩ := I.cell x c e
    exact free c o (fun z => (hch c z).2.2.1 x c e rfl) ho (I.freeC x c e)
  · obtain ⟨e, n, ne, nf, d⟩ := I.pin p hp
    have nch : p.1 ∉ ch := fun z => (hch p.1 z).2.2.2 p hp rfl
    exact ⟨keep p.1 p.2 ne nf nch e n, free p.1 p.2 nch e n, ne, nf, d⟩
/-- .. where the frame's own object is kept too -/
theorem Inv.un {t' : Nat} (I : Inv X pins σ H s) (u : Un X.fs [] H H' s.heap h') (hok : HOk X.prog X.w H' h') : Inv X pins σ H' { s with heap := h', toks := t' } := by
  obtain ⟨m, ⟨o, es, ep, ho, r⟩, _⟩ := id I.loc
  obtain ⟨sl, hL⟩ := u.any ho I.free (by simp)
  exact I.step (g' := s.gens) (d' := s.drawn) (ch := []) (fun _ z => nomatch z) (fun b o _ hb _ e n => u.keep b o e n hb (by simp)) (fun b o _ hb _ e n => u.slot b o e n hb (by simp)) (fun b o _ e n => u.free b o e n (by simp)) (fun b o _ e => u.there b o e (by simp)) u.tups u.frzs u.tbls (fun m' hm => by
    obtain ⟨o', es', ep', ho', r'⟩ := hm
    rw [ho] at ho'; cases ho'
    exact ⟨_, es', ep', hL, r'⟩) hok I.bare
/-- behind a call (or a comprehension's block): the slots of this frame may have changed too, the records at ch may have turned -/
theorem Inv.call {g' : Array GenState} {t' : Nat} {d' : Drawn} {ch : List Addr} (I : Inv X pins σ H s) (u : Un (frs X.stack) ch H H' s.heap h') (hok : HOk X.prog X.w H' h') (hg : AllBare g')
    (hch : ∀ b ∈ ch, (b ∈ X.ex ∨ X.s₀.heap.objs.size ≤ b) ∧ b ≠ X.env.locals ∧ (∀ x c, X.env.cells.lookup x = some c → c ≠ b) ∧ ∀ p ∈ X.pn ++ pins, p.1 ≠ b) :
    Inv X pins σ H' { s with heap := h', gens := g', drawn := d', toks := t' } := by
  obtain ⟨m, ⟨o, es, ep, ho, r⟩, _⟩ := id I.loc
  obtain ⟨sl, hL⟩ := u.any ho I.free fun z => (hch _ z).2.1 rfl
  exact I.step (ch := ch) hch (fun b o hL hb hc e n => u.keep b o e n (fun z => (List.mem_cons.mp (I.stkSub b z)).elim hL hb) hc) (fun b o _ _ hc e n => u.any e n hc) (fun b o hc e n => u.free b o e n hc) (fun b o hc e => u.there b o e hc) u.tups u.frzs u.tbls (fun m' hm => by
    obtain ⟨o', es', ep', ho', r'⟩ := hm
    rw [ho] at ho'; cases ho'
    exact ⟨_, es', ep', hL, r'⟩) hok hg
/-- an untracked record of ours (an iterator) has turned -/
theorem Inv.turned {t' : Nat} {it : Addr} (I : Inv X pins σ H s) (k : ∀ b o, b ≠ it → s.heap.get? b = some o → h'.get? b = some o) (hn : H it = none) (hL : it ≠ X.env.locals)
    (h1 : it ∈ X.ex ∨ X.s₀.heap.objs.size ≤ it) (h2 : ∀ x c, X.env.cells.lookup x = some c → c ≠ it) (h3 : ∀ p ∈ X.pn ++ pins, p.1 ≠ it) : Inv X pins σ H { s with heap := h', toks := t' } := by
  have nit : ∀ b u, H b = some u → b ≠ it := fun b u e z => by rw [z, hn] at e; cases e
  refine I.step (g' := s.gens) (d' := s.drawn) (ch := [it]) (fun b hb => ?_) (fun b o _ _ hc e _ => k b o (fun z => hc (by simp [z])) e) (fun b o _ _ hc e _ => ⟨o.slots, k b o (fun z => hc (by simp [z])) e⟩) (fun _ _ _ _ n => n)
    (fun b o hc e => ⟨o, k b o (fun z => hc (by simp [z])) e⟩) (fun _ _ e => e) (fun _ _ _ e => e) (fun b ps e => ⟨#[], by rw [e]; simp⟩) (fun m hm => ?_) (fun b u e => ?_) I.bare
  · have e : b = it := by simpa using hb
    subst e
    exact ⟨h1, hL, h2, h3⟩
  · obtain ⟨o, es, ep, ho, r⟩ := hm
    exact ⟨o, es, ep, k _ o (Ne.symm hL) ho, r⟩
  · refine (I.hok b u e).stay (fun c v hc q => k c v ?_ q) (fun _ q => q) fun _ _ q => q
    rcases hc with z | z
    · rw [z]; exact nit b u e
    · exact nit c _ z
theorem Inv.tok (I : Inv X pins σ H s) (t : Nat) : Inv X pins σ H { s with toks := t } := I.un (h' := s.heap) (t' := t) Un.refl I.hok
/-- all objects kept -/
theorem Inv.kept {t' : Nat} (I : Inv X pins σ H s) (k : ∀ b u, s.heap.get? b = some u → h'.get? b = some u) : Inv X pins σ H { s with heap := h', toks := t' } := I.un (Un.kept k) (I.hok.kept k)
/-- a new object laid and tracked -/
theorem Inv.laid {a : Addr} {o : HO} {t' : Nat} (I : Inv X pins σ H s) (k : ∀ b u, s.heap.get? b = some u → h'.get? b = some u) (hp : s.heap.objs.size ≤ a) (new : ObjOk X.prog X.w (upd H a o) h' a o) :
    Inv X pins σ (upd H a o) { s with heap := h', toks := t' } := I.un (Un.laid k hp (I.hok.fresh hp)) (I.hok.laid k hp new)
/-- an object written -/
theorem Inv.write {x e : Addr} {o : HO} {t' : Nat} (I : Inv X pins σ H s) (mu : Mut (H x)) (he : e = x ∨ H e = some (.own x)) (k : ∀ b u, b ≠ e → s.heap.get? b = some u → h'.get? b = some u) (heo : ∃ u, h'.get? e = some u)
    (new : ObjOk X.prog X.w (upd H x o) h' x o) : Inv X pins σ (upd H x o) { s with heap := h', toks := t' } := I.un (Un.write mu he k heo) (I.hok.write mu he k heo new)
theorem Inv.pins_of {pins' : List (Addr × Obj)} (I : Inv X pins σ H s) (h : ∀ p ∈ pins', s.heap.get? p.1 = some p.2 ∧ H p.1 = none ∧ p.1 ≠ X.env.locals ∧ p.1 ∉ X.fs ∧ ∀ v, p.2.data ≠ .cell v) : Inv X pins' σ H s :=
  ⟨I.ok, I.os, I.bare, I.base, I.loc, I.cell, I.free, I.freeC, fun p hp => (List.mem_append.mp hp).elim (fun z => I.pin p (List.mem_append_left _ z)) (h p), I.hok, I.len⟩

theorem nodup_ix {N : List Str} (hN : N.Nodup) {i j : Nat} {x : Str} (a : N[i]? = some x) (b : N[j]? = some x) : i = j := by
  obtain ⟨h1, e1⟩ := List.getElem?_eq_some_iff.mp a
  obtain ⟨h2, e2⟩ := List.getElem?_eq_some_iff.mp b
  exact (List.getElem_inj hN).mp (e1.trans e2.symm)

/-- a name is stored; what changed -/
theorem store_ok2 {M : Model} {A : Around} {E : Value → Shared → Prop} {i : Nat} {x : Str} {v : V} {u : Value} {Q : Unit → Shared → Prop} (I : Inv X pins σ H s) (hN : X.N.Nodup) (hi : X.N[i]? = some x) (hx : Loc X.env.scope x) (r : RelV v u)
    (h : ∀ s', Inv X pins (σ.set i (some v)) H s' → (∃ a, Heap.SameBut a s.heap s'.heap ∧ (a = X.env.locals ∨ X.env.cells.lookup x = some a)) → Q () s') (hf : X.fn x = true ∨ X.env.scope.names.lookup x = some .local := by first | exact .inl rfl | exact .inr rfl | assumption) : wpAny M A (storeName X.env x u) Q E s := by
  obtain ⟨m, hn, hl⟩ := id I.loc
  have hcls : (X.env.scope.kind == .class || (X.env.scope.kind == .module && X.env.locals != X.env.globals)) = false := by rw [I.ok.kind]; rfl
  have hiσ : i < σ.length := by rw [I.len]; exact (List.getElem?_eq_some_iff.mp hi).1
  have cne := I.cne
  have tracked : ∀ {a : Addr} {h' : Heap}, (∃ o, s.heap.get? a = some o ∧ H a = none) → Heap.SameBut a s.heap h' → HOk X.prog X.w H h' := fun {a h'} ha hs b ob e => by
    obtain ⟨_, _, hfree⟩ := ha
    refine (I.hok b ob e).stay (fun c w' hc q => (hs.2 c ?_).trans q) (fun _ q => q) fun _ _ q => q
    rintro rfl
    rcases hc with rfl | hc
    · rw [hfree] at e; cases e
    · rw [hfree] at hc; cases hc
  rcases hx with hk | hk
  · refine wpAny_storeName_local hk hn (fun h' hn' hs => ?_) hcls
    obtain ⟨oL, _, _, hoL, _⟩ := id hn
    refine h _ ⟨I.ok, I.os, I.bare, ⟨fun b o e n hb hx => ?_, fun b o e n hb hx => ?_, I.base.free, fun b o e hx => ?_, I.base.tups, I.base.frzs, I.base.tbls⟩, ⟨_, hn', fun j y v' e1 e2 e3 => ?_⟩, fun y c e => ?_, I.free, I.freeC, fun p hp => ?_, tracked ⟨oL, hoL, I.free⟩ hs, by simpa using I.len⟩ ⟨_, hs, .inl rfl⟩
    · exact (hs.2 b (Nat.ne_of_lt (Nat.lt_of_lt_of_le (Heap.lt_size e) I.ok.above))).trans (I.base.keep b o e n hb hx)
    · obtain ⟨sl, e1⟩ := I.base.slot b o e n hb hx
      exact ⟨sl, (hs.2 b (Nat.ne_of_lt (Nat.lt_of_lt_of_le (Heap.lt_size e) I.ok.above))).trans e1⟩
    · obtain ⟨o', e1⟩ := I.base.there b o e hx
      exact ⟨o', (hs.2 b (Nat.ne_of_lt (Nat.lt_of_lt_of_le (Heap.lt_size e) I.ok.above))).trans e1⟩
    · by_cases hj : j = i
      · subst hj
        rw [hi] at e1; cases e1
        rw [List.getElem?_set_self hiσ] at e2
        cases e2
        exact ⟨u, r, .inl ⟨hk, by simp⟩⟩
      · rw [List.getElem?_set_ne (Ne.symm hj)] at e2
        obtain ⟨u', r', q⟩ := hl j y v' e1 e2 e3
        refine ⟨u', r', ?_⟩
        rcases q with ⟨k, e⟩ | ⟨k, c, e, z⟩
        · refine .inl ⟨k, ?_⟩
          have : y ≠ x := fun e => hj (nodup_ix hN e1 (e ▸ hi))
          simp [this, e]
        · exact .inr ⟨k, c, e, z.sameBut hs (cne y c e)⟩
    · obtain ⟨w', z⟩ := I.cell y c e
      exact ⟨w', z.sameBut hs (cne y c e)⟩
    · obtain ⟨e, n, ne, nf, d⟩ := I.pin p hp
      exact ⟨(hs.2 p.1 ne).trans e, n, ne, nf, d⟩
  · have hfn : X.fn x = true := by
      rcases hf with z | z
      · exact z
      · rw [z] at hk; cases hk
    obtain ⟨c, hc⟩ := I.ok.has x (.inl hk)
    obtain ⟨w', z⟩ := I.cell x c hc
    refine wpAny_storeName_cell I.ok.kind hk hc z (fun h' hc' hs => ?_)
    obtain ⟨oc, hoc, hocd⟩ := id z
    refine h { s with heap := h' } ⟨I.ok, I.os, I.bare, ⟨fun b o e n hb hx => ?_, fun b o e n hb hx => ?_, I.base.free, fun b o e hx => ?_, I.base.tups, I.base.frzs, I.base.tbls⟩, ⟨m, hn.sameBut hs (Ne.symm (cne x c hc)), fun j y v' e1 e2 e3 => ?_⟩, fun y c' e => ?_, I.free, I.freeC, fun p hp => ?_, tracked ⟨oc, hoc, I.freeC x c hc⟩ hs, by simpa using I.len⟩ ⟨c, hs, .inr hc⟩
    · exact (hs.2 b (Nat.ne_of_lt (Nat.lt_of_lt_of_le (Heap.lt_size e) (I.ok.cab x c hfn hc)))).trans (I.base.keep b o e n hb hx)
    · obtain ⟨sl, e1⟩ := I.base.slot b o e n hb hx
      exact ⟨sl, (hs.2 b (Nat.ne_of_lt (Nat.lt_of_lt_of_le (Heap.lt_size e) (I.ok.cab x c hfn hc)))).trans e1⟩
    · obtain ⟨o', e1⟩ := I.base.there b o e hx
      exact ⟨o', (hs.2 b (Nat.ne_of_lt (Nat.lt_of_lt_of_le (Heap.lt_size e) (I.ok.cab x c hfn hc)))).trans e1⟩
    · by_cases hj : j = i
      · subst hj
        rw [hi] at e1; cases e1
        rw [List.getElem?_set_self hiσ] at e2
        cases e2
        exact ⟨u, r, .inr ⟨.inl hk, c, hc, hc'⟩⟩
      · rw [List.getElem?_set_ne (Ne.symm hj)] at e2
        obtain ⟨u', r', q⟩ := hl j y v' e1 e2 e3
        refine ⟨u', r', ?_⟩
        rcases q with q | ⟨k, c', e, z'⟩
        · exact .inl q
        · refine .inr ⟨k, c', e, z'.sameBut hs ?_⟩
          rintro rfl
          exact hj (nodup_ix hN e1 (I.ok.inj _ _ _ e hc ▸ hi))
    · by_cases hcc : c' = c
      · subst hcc; exact ⟨_, hc'⟩
      · obtain ⟨w2, z2⟩ := I.cell y c' e
        exact ⟨w2, z2.sameBut hs hcc⟩
    · obtain ⟨e, n, ne, nf, d⟩ := I.pin p hp
      refine ⟨(hs.2 p.1 ?_).trans e, n, ne, nf, d⟩
      intro q
      rw [q, hoc] at e
      have q' : oc = p.2 := Option.some.inj e
      exact d w' (by rw [← q']; exact hocd)
theorem store_ok {M : Model} {A : Around} {E : Value → Shared → Prop} {i : Nat} {x : Str} {v : V} {u : Value} {Q : Unit → Shared → Prop} (I : Inv X pins σ H s) (hN : X.N.Nodup) (hi : X.N[i]? = some x) (hx : Loc X.env.scope x) (r : RelV v u)
    (h : ∀ s', Inv X pins (σ.set i (some v)) H s' → Q () s') (hf : X.fn x = true ∨ X.env.scope.names.lookup x = some .local := by first | exact .inl rfl | exact .inr rfl | assumption) : wpAny M A (storeName X.env x u) Q E s :=
  store_ok2 I hN hi hx r (fun s' I' _ => h s' I') hf
/-- behind a call or a block, the state as it is -/
theorem Inv.call' {s' : Shared} {ch : List Addr} (I : Inv X pins σ H s) (ho : s'.os = s.os) (u : Un (frs X.stack) ch H H' s.heap s'.heap) (hok : HOk X.prog X.w H' s'.heap) (hg : AllBare s'.gens)
    (hch : ∀ b ∈ ch, (b ∈ X.ex ∨ X.s₀.heap.objs.size ≤ b) ∧ b ≠ X.env.locals ∧ (∀ x c, X.env.cells.lookup x = some c → c ≠ b) ∧ ∀ p ∈ X.pn ++ pins, p.1 ≠ b) : Inv X pins σ H' s' := by
  obtain ⟨h', g', d', t', o'⟩ := s'
  have e : o' = s.os := ho
  subst e
  exact I.call (g' := g') (t' := t') (d' := d') u hok hg hch
end

/-! ### the judgements -/
/-- an exception: its class, its own dict's address (where it has one), the abstract heap behind it -/
abbrev XK := Value → Option Addr → Hp → Prop
abbrev St := List (Option V)
abbrev VK := V → Hp → Prop
/-- an expression's reading; a test's; an argument list's -/
abbrev TE := St → Hp → VK → Prop
abbrev TT := St → Hp → (Bool → Hp → Prop) → Prop
abbrev TA := St → Hp → (List V → Hp → Prop) → Prop
/-- what is wanted behind a statement -/
structure Ends where
  nx : St → Hp → Prop
  rt : VK
  bk : St → Hp → Prop := fun _ _ => False
  ct : St → Hp → Prop := fun _ _ => False
abbrev TS := Ends → St → Hp → Prop

def EP (X : Cx) (pins : List (Addr × Obj)) (σ : St) (Q : VK) (u : Value) (s' : Shared) : Prop := ∃ v H', Inv X pins σ H' s' ∧ RelV v u ∧ Q v H'
def TP (X : Cx) (pins : List (Addr × Obj)) (σ : St) (Q : Bool → Hp → Prop) (b : Bool) (s' : Shared) : Prop := ∃ H', Inv X pins σ H' s' ∧ Q b H'
def AP (X : Cx) (pins : List (Addr × Obj)) (σ : St) (Q : List V → Hp → Prop) (us : List Value) (s' : Shared) : Prop := ∃ vs H', Inv X pins σ H' s' ∧ Vals vs us ∧ Q vs H'
def SP (X : Cx) (pins : List (Addr × Obj)) (D : Ends) (f : Flow) (s' : Shared) : Prop :=
  match f with
  | .next => ∃ σ' H', Inv X pins σ' H' s' ∧ D.nx σ' H'
  | .brk => ∃ σ' H', Inv X pins σ' H' s' ∧ D.bk σ' H'
  | .cont => ∃ σ' H', Inv X pins σ' H' s' ∧ D.ct σ' H'
  | .ret u => ∃ v σ' H', Inv X pins σ' H' s' ∧ RelV v u ∧ D.rt v H'

def PE (X : Cx) (e : Expr) (t : TE) : Prop :=
  ∀ (pins : List (Addr × Obj)) (s : Shared) (σ : St) (H : Hp) (Q : VK), Inv X pins σ H s → t σ H Q → wpAny (model X.prog X.w) X.A (eval e X.env) (EP X pins σ Q) X.xe s
def PT (X : Cx) (e : Expr) (t : TT) : Prop :=
  ∀ (pins : List (Addr × Obj)) (s : Shared) (σ : St) (H : Hp) (Q : Bool → Hp → Prop), Inv X pins σ H s → t σ H Q → wpAny (model X.prog X.w) X.A (isTrue e X.env (eval e X.env)) (TP X pins σ Q) X.xe s
/-- a test whatever its 'whole' is (and, or) -/
def PW (X : Cx) (e : Expr) (t : TT) : Prop :=
  ∀ (whole : Sem Value) (pins : List (Addr × Obj)) (s : Shared) (σ : St) (H : Hp) (Q : Bool → Hp → Prop), Inv X pins σ H s → t σ H Q → wpAny (model X.prog X.w) X.A (isTrue e X.env whole) (TP X pins σ Q) X.xe s
theorem PW.pt {X : Cx} {e : Expr} {t : TT} (h : PW X e t) : PT X e t := h _
/-- an argument list (no star), from the left -/
def PA (X : Cx) (es : List Expr) (t : TA) : Prop :=
  ∀ (pos : Pos) (pins : List (Addr × Obj)) (s : Shared) (σ : St) (H : Hp) (Q : List V → Hp → Prop), Inv X pins σ H s → t σ H Q → wpAny (model X.prog X.w) X.A (spliced (backTo pos (starEach es X.env))) (AP X pins σ Q) X.xe s
def PS (X : Cx) (st : Stmt) (t : TS) : Prop :=
  ∀ (pins : List (Addr × Obj)) (s : Shared) (σ : St) (H : Hp) (D : Ends), Inv X pins σ H s → t D σ H → wpAny (model X.prog X.w) X.A (exec st X.env) (SP X pins D) X.xe s
def PSs (X : Cx) (st : List Stmt) (t : TS) : Prop :=
  ∀ (pins : List (Addr × Obj)) (s : Shared) (σ : St) (H : Hp) (D : Ends), Inv X pins σ H s → t D σ H → wpAny (model X.prog X.w) X.A (execs st X.env) (SP X pins D) X.xe s
/-- weaken the end -/
theorem thn {α : Type} {t : Sem α} {Q Q' : α → Shared → Prop} {M : Model} {A : Around} {E : Value → Shared → Prop} {s : Shared} (h : wpAny M A t Q E s) (hQ : ∀ a s, Q a s → Q' a s) : wpAny M A t Q' E s := wpAny_mono h hQ fun _ _ x => x
end L2

namespace L2
open PySem PySem.Spec PyProof.Rows
section
variable {X : Cx}


/-! ### names and constants -/
def tVar (i : Nat) : TE := fun σ H Q => ∃ v, σ[i]? = some (some v) ∧ Q v H
def tC (v : V) : TE := fun _ H Q => Q v H
theorem pe_var {i : Nat} {x : Str} {pos : Pos} (hN : X.N[i]? = some x) (hv : Vis X.env.scope x) (hd : (x == ("__debug__" : Str)) = false := by decide) (hcd : (x == ("__classdict__" : Str)) = false := by decide) : PE X (.Name x pos) (tVar i) := by
  intro pins s σ H Q I h
  obtain ⟨v, e, h⟩ := h
  obtain ⟨m, hn, hl⟩ := I.loc
  obtain ⟨u, r, l⟩ := hl i x v hN e hv
  have fin : EP X pins σ Q u s := ⟨v, H, I, r, h⟩
  rcases l with ⟨hk, hm⟩ | ⟨hk, c, hc, hcell⟩
  · exact wpAny_Name (wpAny_loadName_local I.ok.kind hk hn hm fin) hd
  · rcases hk with hk | hk
    · exact wpAny_Name (wpAny_loadName_cell I.ok.kind hk hc hcell fin) hd
    · exact wpAny_Name (wpAny_loadName_free I.ok.kind hk hc hcell fin hcd) hd
theorem pe_int {i j pos} : PE X (.Constant (.int i) j pos) (tC (.int i)) := fun _ _ _ H _ I h => wpAny_Constant_int ⟨.int i, H, I.tok _, ⟨_, rfl⟩, h⟩
theorem pe_bl {b j pos} : PE X (.Constant (.bool b) j pos) (tC (.bl b)) := fun _ _ _ H _ I h => Constant_bool ⟨.bl b, H, I, rfl, h⟩
theorem pe_non {j pos} : PE X (.Constant .none j pos) (tC .non) := fun _ _ _ H _ I h => Constant_none ⟨.non, H, I, rfl, h⟩
theorem pe_str {x j pos} : PE X (.Constant (.str x) j pos) (tC (.str x)) := fun _ _ _ H _ I h => Calls.Constant_str ⟨.str x, H, I.tok _, ⟨_, rfl⟩, h⟩

/-- a global name of the def -/
def Gl (X : Cx) (x : Str) : Prop := X.env.kindOf x = some .globalImplicit
theorem ld_glob {E : Value → Shared → Prop} {pins : List (Addr × Obj)} {s : Shared} {σ : St} {H : Hp} {x : Str} {u : Value} {pos : Pos} {Q : Value → Shared → Prop} (I : Inv X pins σ H s) (hg : Gl X x) (hm : X.mg x = some u) (h : Q u s)
    (hd : (x == ("__debug__" : Str)) = false := by decide) : wpAny (model X.prog X.w) X.A (eval (.Name x pos) X.env) Q E s :=
  Calls.Name_function_global I.ok.kind hg (Calls.loadGlobal_global (by rw [I.ok.glob]; exact I.mod.glob.keeps I.bk) hm h) hd
theorem ld_blt {E : Value → Shared → Prop} {pins : List (Addr × Obj)} {s : Shared} {σ : St} {H : Hp} {x : Str} {u : Value} {pos : Pos} {Q : Value → Shared → Prop} (I : Inv X pins σ H s) (hg : Gl X x) (hm : X.mg x = none) (hv : bootBuiltins x = some u) (h : Q u s)
    (hn : x ≠ "__name__" := by decide) (hd : (x == ("__debug__" : Str)) = false := by decide) : wpAny (model X.prog X.w) X.A (eval (.Name x pos) X.env) Q E s := by
  obtain ⟨mb, h1, h2⟩ := I.mod.blt
  exact Calls.Name_function_global I.ok.kind hg (Calls.loadGlobal_builtin (by rw [I.ok.glob]; exact I.mod.glob.keeps I.bk) hm (by rw [I.ok.blt]; exact h1.keeps I.bk) ((h2 x hn).trans hv) h) hd
/-- a module's constant, a class, a function, as a value -/
theorem pe_glob {x : Str} {v : V} {u : Value} {pos : Pos} (hg : Gl X x) (hm : X.mg x = some u) (r : RelV v u) (hd : (x == ("__debug__" : Str)) = false := by decide) : PE X (.Name x pos) (tC v) :=
  fun _ _ _ H _ I h => ld_glob I hg hm ⟨v, H, I, r, h⟩ hd
theorem pe_bltn {x : Str} {v : V} {u : Value} {pos : Pos} (hg : Gl X x) (hm : X.mg x = none) (hv : bootBuiltins x = some u) (r : RelV v u) (hn : x ≠ "__name__" := by decide) (hd : (x == ("__debug__" : Str)) = false := by decide) : PE X (.Name x pos) (tC v) :=
  fun _ _ _ H _ I h => ld_blt I hg hm hv ⟨v, H, I, r, h⟩ hn hd

/-! ### arithmetic -/
variable {a b : Expr} {ta tb : TE} {pos : Pos}

/-! ### comparisons -/
/-- a comparison as a value, as a test -/
def tB (t : TE) : TT := fun σ H Q => t σ H fun x H1 => ∃ c, x = .bl c ∧ Q c H1
/-- an expression whose value is a bool, as a test -/
theorem pt_val {e : Expr} {t : TE} (h : PE X e t) (he : ∀ whole, isTrue e X.env whole = (do let v ← whole; standAt e.pos; holding [v] (truthy v)) := by intro _; rfl) : PT X e (tB t) := by
  intro pins s σ H Q I hw
  refine isTrue_plain (thn (h pins s σ H _ I hw) fun v s1 ⟨x, H1, I1, r1, q1⟩ => ?_) (he _)
  obtain ⟨d, rfl, q⟩ := q1
  cases r1
  exact wpAny_truthy_bool ⟨H1, I1, q⟩

/-! ### and, or, not -/
variable {tA tB' : TT} {rest : List Expr}
def tAnd (t u : TT) : TT := fun σ H Q => t σ H fun c H1 => if c = true then u σ H1 Q else Q false H1
def tOr (t u : TT) : TT := fun σ H Q => t σ H fun c H1 => if c = true then Q true H1 else u σ H1 Q
def tNot (t : TT) : TT := fun σ H Q => t σ H fun c H1 => Q (!c) H1
theorem pw_and1 (ha : PT X a tA) : PW X (.BoolOp .And [a] pos) tA := by
  intro wh pins s σ H Q I h
  refine isTrue_and (thn (ha pins s σ H Q I h) fun c s1 e => ?_)
  cases c with
  | true => exact isTrue_and_nil e
  | false => exact e
theorem pw_or1 (ha : PT X a tA) : PW X (.BoolOp .Or [a] pos) tA := by
  intro wh pins s σ H Q I h
  refine isTrue_or (thn (ha pins s σ H Q I h) fun c s1 e => ?_)
  cases c with
  | false => exact isTrue_or_nil e
  | true => exact e
theorem pw_and (ha : PT X a tA) (hb : PW X (.BoolOp .And (b :: rest) pos) tB') : PW X (.BoolOp .And (a :: b :: rest) pos) (tAnd tA tB') := by
  intro wh pins s σ H Q I h
  refine isTrue_and (thn (ha pins s σ H _ I h) fun c s1 ⟨H1, I1, q1⟩ => ?_)
  cases c with
  | true => exact hb wh pins s1 σ H1 Q I1 q1
  | false => exact ⟨H1, I1, q1⟩
theorem pw_or (ha : PT X a tA) (hb : PW X (.BoolOp .Or (b :: rest) pos) tB') : PW X (.BoolOp .Or (a :: b :: rest) pos) (tOr tA tB') := by
  intro wh pins s σ H Q I h
  refine isTrue_or (thn (ha pins s σ H _ I h) fun c s1 ⟨H1, I1, q1⟩ => ?_)
  cases c with
  | true => exact ⟨H1, I1, q1⟩
  | false => exact hb wh pins s1 σ H1 Q I1 q1
theorem pt_not (ha : PT X a tA) : PT X (.UnaryOp .Not a pos) (tNot tA) := by
  intro pins s σ H Q I h
  exact isTrue_not (ha pins s σ H (fun c H1 => Q (!c) H1) I h)
/-- .. as values (bools) -/
def tAndV (ta tb : TE) : TE := fun σ H Q => ta σ H fun x H1 => ∃ c, x = .bl c ∧ if c = true then tb σ H1 Q else Q (.bl false) H1
def tOrV (ta tb : TE) : TE := fun σ H Q => ta σ H fun x H1 => ∃ c, x = .bl c ∧ if c = true then Q (.bl true) H1 else tb σ H1 Q
theorem pe_one {op} {t : TE} (h : PE X a t) : PE X (.BoolOp op [a] pos) t := fun pins s σ H Q I hw => BoolOp_one (h pins s σ H Q I hw)
theorem pe_and (ha : PE X a ta) (hb : PE X (.BoolOp .And (b :: rest) pos) tb) : PE X (.BoolOp .And (a :: b :: rest) pos) (tAndV ta tb) := by
  intro pins s σ H Q I h
  refine BoolOp_and (thn (ha pins s σ H _ I h) fun v s1 ⟨x, H1, I1, r1, q1⟩ => ?_)
  obtain ⟨c, rfl, q1⟩ := q1
  cases r1
  refine wpAny_truthy_bool ?_
  cases c with
  | true => exact hb pins s1 σ H1 Q I1 q1
  | false => exact ⟨.bl false, H1, I1, rfl, q1⟩
theorem pe_or (ha : PE X a ta) (hb : PE X (.BoolOp .Or (b :: rest) pos) tb) : PE X (.BoolOp .Or (a :: b :: rest) pos) (tOrV ta tb) := by
  intro pins s σ H Q I h
  refine BoolOp_or (thn (ha pins s σ H _ I h) fun v s1 ⟨x, H1, I1, r1, q1⟩ => ?_)
  obtain ⟨c, rfl, q1⟩ := q1
  cases r1
  refine wpAny_truthy_bool ?_
  cases c with
  | false => exact hb pins s1 σ H1 Q I1 q1
  | true => exact ⟨.bl true, H1, I1, rfl, q1⟩
/-- a if t else b -/
def tIf (t : TT) (ta tb : TE) : TE := fun σ H Q => t σ H fun c H1 => if c = true then ta σ H1 Q else tb σ H1 Q
theorem pe_ifExp {c : Expr} (hc : PT X c tA) (ha : PE X a ta) (hb : PE X b tb) : PE X (.IfExp c a b pos) (tIf tA ta tb) := by
  intro pins s σ H Q I h
  refine wpAny_IfExp (thn (hc pins s σ H _ I h) fun d s1 ⟨H1, I1, q1⟩ => ?_)
  cases d with
  | true => exact ha pins s1 σ H1 Q I1 q1
  | false => exact hb pins s1 σ H1 Q I1 q1
end
end L2

namespace L2
open PySem PySem.Spec PyProof.Rows

/-! ### a list, a tuple that is read: tracked, frozen, or an object of the module -/
def SqL (K : PySem.W.Frag) (H : Hp) (a : Addr) (xs : List V) : Prop :=
  Rd H a (.lst xs) ∨
    ∃ (o : Obj) (its : Array Value) (n : Nat), K.lookup a = some o ∧ o.cls = .type "list" ∧ o.dict = none ∧ o.data = .seq its n ∧ its.size ≤ sizeLine ∧ Vals xs its.toList
def SqT (K : PySem.W.Frag) (H : Hp) (a : Addr) (xs : List V) : Prop :=
  Rd H a (.tup xs) ∨
    ∃ (o : Obj) (its : Array Value) (n : Nat), K.lookup a = some o ∧ o.cls = .type "tuple" ∧ o.data = .seq its n ∧ its.size ≤ sizeLine ∧ Vals xs its.toList
def absV : Value → Option V
  | .none => some .non
  | .bool b => some (.bl b)
  | .int i _ => some (.int i)
  | .str x _ => some (.str x)
  | .bytes b _ => some (.byt b)
  | .float b _ => some (.flt b)
  | .ref a => some (.ref a)
  | .type n => some (.ty n)
  | _ => none
theorem RelV.abs {x : V} {u : Value} (r : RelV x u) : absV u = some x := by
  cases x with
  | non => cases r; rfl
  | bl _ => cases r; rfl
  | int _ => obtain ⟨t, rfl⟩ := r; rfl
  | str _ => obtain ⟨t, rfl⟩ := r; rfl
  | byt _ => obtain ⟨t, rfl⟩ := r; rfl
  | flt _ => obtain ⟨t, rfl⟩ := r; rfl
  | ref _ => cases r; rfl
  | ty _ => cases r; rfl
theorem RelV.inj {x y : V} {u : Value} (r : RelV x u) (q : RelV y u) : x = y := Option.some.inj (r.abs.symm.trans q.abs)
theorem Vals.inj : ∀ {xs ys : List V} {us : List Value}, Vals xs us → Vals ys us → xs = ys
  | _, _, _, .nil, .nil => rfl
  | _, _, _, .cons r t, .cons r' t' => by rw [r.inj r', Vals.inj t t']
section
variable {X : Cx} {pins : List (Addr × Obj)} {σ : St} {H : Hp} {s : Shared} {a : Addr} {xs ys : List V}
theorem SqL.of {K : PySem.W.Frag} (h : H a = some (.lst xs)) : SqL K H a xs := .inl (.inl h)
theorem SqT.of {K : PySem.W.Frag} (h : H a = some (.tup xs)) : SqT K H a xs := .inl (.inl h)
theorem Inv.list (I : Inv X pins σ H s) (h : SqL X.K H a xs) : ∃ its : List Value, Vals xs its ∧ PlainL s.heap a its.toArray ∧ xs.length ≤ sizeLine := by
  rcases h with h | ⟨o, its, n, hk, hc, hd, hs, hz, r⟩
  · obtain ⟨z, its, n, r, e⟩ := h.ok I.hok
    exact ⟨its, r, ⟨_, n, e, rfl, rfl, rfl⟩, z⟩
  · refine ⟨its.toList, r, ⟨o, n, I.kIn a o hk, hc, hd, by simpa using hs⟩, ?_⟩
    have e := r.length
    simp only [Array.length_toList] at e
    omega
theorem Inv.tuple (I : Inv X pins σ H s) (h : SqT X.K H a xs) : ∃ its : List Value, Vals xs its ∧ IsTup s.heap a its.toArray ∧ xs.length ≤ sizeLine := by
  rcases h with h | ⟨o, its, n, hk, hc, hs, hz, r⟩
  · obtain ⟨z, its, r, p⟩ := h.ok I.hok
    exact ⟨its, r, p, z⟩
  · refine ⟨its.toList, r, ⟨o, I.kIn a o hk, hc, n, by simpa using hs⟩, ?_⟩
    have e := r.length
    simp only [Array.length_toList] at e
    omega
theorem Inv.list_inj (I : Inv X pins σ H s) (h : SqL X.K H a xs) (h' : SqL X.K H a ys) : xs = ys := by
  obtain ⟨its, r, ⟨o, n, e, _, _, d⟩, _⟩ := I.list h
  obtain ⟨its', r', ⟨o', n', e', _, _, d'⟩, _⟩ := I.list h'
  rw [e] at e'; cases e'
  rw [d] at d'
  injection d' with d1 _
  have : its = its' := by simpa using congrArg Array.toList d1
  subst this
  exact r.inj r'
theorem Inv.tuple_inj (I : Inv X pins σ H s) (h : SqT X.K H a xs) (h' : SqT X.K H a ys) : xs = ys := by
  obtain ⟨its, r, ⟨o, e, _, n, d⟩, _⟩ := I.tuple h
  obtain ⟨its', r', ⟨o', e', _, n', d'⟩, _⟩ := I.tuple h'
  rw [e] at e'; cases e'
  rw [d] at d'
  injection d' with d1 _
  have : its = its' := by simpa using congrArg Array.toList d1
  subst this
  exact r.inj r'
end

/-! ### another wish about exceptions -/
abbrev Cx.wish (X : Cx) (E : Value → Shared → Prop) : Cx := { X with xe := E }
/-- no exception leaves -/
abbrev Cx.nox (X : Cx) : Cx := X.wish fun _ _ => False
theorem Cx.Ok.wish {X : Cx} (ok : X.Ok) (E : Value → Shared → Prop) : (X.wish E).Ok :=
  ⟨ok.mod, ok.kind, ok.glob, ok.blt, ok.above, ok.inj, ok.has, ok.cab, ok.hd, ok.frames, ok.stk, ok.exf, ok.bs, ok.bsz, ok.noex, ok.exfs, ok.funs, ok.frf⟩
theorem Cx.Ok.unwish {X : Cx} {E : Value → Shared → Prop} (ok : (X.wish E).Ok) : X.Ok :=
  ⟨ok.mod, ok.kind, ok.glob, ok.blt, ok.above, ok.inj, ok.has, ok.cab, ok.hd, ok.frames, ok.stk, ok.exf, ok.bs, ok.bsz, ok.noex, ok.exfs, ok.funs, ok.frf⟩
section
variable {X : Cx} {pins : List (Addr × Obj)} {σ : St} {H : Hp} {s : Shared} {E : Value → Shared → Prop}
theorem Inv.wish (I : Inv X pins σ H s) (E : Value → Shared → Prop) : Inv (X.wish E) pins σ H s := ⟨I.ok.wish E, I.os, I.bare, I.base, I.loc, I.cell, I.free, I.freeC, I.pin, I.hok, I.len⟩
theorem Inv.unwish (I : Inv (X.wish E) pins σ H s) : Inv X pins σ H s := ⟨I.ok.unwish, I.os, I.bare, I.base, I.loc, I.cell, I.free, I.freeC, I.pin, I.hok, I.len⟩
theorem SP.unwish {D : Ends} {f : Flow} {s' : Shared} (h : SP (X.wish E) pins D f s') : SP X pins D f s' := by
  cases f with
  | next => obtain ⟨σ', H', I, q⟩ := h; exact ⟨σ', H', I.unwish, q⟩
  | brk => obtain ⟨σ', H', I, q⟩ := h; exact ⟨σ', H', I.unwish, q⟩
  | cont => obtain ⟨σ', H', I, q⟩ := h; exact ⟨σ', H', I.unwish, q⟩
  | ret u => obtain ⟨v, σ', H', I, r, q⟩ := h; exact ⟨v, σ', H', I.unwish, r, q⟩
theorem PSs.nox {st : List Stmt} {t : TS} (h : PSs X.nox st t) : PSs X st t := fun pins s σ H D I hw =>
  wpAny_mono (h pins s σ H D (I.wish _) hw) (fun _ _ q => q.unwish) fun _ _ z => False.elim z
end

/-! ### blocks and small statements -/
section
variable {X : Cx} {st : Stmt} {rest : List Stmt} {t u : TS} {e : Expr} {te : TE} {pos : Pos}
def tNext : TS := fun D σ H => D.nx σ H
def tSeq (t u : TS) : TS := fun D σ H => t { D with nx := u D } σ H
theorem pss_nil : PSs X [] tNext := fun _ _ σ H _ I h => wpAny_execs_nil ⟨σ, H, I, h⟩
theorem pss_cons (h1 : PS X st t) (h2 : PSs X rest u) : PSs X (st :: rest) (tSeq t u) := by
  intro pins s σ H D I h
  refine wpAny_execs_cons (thn (h1 pins s σ H { D with nx := u D } I h) fun f s1 q => ?_)
  cases f with
  | next =>
    obtain ⟨σ', H', I', q⟩ := q
    exact h2 pins s1 σ' H' D I' q
  | ret v => exact q
  | brk => exact q
  | cont => exact q
theorem pss_one (h1 : PS X st t) : PSs X [st] t := by
  intro pins s σ H D I h
  refine wpAny_execs_cons (thn (h1 pins s σ H D I h) fun f s1 q => ?_)
  cases f with
  | next => exact wpAny_execs_nil q
  | ret v => exact q
  | brk => exact q
  | cont => exact q
/-- in a def's body nothing is shown -/
theorem Inv.quiet {pins : List (Addr × Obj)} {σ : St} {H : Hp} {s : Shared} (I : Inv X pins σ H s) : interactive X.env = false := by simp [interactive, I.ok.kind]
/-- an expression whose value is dropped -/
def tDrop (te : TE) : TS := fun D σ H => te σ H fun _ H1 => D.nx σ H1
theorem ps_expr (he : PE X e te) (hs : swapsWith e none pos.line X.env = pure false := by rfl) : PS X (.Expr e pos) (tDrop te) := by
  intro pins s σ H D I h
  exact wpAny_Expr_any (thn (he pins s σ H _ I h) fun v s1 ⟨x, H1, I1, r1, q1⟩ => ⟨σ, H1, I1, q1⟩) I.quiet hs
def tRet (te : TE) : TS := fun D σ H => te σ H D.rt
theorem ps_ret (he : PE X e te) : PS X (.Return (some e) pos) (tRet te) := by
  intro pins s σ H D I h
  exact wpAny_Return_some (thn (he pins s σ H _ I h) fun v s1 ⟨x, H1, I1, r1, q1⟩ => ⟨x, σ, H1, I1, r1, q1⟩)
def tIfS (c : TT) (t u : TS) : TS := fun D σ H => c σ H fun b H1 => if b = true then t D σ H1 else u D σ H1
theorem ps_if {c : Expr} {a b : List Stmt} {tc : TT} (hc : PT X c tc) (ha : PSs X a t) (hb : PSs X b u) : PS X (.If c a b pos) (tIfS tc t u) := by
  intro pins s σ H D I h
  refine wpAny_If (thn (hc pins s σ H _ I h) fun d s1 ⟨H1, I1, q1⟩ => ?_)
  cases d with
  | true => exact ha pins s1 σ H1 D I1 q1
  | false => exact hb pins s1 σ H1 D I1 q1
end

/-! ### targets -/
abbrev TG := V → St → Hp → (St → Hp → Prop) → Prop
abbrev TGs := List V → St → Hp → (St → Hp → Prop) → Prop
def PG (X : Cx) (target : Expr) (t : TG) : Prop :=
  ∀ (pins : List (Addr × Obj)) (s : Shared) (σ : St) (H : Hp) (v : V) (u : Value) (Q : St → Hp → Prop), Inv X pins σ H s → RelV v u → t v σ H Q →
    wpAny (model X.prog X.w) X.A (assign target X.env u) (fun _ s' => ∃ σ' H', Inv X pins σ' H' s' ∧ Q σ' H') X.xe s
/-- several targets, one after another -/
def PGs (X : Cx) (ts : List Expr) (t : TGs) : Prop :=
  ∀ (pins : List (Addr × Obj)) (s : Shared) (σ : St) (H : Hp) (vs : List V) (us : List Value) (Q : St → Hp → Prop), Inv X pins σ H s → Vals vs us → t vs σ H Q →
    wpAny (model X.prog X.w) X.A (assignInOrder ((assignEach ts X.env).map (·.2)) us) (fun _ s' => ∃ σ' H', Inv X pins σ' H' s' ∧ Q σ' H') X.xe s
section
variable {X : Cx} {pos : Pos}
def gName (i : Nat) : TG := fun v σ H Q => Q (σ.set i (some v)) H
theorem pg_name {i : Nat} {x : Str} (hN : X.N.Nodup) (hi : X.N[i]? = some x) (hx : Loc X.env.scope x) (hf : X.fn x = true ∨ X.env.scope.names.lookup x = some .local := by first | exact .inl rfl | exact .inr rfl | assumption) : PG X (.Name x pos) (gName i) := by
  intro pins s σ H v u Q I r h
  exact wpAny_assign_Name (store_ok I hN hi hx r (fun s' I' => ⟨_, H, I', h⟩) hf)
def gNil : TGs := fun vs σ H Q => vs = [] ∧ Q σ H
def gCons (t : TG) (u : TGs) : TGs := fun vs σ H Q => ∃ v r, vs = v :: r ∧ t v σ H fun σ' H' => u r σ' H' Q
theorem pgs_nil : PGs X [] gNil := by
  intro pins s σ H vs us Q I r h
  obtain ⟨e, h⟩ := h
  subst e
  cases r
  exact assignInOrder_nil ⟨σ, H, I, h⟩
theorem pgs_cons {e : Expr} {es : List Expr} {t : TG} {u : TGs} (h1 : PG X e t) (h2 : PGs X es u)
    (hs : (assignEach (e :: es) X.env).map (·.2) = assign e X.env :: (assignEach es X.env).map (·.2) := by rfl) : PGs X (e :: es) (gCons t u) := by
  intro pins s σ H vs us Q I r h
  obtain ⟨v, vr, e1, h⟩ := h
  subst e1
  cases r with
  | cons r rr =>
    rw [hs]
    refine assignInOrder_cons (thn (h1 pins s σ H _ _ _ I r h) fun _ s1 ⟨σ1, H1, I1, q1⟩ => ?_)
    exact h2 pins s1 σ1 H1 _ _ Q I1 rr q1
/-- (a, b, ..) = a tuple of that length -/
def gTup (K : PySem.W.Frag) (n : Nat) (t : TGs) : TG := fun v σ H Q => ∃ a xs, v = .ref a ∧ SqT K H a xs ∧ xs.length = n ∧ t xs σ H Q
theorem pg_tup {es : List Expr} {k : Nat} {t : TGs} {n : Nat} (hc : X.calm = true) (h : PGs X es t)
    (hn : (assignEach es X.env).length = n := by rfl) (hst : (assignEach es X.env).findIdx? (·.1) = none := by rfl) : PG X (.Tuple es k pos) (gTup X.K n t) := by
  intro pins s σ H v u Q I r hw
  obtain ⟨a, xs, e1, hq, hl, hw⟩ := hw
  subst e1
  cases r
  obtain ⟨its, rv, ht, hz⟩ := I.tuple hq
  refine assign_Tuple_tuple (I.ok.hd hc) ht (by simp [hn, ← hl, rv.length]) hst fun h' hx => ?_
  have I1 : Inv X pins σ H { s with heap := h' } := I.kept (t' := s.toks) fun b o e => hx b o (Nat.ne_of_lt (Heap.lt_size e)) e
  exact h pins _ σ H xs _ Q I1 (by simpa using rv) hw
/-- target = value -/
def tAsg (te : TE) (g : TG) : TS := fun D σ H => te σ H fun x H1 => g x σ H1 D.nx
/-- name = value -/
theorem ps_set {i : Nat} {x : Str} {e : Expr} {te : TE} {pos' : Pos} (hN : X.N.Nodup) (hi : X.N[i]? = some x) (hx : Loc X.env.scope x) (he : PE X e te) (hs : swapsWith e (some (.Name x pos')) pos.line X.env = pure false := by rfl) (hf : X.fn x = true ∨ X.env.scope.names.lookup x = some .local := by first | exact .inl rfl | exact .inr rfl | assumption) :
    PS X (.Assign [.Name x pos'] e pos) (tAsg te (gName i)) := by
  intro pins s σ H D I h
  refine wpAny_Assign_Name (thn (he pins s σ H _ I h) fun v s1 ⟨y, H1, I1, r1, q1⟩ => ?_) hs
  exact store_ok I1 hN hi hx r1 (fun s2 I2 => ⟨_, H1, I2, q1⟩) hf
end

/-! ### while -/
section
variable {X : Cx} {pos : Pos}
end

/-! ### what a loop or a comprehension walks -/
/-- at turn i: it yields x (the heap may grow), or it stops -/
structure It where
  go : Nat → Hp → Prop
  yld : Nat → Hp → V → Hp → Prop
  stop : Nat → Hp → Prop
/-- the iterator's own objects may turn: they are not the frame's, not pinned, younger than the entry (or a comprehension's own) -/
def FpOk (X : Cx) (pins : List (Addr × Obj)) (H : Hp) (b : Addr) : Prop :=
  H b = none ∧ b ≠ X.env.locals ∧ b ∉ X.fs ∧ (b ∈ X.ex ∨ X.s₀.heap.objs.size ≤ b) ∧ (∀ x c, X.env.cells.lookup x = some c → c ≠ b) ∧ ∀ p ∈ X.pn ++ pins, p.1 ≠ b
theorem Inv.fpOk {X : Cx} {pins : List (Addr × Obj)} {σ : St} {H H' : Hp} {s : Shared} {b : Addr} (I : Inv X pins σ H s) (hb : s.heap.objs.size ≤ b) (hn : H' b = none) : FpOk X pins H' b := by
  refine ⟨hn, Nat.ne_of_gt (Nat.lt_of_lt_of_le I.lt hb), I.nofs hb, .inr (Nat.le_trans I.sz hb), fun x c e z => ?_, fun p hp z => ?_⟩
  · obtain ⟨v, q⟩ := I.cell x c e
    exact absurd (Nat.lt_of_lt_of_le q.lt (by rw [z]; exact hb)) (Nat.lt_irrefl _)
  · exact absurd (Nat.lt_of_lt_of_le (Heap.lt_size (I.pin p hp).1) (by rw [z]; exact hb)) (Nat.lt_irrefl _)
structure Turn (P : Program) (w : World) (K : PySem.W.Frag) (tg : Expr) (J : It) (fp : List Addr) (it : Addr) (tn : Nat → Heap → Prop) : Prop where
  mem : it ∈ fp
  obj : ∀ i h, tn i h → ∀ b ∈ fp, ∃ o, h.get? b = some o ∧ ∀ v, o.data ≠ .cell v
  keep : ∀ i h h', tn i h → (∀ b ∈ fp, ∀ o, h.get? b = some o → h'.get? b = some o) → tn i h'
  item : ∀ (X : Cx), X.prog = P → X.w = w → X.K = K → X.calm = true → ∀ (i : Nat) (pins : List (Addr × Obj)) (s : Shared) (σ : St) (H : Hp) (E : Value → Shared → Prop), Inv X pins σ H s → (∀ b ∈ fp, FpOk X pins H b) → tn i s.heap → J.go i H →
    wpAny (model P w) X.A (pyNext (.ref it)) (fun r s1 => ∃ u, r = some u ∧
      wpAny (model P w) X.A (letOwnedTupleGo tg (.ref it) u) (fun _ s2 => ∃ x H', Inv X pins σ H' s2 ∧ RelV x u ∧ J.yld i H x H' ∧ tn (i + 1) s2.heap ∧ ∀ b ∈ fp, H' b = none) E s1) E s
  done : ∀ (X : Cx), X.prog = P → X.w = w → X.K = K → X.calm = true → ∀ (i : Nat) (pins : List (Addr × Obj)) (s : Shared) (σ : St) (H : Hp) (E : Value → Shared → Prop), Inv X pins σ H s → (∀ b ∈ fp, FpOk X pins H b) → tn i s.heap → J.stop i H →
    wpAny (model P w) X.A (pyNext (.ref it)) (fun r s1 => r = none ∧ Inv X pins σ H s1) E s
  self : ∀ (A : Around) (i : Nat) (s : Shared) (Q : Value → Shared → Prop) (E : Value → Shared → Prop), tn i s.heap → Q (.ref it) s → wpAny (model P w) A (pyIter (.ref it)) Q E s
abbrev TI := St → Hp → (It → Hp → Prop) → Prop
/-- an iterator has come -/
def PIE (X : Cx) (pins : List (Addr × Obj)) (σ : St) (tg : Expr) (R : It → Hp → Prop) (itv : Value) (s2 : Shared) : Prop :=
  ∃ (it : Addr) (fp : List Addr) (tn : Nat → Heap → Prop) (J : It) (H' : Hp), itv = .ref it ∧ Inv X pins σ H' s2 ∧ Turn X.prog X.w X.K tg J fp it tn ∧ tn 0 s2.heap ∧ (∀ b ∈ fp, FpOk X pins H' b) ∧ R J H'
def PI (X : Cx) (tg iter : Expr) (wi : TI) : Prop :=
  ∀ (pins : List (Addr × Obj)) (s : Shared) (σ : St) (H : Hp) (R : It → Hp → Prop), Inv X pins σ H s → wi σ H R →
    wpAny (model X.prog X.w) X.A (eval iter X.env) (fun v s1 => wpAny (model X.prog X.w) X.A (pyIter v) (PIE X pins σ tg R) X.xe s1) X.xe s

/-- the step ahead of the store is nothing for an iterator that keeps no tuple -/
theorem go_of {M : Model} {A : Around} {E : Value → Shared → Prop} {s : Shared} {tg : Expr} {it : Addr} {u : Value} {o : Obj} {n : String} {vs : Array Value} {Q : Unit → Shared → Prop} (ho : s.heap.get? it = some o) (hc : o.cls = .type n) (hd : o.data = .fields vs)
    (hn : ["enumerate", "zip", "dict_itemiterator", "dict_reverseitemiterator", "odict_iterator", "itertools.zip_longest", "itertools.pairwise"].contains n = false) (hQ : Q () s) : wpAny M A (letOwnedTupleGo tg (.ref it) u) Q E s := by
  unfold letOwnedTupleGo
  cases tg <;> first
    | exact wpAny_pure hQ
    | (cases u <;> first
        | exact wpAny_pure hQ
        | (refine wpAny_bind (wpAny_load ho ?_)
           rw [hc, hd]
           show wpAny M A (if (["enumerate", "zip", "dict_itemiterator", "dict_reverseitemiterator", "odict_iterator", "itertools.zip_longest", "itertools.pairwise"].contains n && vs[0]? == some (rawInt _)) = true then _ else _) Q E s
           rw [if_neg (by intro h; rw [hn, Bool.false_and] at h; cases h)]
           exact wpAny_pure hQ))

/-- the list at a, as it stands at each turn (a loop may append to it) -/
def Itl (K : PySem.W.Frag) (a : Addr) : It :=
  ⟨fun i H => ∃ xs x, SqL K H a xs ∧ xs[i]? = some x, fun i H x H' => H' = H ∧ ∀ xs, SqL K H a xs → xs[i]? = some x, fun i H => ∃ xs, SqL K H a xs ∧ xs.length ≤ i⟩
def Itt (K : PySem.W.Frag) (a : Addr) : It :=
  ⟨fun i H => ∃ xs x, SqT K H a xs ∧ xs[i]? = some x, fun i H x H' => H' = H ∧ ∀ xs, SqT K H a xs → xs[i]? = some x, fun i H => ∃ xs, SqT K H a xs ∧ xs.length ≤ i⟩
/-- lo, lo + 1, .. (n of them) -/
def Itr (lo : Int) (n : Nat) : It := ⟨fun i _ => i < n, fun i H x H' => H' = H ∧ x = .int (lo + i), fun i _ => n ≤ i⟩
theorem turn_list {P : Program} {w : World} {K : PySem.W.Frag} {tg : Expr} (a it : Addr) : Turn P w K tg (Itl K a) [it] it (fun i h => h.IsListIter it a i) where
  mem := by simp
  obj := fun i h st b hb => by
    have e : b = it := by simpa using hb
    subst e
    obtain ⟨o, e, c, d⟩ := st
    exact ⟨o, e, fun v z => by rw [d] at z; cases z⟩
  keep := fun i h h' st k => st.at fun o e => k it (by simp) o e
  item := by
    intro X hP hw hK hc i pins s σ H E I hf st hg
    subst hP hw hK
    obtain ⟨xs, x, hq, hx⟩ := hg
    obtain ⟨its, rv, p, hz⟩ := I.list hq
    obtain ⟨u, hu, ru⟩ := rv.get hx
    obtain ⟨f0, f1, f2, f3, f4, f5⟩ := hf it (by simp)
    refine wpAny_pyNext_list_item st p.isList (x := u) (by simpa using hu) fun h' st' sb => ?_
    have I1 : Inv X pins σ H { s with heap := h' } := I.turned (t' := s.toks) (fun b o hb e => (sb.2 b hb).trans e) f0 f1 f3 f4 f5
    obtain ⟨o, e, c, d⟩ := id st'
    exact ⟨u, rfl, go_of (s := { s with heap := h' }) e c d (by decide) ⟨x, H, I1, ru, ⟨rfl, fun ys hy => by rw [I.list_inj hy hq]; exact hx⟩, st', fun b hb => (hf b hb).1⟩⟩
  done := by
    intro X hP hw hK hc i pins s σ H E I hf st hg
    subst hP hw hK
    obtain ⟨xs, hq, hx⟩ := hg
    obtain ⟨its, rv, p, hz⟩ := I.list hq
    obtain ⟨f0, f1, f2, f3, f4, f5⟩ := hf it (by simp)
    have hl := rv.length
    exact wpAny_pyNext_list_end (I.ok.hd hc) st p.isList (by simp; omega) fun h' eb => ⟨rfl, I.turned (t' := s.toks) (fun b o hb e => eb b o hb e) f0 f1 f3 f4 f5⟩
  self := fun _ _ _ _ _ st h => wpAny_pyIter_listiter st h
theorem turn_tuple {P : Program} {w : World} {K : PySem.W.Frag} {tg : Expr} (a it : Addr) : Turn P w K tg (Itt K a) [it] it (fun i h => h.IsTupleIter it a i) where
  mem := by simp
  obj := fun i h st b hb => by
    have e : b = it := by simpa using hb
    subst e
    obtain ⟨o, e, c, d⟩ := st
    exact ⟨o, e, fun v z => by rw [d] at z; cases z⟩
  keep := fun i h h' st k => st.at fun o e => k it (by simp) o e
  item := by
    intro X hP hw hK hc i pins s σ H E I hf st hg
    subst hP hw hK
    obtain ⟨xs, x, hq, hx⟩ := hg
    obtain ⟨its, rv, p, hz⟩ := I.tuple hq
    obtain ⟨u, hu, ru⟩ := rv.get hx
    obtain ⟨f0, f1, f2, f3, f4, f5⟩ := hf it (by simp)
    refine wpAny_pyNext_tuple_item st (show s.heap.IsTuple a its.toArray from p) (x := u) (by simpa using hu) fun h' st' sb => ?_
    have I1 : Inv X pins σ H { s with heap := h' } := I.turned (t' := s.toks) (fun b o hb e => (sb.2 b hb).trans e) f0 f1 f3 f4 f5
    obtain ⟨o, e, c, d⟩ := id st'
    exact ⟨u, rfl, go_of (s := { s with heap := h' }) e c d (by decide) ⟨x, H, I1, ru, ⟨rfl, fun ys hy => by rw [I.tuple_inj hy hq]; exact hx⟩, st', fun b hb => (hf b hb).1⟩⟩
  done := by
    intro X hP hw hK hc i pins s σ H E I hf st hg
    subst hP hw hK
    obtain ⟨xs, hq, hx⟩ := hg
    obtain ⟨its, rv, p, hz⟩ := I.tuple hq
    obtain ⟨f0, f1, f2, f3, f4, f5⟩ := hf it (by simp)
    have hl := rv.length
    exact wpAny_pyNext_tuple_end (I.ok.hd hc) st (show s.heap.IsTuple a its.toArray from p) (by simp; omega) fun h' eb => ⟨rfl, I.turned (t' := s.toks) (fun b o hb e => eb b o hb e) f0 f1 f3 f4 f5⟩
  self := fun _ _ _ _ _ st h => wpAny_pyIter_tupleiter st h
theorem turn_range {P : Program} {w : World} {K : PySem.W.Frag} {tg : Expr} (it : Addr) (lo : Int) (n : Nat) : Turn P w K tg (Itr lo n) [it] it (fun i h => IsRangeIter h it (lo + (i : Nat) * 1) ((n : Int) - (i : Nat)) 1) where
  mem := by simp
  obj := fun i h st b hb => by
    have e : b = it := by simpa using hb
    subst e
    exact ⟨_, st, fun v z => by
      have z' : Data.fields _ = Data.cell v := z
      cases z'⟩
  keep := fun i h h' st k => k it (by simp) _ st
  item := by
    intro X hP hw hK hc i pins s σ H E I hf st hg
    subst hP hw hK
    obtain ⟨f0, f1, f2, f3, f4, f5⟩ := hf it (by simp)
    have W := Walks.range (prog := X.prog) (w := X.w) (I.ok.hd hc) it lo 1 n
    refine W.item i s _ _ hg st fun v h' tk hv st' kk => ?_
    obtain ⟨t, rfl⟩ := hv
    have I1 : Inv X pins σ H { s with heap := h', toks := tk } := I.turned (fun b o hb e => kk b o (by simpa using hb) e) f0 f1 f3 f4 f5
    refine ⟨_, rfl, go_of (s := { s with heap := h', toks := tk }) (n := "range_iterator") st' rfl rfl (by decide) ⟨.int (lo + i), H, I1, ⟨t, ?_⟩, ⟨rfl, rfl⟩, st', fun b hb => (hf b hb).1⟩⟩
    rw [Int.mul_one]
  done := by
    intro X hP hw hK hc i pins s σ H E I hf st hg
    subst hP hw hK
    obtain ⟨f0, f1, f2, f3, f4, f5⟩ := hf it (by simp)
    exact wpAny_pyNext_range_end (I.ok.hd hc) st (by have : n ≤ i := hg; omega) fun h' eb => ⟨rfl, I.turned (t' := s.toks) (fun b o hb e => eb b o hb e) f0 f1 f3 f4 f5⟩
  self := fun _ _ _ _ _ st h => wpAny_pyIter_rangeiter st h
end L2

namespace L2
open PySem PySem.Spec PyProof.Rows
section
variable {X : Cx} {tg : Expr}
def iList (K : PySem.W.Frag) (tl : TE) : TI := fun σ H R => tl σ H fun x H1 => ∃ a, x = .ref a ∧ (∃ xs, SqL K H1 a xs) ∧ R (Itl K a) H1
def iTup (K : PySem.W.Frag) (tl : TE) : TI := fun σ H R => tl σ H fun x H1 => ∃ a, x = .ref a ∧ (∃ xs, SqT K H1 a xs) ∧ R (Itt K a) H1
theorem pi_list {l : Expr} {tl : TE} (hl : PE X l tl) : PI X tg l (iList X.K tl) := by
  intro pins s σ H R I h
  refine thn (hl pins s σ H _ I h) fun v s1 ⟨x, H1, I1, r1, q1⟩ => ?_
  obtain ⟨a, e, ⟨xs, hq⟩, q⟩ := q1
  subst e
  cases r1
  obtain ⟨its, rv, p, hz⟩ := I1.list hq
  refine wpAny_pyIter_list p.isList ?_
  refine ⟨s1.heap.objs.size, [s1.heap.objs.size], _, _, H1, rfl, I1.kept (t' := s1.toks) fun b o e => Heap.get?_push_of_some _ e, turn_list a _, ⟨_, Heap.get?_push_size _ rfl, rfl, rfl⟩, fun b hb => ?_, q⟩
  have e : b = s1.heap.objs.size := by simpa using hb
  subst e
  exact I1.fpOk (Nat.le_refl _) (I1.hok.fresh (Nat.le_refl _))
theorem pi_tup {l : Expr} {tl : TE} (hl : PE X l tl) : PI X tg l (iTup X.K tl) := by
  intro pins s σ H R I h
  refine thn (hl pins s σ H _ I h) fun v s1 ⟨x, H1, I1, r1, q1⟩ => ?_
  obtain ⟨a, e, ⟨xs, hq⟩, q⟩ := q1
  subst e
  cases r1
  obtain ⟨its, rv, p, hz⟩ := I1.tuple hq
  refine wpAny_pyIter_tuple (show s1.heap.IsTuple a its.toArray from p) ?_
  refine ⟨s1.heap.objs.size, [s1.heap.objs.size], _, _, H1, rfl, I1.kept (t' := s1.toks) fun b o e => Heap.get?_push_of_some _ e, turn_tuple a _, ⟨_, Heap.get?_push_size _ rfl, rfl, rfl⟩, fun b hb => ?_, q⟩
  have e : b = s1.heap.objs.size := by simpa using hb
  subst e
  exact I1.fpOk (Nat.le_refl _) (I1.hok.fresh (Nat.le_refl _))
/-- a range object just made, walked -/
theorem range_it {pins : List (Addr × Obj)} {σ : St} {H : Hp} {s : Shared} {R : It → Hp → Prop} {E : Value → Shared → Prop} {lo hi : Int} {t u v : Tok} {tk : Nat} (I : Inv X pins σ H s) (h1 : -(2 ^ 62) ≤ lo) (h2 : lo < 2 ^ 62) (h3 : -(2 ^ 62) ≤ hi) (h4 : hi < 2 ^ 62)
    (q : R (Itr lo (hi - lo).toNat) H) : wpAny (model X.prog X.w) X.A (pyIter (.ref s.heap.objs.size)) (PIE X pins σ tg R) E { s with heap := s.heap.push { cls := .type "range", data := .fields #[.int lo t, .int hi u, .int 1 v] }, toks := tk } := by
  refine wpAny_pyIter_range (IsRange.new ..) (small_one h1 h2 h3 h4) ?_
  have I1 : Inv X pins σ H { s with heap := s.heap.push { cls := .type "range", data := .fields #[.int lo t, .int hi u, .int 1 v] }, toks := tk } := I.kept fun b o e => Heap.get?_push_of_some _ e
  refine ⟨(s.heap.push { cls := .type "range", data := .fields #[.int lo t, .int hi u, .int 1 v] }).objs.size, [(s.heap.push { cls := .type "range", data := .fields #[.int lo t, .int hi u, .int 1 v] }).objs.size], _, _, H, rfl,
    I1.kept (t' := tk) fun b o e => Heap.get?_push_of_some _ e, turn_range _ lo (hi - lo).toNat, ?_, fun b hb => ?_, q⟩
  · have e1 : lo + ((0 : Nat) : Int) * 1 = lo := by simp
    have e2 : (((hi - lo).toNat : Nat) : Int) - ((0 : Nat) : Int) = Builtin.Range.rangeSize lo hi 1 := by rw [rangeSize_one]; split <;> omega
    show IsRangeIter _ _ (lo + ((0 : Nat) : Int) * 1) ((((hi - lo).toNat : Nat) : Int) - ((0 : Nat) : Int)) 1
    rw [e1, e2]
    exact Heap.get?_push_size _ rfl
  · have e : b = (s.heap.push { cls := .type "range", data := .fields #[.int lo t, .int hi u, .int 1 v] }).objs.size := by simpa using hb
    subst e
    exact I1.fpOk (Nat.le_refl _) (I1.hok.fresh (Nat.le_refl _))
def iRng1 (ta : TA) : TI := fun σ H R => ta σ H fun vs H1 => ∃ j : Int, vs = [.int j] ∧ -(2 ^ 62) ≤ j ∧ j < 2 ^ 62 ∧ R (Itr 0 j.toNat) H1
theorem pi_range1 {a : Expr} {ta : TA} {p pos : Pos} (hg : Gl X "range") (hm : X.mg "range" = none) (ha : PA X [a] ta) (hs : starEach [a] X.env = [(false, eval a X.env)] := by rfl) : PI X tg (.Call (.Name "range" p) [a] [] pos) (iRng1 ta) := by
  intro pins s σ H R I h
  refine Call_ (ld_blt I hg hm boot_range (PyProof.Rows.callWith_type1 (thn (ha pos pins s σ H _ I h) fun us s1 ⟨vs, H1, I1, r1, q1⟩ => ?_) hs rfl))
  obtain ⟨j, e, q1, q2, q⟩ := q1
  subst e
  cases r1 with
  | cons r rr =>
    cases rr
    obtain ⟨t, rfl⟩ := r
    exact call_range_1 (range_it I1 (by omega) (by omega) q1 q2 (by simpa using q))

/-! ### for -/
/-- W: the invariant by the turn and a measure; N: what the body is to reach -/
def tFor (wi : TI) (g : TG) (tb : TS) : TS := fun D σ H => wi σ H fun J H1 => ∃ W : Nat → Nat → St → Hp → Prop, (∃ m, W 0 m σ H1) ∧ ∀ i m σ H, W i m σ H →
  (J.stop i H ∧ D.nx σ H) ∨ (J.go i H ∧ ∃ N : St → Hp → Prop, (∀ σ' H', N σ' H' → ∃ m', m' < m ∧ W (i + 1) m' σ' H') ∧ ∀ x H', J.yld i H x H' → g x σ H' fun σ2 H2 => tb { D with nx := N, ct := N, bk := D.nx } σ2 H2)
/-- the records at fp as they stand -/
def pinsAt (fp : List Addr) (h : Heap) : List (Addr × Obj) := fp.filterMap fun b => (h.get? b).map fun o => (b, o)
theorem mem_pinsAt {fp : List Addr} {h : Heap} {b : Addr} {o : Obj} (hb : b ∈ fp) (e : h.get? b = some o) : (b, o) ∈ pinsAt fp h := List.mem_filterMap.mpr ⟨b, hb, by rw [e]; rfl⟩
theorem of_pinsAt {fp : List Addr} {h : Heap} {p : Addr × Obj} (hp : p ∈ pinsAt fp h) : p.1 ∈ fp ∧ h.get? p.1 = some p.2 := by
  obtain ⟨b, hb, e⟩ := List.mem_filterMap.mp hp
  cases q : h.get? b with
  | none => rw [q] at e; cases e
  | some o =>
    rw [q] at e
    have e' : (b, o) = p := Option.some.inj e
    subst e'
    exact ⟨hb, q⟩
theorem Inv.pinned {pins : List (Addr × Obj)} {σ : St} {H : Hp} {s : Shared} {fp : List Addr} (I : Inv X pins σ H s) (hf : ∀ b ∈ fp, FpOk X pins H b) (ho : ∀ b ∈ fp, ∃ o, s.heap.get? b = some o ∧ ∀ v, o.data ≠ .cell v) : Inv X (pins ++ pinsAt fp s.heap) σ H s :=
  I.pins_of fun p hp => (List.mem_append.mp hp).elim (fun z => I.pin p (List.mem_append_right _ z)) fun z => by
    obtain ⟨hb, e⟩ := of_pinsAt z
    obtain ⟨f0, f1, f2, _⟩ := hf p.1 hb
    obtain ⟨o, e', d⟩ := ho p.1 hb
    rw [e] at e'; cases e'
    exact ⟨e, f0, f1, f2, d⟩
theorem Inv.unpinned {pins pl : List (Addr × Obj)} {σ : St} {H : Hp} {s : Shared} (I : Inv X (pins ++ pl) σ H s) : Inv X pins σ H s := I.pins_of fun p hp => I.pin p (List.mem_append_right _ (List.mem_append_left _ hp))
theorem ps_for {iter : Expr} {body : List Stmt} {wi : TI} {g : TG} {tb : TS} {pos : Pos} (hp : PassesOwn (model X.prog X.w) X.A X.env X.xe) (hc : X.calm = true) (hi : PI X tg iter wi) (hg : PG X tg g) (hb : PSs X body tb)
    (hs : ∀ x, foldedSetIterable iter X.env x = pure x := by intro _; rfl) : PS X (.For tg iter body [] pos) (tFor wi g tb) := by
  intro pins s σ H D I h
  refine wpAny_For (thn (hi pins s σ H _ I h) fun v s1 h1 => thn h1 fun itv s2 h2 => ?_) hs
  obtain ⟨it, fp, tn, J, H2, e, I2, T, st2, f2, W, ⟨m0, w0⟩, turn⟩ := h2
  subst e
  -- what stays true of the iterator's objects through the loop
  have stat : ∀ {H' : Hp}, (∀ b ∈ fp, H' b = none) → ∀ b ∈ fp, FpOk X pins H' b := fun hn b hb => ⟨hn b hb, (f2 b hb).2⟩
  refine codeAny_forLoop_any (fun n s' => ∃ i σ' H', Inv X pins σ' H' s' ∧ tn i s'.heap ∧ (∀ b ∈ fp, H' b = none) ∧ W i n σ' H') ?_ m0 ⟨0, σ, H2, I2, st2, fun b hb => (f2 b hb).1, w0⟩
  rintro n s3 ⟨i, σ3, H3, I3, st3, fr3, w3⟩
  rcases turn i n σ3 H3 w3 with ⟨stop, qn⟩ | ⟨go, N, hN, step⟩
  · refine wpAny_passesOwn hp (thn (T.done X rfl rfl rfl hc i pins s3 σ3 H3 X.xe I3 (stat fr3) st3 stop) fun r s4 ⟨hr, I4⟩ => ?_)
    subst hr
    exact wpAny_execs_nil ⟨σ3, H3, I4, qn⟩
  · refine wpAny_passesOwn hp (thn (T.item X rfl rfl rfl hc i pins s3 σ3 H3 X.xe I3 (stat fr3) st3 go) fun r s4 ⟨u, hr, h4⟩ => ?_)
    subst hr
    refine wpAny_passesOwn hp (thn h4 fun _ s5 ⟨x, H5, I5, r5, y5, st5, fr5⟩ => ?_)
    have I5' := I5.pinned (stat fr5) (T.obj _ _ st5)
    refine wpAny_passesOwn hp (thn (hg _ s5 σ3 H5 x u _ I5' r5 (step x H5 y5)) fun _ s6 ⟨σ6, H6, I6, q6⟩ => ?_)
    refine wpAny_passesOwn hp (thn (hb _ s6 σ6 H6 _ I6 q6) fun f s7 q7 => ?_)
    have again : ∀ {σ7 : St} {H7 : Hp}, Inv X (pins ++ pinsAt fp s5.heap) σ7 H7 s7 → N σ7 H7 → ∃ m, m < n ∧ ∃ i σ' H', Inv X pins σ' H' s7 ∧ tn i s7.heap ∧ (∀ b ∈ fp, H' b = none) ∧ W i m σ' H' := fun {σ7 H7} I7 n7 => by
      obtain ⟨m', hm, w7⟩ := hN σ7 H7 n7
      refine ⟨m', hm, i + 1, σ7, H7, I7.unpinned, T.keep _ _ _ st5 fun b hb o e => (I7.pin (b, o) (List.mem_append_right _ (List.mem_append_right _ (mem_pinsAt hb e)))).1, fun b hb => ?_, w7⟩
      obtain ⟨o, e, d⟩ := T.obj _ _ st5 b hb
      exact (I7.pin (b, o) (List.mem_append_right _ (List.mem_append_right _ (mem_pinsAt hb e)))).2.1
    cases f with
    | next => obtain ⟨σ7, H7, I7, n7⟩ := q7; exact again I7 n7
    | cont => obtain ⟨σ7, H7, I7, n7⟩ := q7; exact again I7 n7
    | brk => obtain ⟨σ7, H7, I7, q7⟩ := q7; exact ⟨σ7, H7, I7.unpinned, q7⟩
    | ret v => obtain ⟨x7, σ7, H7, I7, r7, q7⟩ := q7; exact ⟨x7, σ7, H7, I7.unpinned, r7, q7⟩
end

/-! ### the forms one uses -/
/-- over a list that the body leaves as it is -/
theorem for_list {K : PySem.W.Frag} {a : Addr} {xs : List V} {g : TG} {tb : TS} {D : Ends} {σ : St} {H : Hp} (Pv : Nat → St → Hp → Prop) (h0 : Pv 0 σ H) (hl : ∀ i σ H, i ≤ xs.length → Pv i σ H → SqL K H a xs)
    (hs : ∀ i x σ H, xs[i]? = some x → Pv i σ H → g x σ H fun σ2 H2 => tb { D with nx := Pv (i + 1), ct := Pv (i + 1), bk := D.nx } σ2 H2) (hd : ∀ σ H, Pv xs.length σ H → D.nx σ H) :
    ∃ W : Nat → Nat → St → Hp → Prop, (∃ m, W 0 m σ H) ∧ ∀ i m σ H, W i m σ H →
      ((Itl K a).stop i H ∧ D.nx σ H) ∨ ((Itl K a).go i H ∧ ∃ N : St → Hp → Prop, (∀ σ' H', N σ' H' → ∃ m', m' < m ∧ W (i + 1) m' σ' H') ∧ ∀ x H', (Itl K a).yld i H x H' → g x σ H' fun σ2 H2 => tb { D with nx := N, ct := N, bk := D.nx } σ2 H2) := by
  refine ⟨fun i m σ H => m = xs.length - i ∧ i ≤ xs.length ∧ Pv i σ H, ⟨xs.length, by simp, Nat.zero_le _, h0⟩, ?_⟩
  rintro i m σ H ⟨rfl, hi, p⟩
  have q := hl i σ H hi p
  by_cases hlt : i < xs.length
  · refine .inr ⟨⟨xs, xs[i], q, by simp [hlt]⟩, Pv (i + 1), fun σ' H' p' => ⟨xs.length - (i + 1), by omega, rfl, hlt, p'⟩, fun x H' y => ?_⟩
    obtain ⟨e, y⟩ := y
    subst e
    exact hs i x σ _ (y xs q) p
  · have e : i = xs.length := by omega
    subst e
    exact .inl ⟨⟨xs, q, Nat.le_refl _⟩, hd σ H p⟩
end L2

namespace L2
open PySem PySem.Spec PyProof.Rows

abbrev R2 := V → V → Hp → VK → Prop
/-- a two-place operation on values: f is binaryOp op, inplaceOp op or compareOp op -/
def OpR (X : Cx) (f : Value → Value → Sem Value) (r : R2) : Prop :=
  ∀ (pins : List (Addr × Obj)) (s : Shared) (σ : St) (H : Hp) (x y : V) (v u : Value) (Q : VK), Inv X pins σ H s → RelV x v → RelV y u → r x y H Q →
    wpAny (model X.prog X.w) X.A (f v u) (EP X pins σ Q) X.xe s
/-- a one-place operation -/
def UnR (X : Cx) (f : Value → Sem Value) (r : V → Hp → VK → Prop) : Prop :=
  ∀ (pins : List (Addr × Obj)) (s : Shared) (σ : St) (H : Hp) (x : V) (v : Value) (Q : VK), Inv X pins σ H s → RelV x v → r x H Q →
    wpAny (model X.prog X.w) X.A (f v) (EP X pins σ Q) X.xe s
/-- a call of a value that is known (a builtin, a type) with values -/
def CallR (X : Cx) (f : Value) (r : List V → Hp → VK → Prop) : Prop :=
  ∀ (pins : List (Addr × Obj)) (s : Shared) (σ : St) (H : Hp) (xs : List V) (us : List Value) (Q : VK), Inv X pins σ H s → Vals xs us → r xs H Q →
    wpAny (model X.prog X.w) X.A (call f us) (EP X pins σ Q) X.xe s

def tOp (r : R2) (ta tb : TE) : TE := fun σ H Q => ta σ H fun x H1 => tb σ H1 fun y H2 => r x y H2 Q
def tUn (r : V → Hp → VK → Prop) (ta : TE) : TE := fun σ H Q => ta σ H fun x H1 => r x H1 Q
/-- ints in, under C, and a value out -/
def rI (C : Int → Int → Prop) (g : Int → Int → V) : R2 := fun x y H Q => ∃ i j, x = .int i ∧ y = .int j ∧ C i j ∧ Q (g i j) H
def rI0 (g : Int → Int → V) : R2 := fun x y H Q => ∃ i j, x = .int i ∧ y = .int j ∧ Q (g i j) H
def rU (g : Int → V) : V → Hp → VK → Prop := fun x H Q => ∃ i, x = .int i ∧ Q (g i) H

section
variable {X : Cx} {a b c : Expr} {ta tb tc : TE} {pos : Pos}

theorem binT (ha : PE X a ta) (hb : PE X b tb) {pins : List (Addr × Obj)} {s : Shared} {σ : St} {H : Hp} {R : V → V → Hp → Prop} (I : Inv X pins σ H s)
    (h : ta σ H fun x H1 => tb σ H1 fun y H2 => R x y H2) {Q : Value → Shared → Prop} {f : Value → Value → Sem Value}
    (hf : ∀ v u s2 x y H2, Inv X pins σ H2 s2 → RelV x v → RelV y u → R x y H2 → wpAny (model X.prog X.w) X.A (f v u) Q X.xe s2) :
    wpAny (model X.prog X.w) X.A (eval a X.env) (fun v s₁ => wpAny (model X.prog X.w) X.A (eval b X.env) (fun u s₂ => wpAny (model X.prog X.w) X.A (f v u) Q X.xe s₂) X.xe s₁) X.xe s := by
  refine thn (ha pins s σ H _ I h) fun v s1 ⟨x, H1, I1, r1, q1⟩ => ?_
  refine thn (hb pins s1 σ H1 _ I1 q1) fun u s2 ⟨y, H2, I2, r2, q2⟩ => ?_
  exact hf v u s2 x y H2 I2 r1 r2 q2

theorem pe_op {op : Operator} {r : R2} (ho : OpR X (binaryOp op) r) (ha : PE X a ta) (hb : PE X b tb) : PE X (.BinOp a op b pos) (tOp r ta tb) := by
  intro pins s σ H Q I h
  exact wpAny_BinOp (binT ha hb I h fun v u s2 x y H2 I2 rx ry q => ho pins s2 σ H2 x y v u Q I2 rx ry q)
theorem pe_un {op : UnaryOp} {r : V → Hp → VK → Prop} (ho : UnR X (unaryOp op) r) (ha : PE X a ta) : PE X (.UnaryOp op a pos) (tUn r ta) := by
  intro pins s σ H Q I h
  exact UnaryOp_ (thn (ha pins s σ H _ I h) fun v s1 ⟨x, H1, I1, r1, q1⟩ => ho pins s1 σ H1 x v Q I1 r1 q1)

/-! ### ints -/
theorem opI {f : Value → Value → Sem Value} {C : Int → Int → Prop} {g : Int → Int → Int}
    (rule : ∀ (i j : Int) (t u : Tok) (s : Shared) (Q : Value → Shared → Prop) (E : Value → Shared → Prop), C i j → Q (.int (g i j) s.toks) { s with toks := s.toks + 1 } → wpAny (model X.prog X.w) X.A (f (.int i t) (.int j u)) Q E s) :
    OpR X f (rI C fun i j => .int (g i j)) := by
  intro pins s σ H x y v u Q I rx ry h
  obtain ⟨i, j, rfl, rfl, hc, q⟩ := h
  obtain ⟨t, rfl⟩ := rx
  obtain ⟨t', rfl⟩ := ry
  exact rule i j t t' s _ _ hc ⟨.int (g i j), H, I.tok _, ⟨_, rfl⟩, q⟩
theorem opI0 {f : Value → Value → Sem Value} {g : Int → Int → Int}
    (rule : ∀ (i j : Int) (t u : Tok) (s : Shared) (Q : Value → Shared → Prop) (E : Value → Shared → Prop), Q (.int (g i j) s.toks) { s with toks := s.toks + 1 } → wpAny (model X.prog X.w) X.A (f (.int i t) (.int j u)) Q E s) :
    OpR X f (rI0 fun i j => .int (g i j)) := by
  intro pins s σ H x y v u Q I rx ry h
  obtain ⟨i, j, rfl, rfl, q⟩ := h
  obtain ⟨t, rfl⟩ := rx
  obtain ⟨t', rfl⟩ := ry
  exact rule i j t t' s _ _ ⟨.int (g i j), H, I.tok _, ⟨_, rfl⟩, q⟩
theorem opB0 {f : Value → Value → Sem Value} {g : Int → Int → Bool}
    (rule : ∀ (i j : Int) (t u : Tok) (s : Shared) (Q : Value → Shared → Prop) (E : Value → Shared → Prop), Q (.bool (g i j)) s → wpAny (model X.prog X.w) X.A (f (.int i t) (.int j u)) Q E s) :
    OpR X f (rI0 fun i j => .bl (g i j)) := by
  intro pins s σ H x y v u Q I rx ry h
  obtain ⟨i, j, rfl, rfl, q⟩ := h
  obtain ⟨t, rfl⟩ := rx
  obtain ⟨t', rfl⟩ := ry
  exact rule i j t t' s _ _ ⟨.bl (g i j), H, I, rfl, q⟩

def CDiv (i j : Int) : Prop := 0 < j ∧ j < 1073741824
def CMul (i j : Int) : Prop := (-(2 ^ 64) < i ∧ i < 2 ^ 64) ∨ (-(2 ^ 64) < j ∧ j < 2 ^ 64)
theorem CMul.ok {i j : Int} (h : CMul i j) : IntMulOk i j := by
  rcases h with ⟨h1, h2⟩ | ⟨h1, h2⟩
  · exact .of_left (intBits_le_64 h1 h2)
  · exact .of_right (intBits_le_64 h1 h2)

theorem op_add : OpR X (binaryOp .Add) (rI0 fun i j => .int (i + j)) := opI0 fun _ _ _ _ _ _ _ q => add_int q
theorem op_sub : OpR X (binaryOp .Sub) (rI0 fun i j => .int (i - j)) := opI0 fun _ _ _ _ _ _ _ q => sub_int q
theorem op_mul : OpR X (binaryOp .Mult) (rI CMul fun i j => .int (i * j)) := opI fun _ _ _ _ _ _ _ hc q => mul_int q hc.ok
/-- // by a positive divisor -/
theorem op_fdiv : OpR X (binaryOp .FloorDiv) (rI CDiv fun i j => .int (i / j)) := opI fun i j _ _ _ _ _ hc q => by
  have h1 : (0 : Int) < j := hc.1
  have h2 : j < 1073741824 := hc.2
  exact floordiv_int (by omega) (by rw [Int.fdiv_eq_ediv_of_nonneg i (by omega)]; exact q) (.inl (PyProof.noPylong_small (by omega)))
/-- % by a positive divisor of any size -/
theorem op_mod : OpR X (binaryOp .Mod) (rI (fun _ j => 0 < j) fun i j => .int (i % j)) := opI fun i j _ _ _ _ _ hc q => by
  have h1 : (0 : Int) < j := hc
  exact mod_int' (by omega) (by rw [Int.fmod_eq_emod_of_nonneg i (by omega)]; exact q)


theorem unI {f : Value → Sem Value} {g : Int → Int}
    (rule : ∀ (i : Int) (t : Tok) (s : Shared) (Q : Value → Shared → Prop) (E : Value → Shared → Prop), Q (.int (g i) s.toks) { s with toks := s.toks + 1 } → wpAny (model X.prog X.w) X.A (f (.int i t)) Q E s) :
    UnR X f (rU fun i => .int (g i)) := by
  intro pins s σ H x v Q I rx h
  obtain ⟨i, rfl, q⟩ := h
  obtain ⟨t, rfl⟩ := rx
  exact rule i t s _ _ ⟨.int (g i), H, I.tok _, ⟨_, rfl⟩, q⟩
theorem un_neg : UnR X (unaryOp .USub) (rU fun i => .int (-i)) := unI fun _ _ _ _ _ q => neg_int q

/-! ### bools among ints: n += (a < b) -/
end

/-! ### comparisons -/
/-- the scalars that == tells apart as data does -/
def scal : V → V → Bool
  | .non, .non => true | .non, .int _ => true | .int _, .non => true | .non, .bl _ => true | .bl _, .non => true | .non, .str _ => true | .str _, .non => true
  | .int _, .int _ => true | .bl _, .bl _ => true | .str _, .str _ => true | .byt _, .byt _ => true
  | .int _, .str _ => true | .str _, .int _ => true | .bl _, .str _ => true | .str _, .bl _ => true
  | _, _ => false
def rEq : R2 := fun x y H Q => scal x y = true ∧ Q (.bl (decide (x = y))) H
def rNe : R2 := fun x y H Q => scal x y = true ∧ Q (.bl (!decide (x = y))) H

theorem dec_int {i j : Int} : decide (V.int i = V.int j) = (i == j) := by
  rw [Bool.eq_iff_iff]
  simp
theorem dec_bl {i j : Bool} : decide (V.bl i = V.bl j) = (i == j) := by
  rw [Bool.eq_iff_iff]
  simp
theorem dec_str {i j : Str} : decide (V.str i = V.str j) = (i == j) := by
  rw [Bool.eq_iff_iff]
  simp
theorem dec_byt {i j : Array UInt8} : decide (V.byt i = V.byt j) = (i.toList == j.toList) := by
  rw [Bool.eq_iff_iff]
  cases i
  cases j
  simp

section
variable {X : Cx} {a b c : Expr} {ta tb tc : TE} {pos : Pos}
theorem fin_bl {pins : List (Addr × Obj)} {σ : St} {H : Hp} {s : Shared} {Q : VK} {k k' : Bool} (I : Inv X pins σ H s) (q : Q (.bl k) H) (e : k = k') : EP X pins σ Q (.bool k') s := by
  subst e
  exact ⟨.bl k, H, I, rfl, q⟩
theorem op_eq : OpR X (compareOp .Eq) rEq := by
  intro pins s σ H x y v u Q I rx ry h
  obtain ⟨hs, q⟩ := h
  cases x with
  | non =>
    cases rx
    cases y with
    | non => cases ry; exact PySem.EqNone.eq_none_none (fin_bl I q (by simp))
    | bl j => cases ry; exact PySem.EqNone.eq_none_bool (fin_bl I q (by simp))
    | int j => obtain ⟨t', rfl⟩ := ry; exact PySem.EqNone.eq_none_int (fin_bl I q (by simp))
    | str j => obtain ⟨t', rfl⟩ := ry; exact PySem.EqNone.eq_none_str (fin_bl I q (by simp))
    | _ => exact absurd (show false = true from hs) Bool.false_ne_true
  | bl i =>
    cases rx
    cases y with
    | non => cases ry; exact PySem.EqNone.eq_bool_none (fin_bl I q (by simp))
    | bl j => cases ry; exact eq_bool (fin_bl I q dec_bl)
    | str j => obtain ⟨t', rfl⟩ := ry; exact PySem.EqMixed.eq_bool_str (fin_bl I q (by simp))
    | _ => exact absurd (show false = true from hs) Bool.false_ne_true
  | int i =>
    obtain ⟨t, rfl⟩ := rx
    cases y with
    | non => cases ry; exact PySem.EqNone.eq_int_none (fin_bl I q (by simp))
    | int j => obtain ⟨t', rfl⟩ := ry; exact eq_int (fin_bl I q dec_int)
    | str j => obtain ⟨t', rfl⟩ := ry; exact PySem.EqMixed.eq_int_str (fin_bl I q (by simp))
    | _ => exact absurd (show false = true from hs) Bool.false_ne_true
  | str i =>
    obtain ⟨t, rfl⟩ := rx
    cases y with
    | non => cases ry; exact PySem.EqNone.eq_str_none (fin_bl I q (by simp))
    | bl j => cases ry; exact PySem.EqMixed.eq_str_bool (fin_bl I q (by simp))
    | int j => obtain ⟨t', rfl⟩ := ry; exact PySem.EqMixed.eq_str_int (fin_bl I q (by simp))
    | str j => obtain ⟨t', rfl⟩ := ry; exact eq_str (fin_bl I q dec_str)
    | _ => exact absurd (show false = true from hs) Bool.false_ne_true
  | byt i =>
    obtain ⟨t, rfl⟩ := rx
    cases y with
    | byt j => obtain ⟨t', rfl⟩ := ry; exact PySem.W.eq_bytes (fin_bl I q dec_byt)
    | _ => exact absurd (show false = true from hs) Bool.false_ne_true
  | _ => cases y <;> exact absurd (show false = true from hs) Bool.false_ne_true
theorem op_ne : OpR X (compareOp .NotEq) rNe := by
  intro pins s σ H x y v u Q I rx ry h
  obtain ⟨hs, q⟩ := h
  cases x with
  | non =>
    cases rx
    cases y with
    | non => cases ry; exact PySem.EqNone.ne_none_none (fin_bl I q (by simp))
    | bl j => cases ry; exact PySem.EqNone.ne_none_bool (fin_bl I q (by simp))
    | int j => obtain ⟨t', rfl⟩ := ry; exact PySem.EqNone.ne_none_int (fin_bl I q (by simp))
    | str j => obtain ⟨t', rfl⟩ := ry; exact PySem.EqNone.ne_none_str (fin_bl I q (by simp))
    | _ => exact absurd (show false = true from hs) Bool.false_ne_true
  | bl i =>
    cases rx
    cases y with
    | non => cases ry; exact PySem.EqNone.ne_bool_none (fin_bl I q (by simp))
    | bl j => cases ry; exact ne_bool (fin_bl I q (congrArg not dec_bl))
    | str j => obtain ⟨t', rfl⟩ := ry; exact PySem.EqMixed.ne_bool_str (fin_bl I q (by simp))
    | _ => exact absurd (show false = true from hs) Bool.false_ne_true
  | int i =>
    obtain ⟨t, rfl⟩ := rx
    cases y with
    | non => cases ry; exact PySem.EqNone.ne_int_none (fin_bl I q (by simp))
    | int j => obtain ⟨t', rfl⟩ := ry; exact ne_int (fin_bl I q (congrArg not dec_int))
    | str j => obtain ⟨t', rfl⟩ := ry; exact PySem.EqMixed.ne_int_str (fin_bl I q (by simp))
    | _ => exact absurd (show false = true from hs) Bool.false_ne_true
  | str i =>
    obtain ⟨t, rfl⟩ := rx
    cases y with
    | non => cases ry; exact PySem.EqNone.ne_str_none (fin_bl I q (by simp))
    | bl j => cases ry; exact PySem.EqMixed.ne_str_bool (fin_bl I q (by simp))
    | int j => obtain ⟨t', rfl⟩ := ry; exact PySem.EqMixed.ne_str_int (fin_bl I q (by simp))
    | str j => obtain ⟨t', rfl⟩ := ry; exact ne_str (fin_bl I q (congrArg not dec_str))
    | _ => exact absurd (show false = true from hs) Bool.false_ne_true
  | byt i =>
    obtain ⟨t, rfl⟩ := rx
    cases y with
    | byt j => obtain ⟨t', rfl⟩ := ry; exact PySem.W.ne_bytes (fin_bl I q (congrArg not dec_byt))
    | _ => exact absurd (show false = true from hs) Bool.false_ne_true
  | _ => cases y <;> exact absurd (show false = true from hs) Bool.false_ne_true

theorem op_lt : OpR X (compareOp .Lt) (rI0 fun i j => .bl (decide (i < j))) := opB0 fun _ _ _ _ _ _ _ q => lt_int q
theorem op_gt : OpR X (compareOp .Gt) (rI0 fun i j => .bl (decide (j < i))) := opB0 fun _ _ _ _ _ _ _ q => gt_int q

/-- is None, is not None: the right side a value none -/
theorem op_isN : OpR X (compareOp .Is) (fun x y H Q => y = .non ∧ Q (.bl (decide (x = .non))) H) := by
  intro pins s σ H x y v u Q I rx ry h
  obtain ⟨rfl, q⟩ := h
  cases ry
  refine is_none_gen (fin_bl I q ?_)
  cases x <;> first
    | (cases rx; rfl)
    | (obtain ⟨t, rfl⟩ := rx; rfl)



theorem nomark (b : Expr) {op : CmpOp} (h : op ≠ .In := by decide) (h2 : op ≠ .NotIn := by decide) : behindInMarks op b = false := by
  have e1 : (op == CmpOp.In) = false := by cases op <;> first | rfl | exact absurd rfl h
  have e2 : (op == CmpOp.NotIn) = false := by cases op <;> first | rfl | exact absurd rfl h2
  cases b <;> simp [behindInMarks, e1, e2]
/-- a comparison as a value; hm: nomark b, or (for in, not in) by with_unfolding_all rfl -/
theorem pe_cmpR {op : CmpOp} {r : R2} (ho : OpR X (compareOp op) r) (ha : PE X a ta) (hb : PE X b tb) (hm : behindInMarks op b = false) : PE X (.Compare a [op] [b] pos) (tOp r ta tb) := by
  intro pins s σ H Q I h
  exact wpAny_Compare1 (binT ha hb I h fun v u s2 x y H2 I2 rx ry q => ho pins s2 σ H2 x y v u Q I2 rx ry q) hm
/-- a reading of a value as a test -/
def tTest (t : TE) : TT := fun σ H Q => t σ H fun x H' => ∃ k, x = .bl k ∧ Q k H'
theorem pt_cmpR {op : CmpOp} {r : R2} (ho : OpR X (compareOp op) r) (ha : PE X a ta) (hb : PE X b tb) (hm : behindInMarks op b = false) : PT X (.Compare a [op] [b] pos) (tTest (tOp r ta tb)) := by
  intro pins s σ H Q I h
  refine wpAny_isTrue_Compare1 (thn (ha pins s σ H _ I h) fun v s1 ⟨x, H1, I1, r1, q1⟩ => thn (hb pins s1 σ H1 _ I1 q1) fun u s2 ⟨y, H2, I2, r2, q2⟩ =>
    thn (ho pins s2 σ H2 x y v u _ I2 r1 r2 q2) fun c s3 ⟨z, H3, I3, r3, k, e, q3⟩ => ?_) hm
  subst e
  cases r3
  exact wpAny_truthy_bool ⟨H3, I3, q3⟩
/-- a op1 b op2 c -/
def tChain (r r' : R2) (ta tb tc : TE) : TE := fun σ H Q => ta σ H fun x H1 => tb σ H1 fun y H2 => r x y H2 fun z H3 => ∃ k, z = .bl k ∧
  (if k = true then tc σ H3 fun w' H4 => r' y w' H4 Q else Q (.bl false) H3)
theorem pt_chain {op op' : CmpOp} {r r' : R2} (ho : OpR X (compareOp op) r) (ho' : OpR X (compareOp op') r') (ha : PE X a ta) (hb : PE X b tb) (hc : PE X c tc)
    (hm : lastMarks [op, op'] [b, c] = false := by with_unfolding_all rfl) : PT X (.Compare a [op, op'] [b, c] pos) (tTest (tChain r r' ta tb tc)) := by
  intro pins s σ H Q I h
  refine isTrue_chain (thn (ha pins s σ H _ I h) fun v s1 ⟨x, H1, I1, r1, q1⟩ => test_link (thn (hb pins s1 σ H1 _ I1 q1) fun u s2 ⟨y, H2, I2, r2, q2⟩ =>
    thn (ho pins s2 σ H2 x y v u _ I2 r1 r2 q2) fun d s3 ⟨z, H3, I3, r3, k, e, q3⟩ => ?_)) hm
  subst e
  cases r3
  refine wpAny_truthy_bool ?_
  cases k with
  | false =>
    obtain ⟨k', e', q'⟩ := q3
    cases e'
    exact ite_ff ⟨H3, I3, q'⟩
  | true =>
    refine ite_tt (test_last (thn (hc pins s3 σ H3 _ I3 q3) fun w' s4 ⟨z', H4, I4, r4, q4⟩ => thn (ho' pins s4 σ H4 y z' u w' _ I4 r2 r4 q4) fun d' s5 ⟨z2, H5, I5, r5, k2, e2, q5⟩ => ?_))
    subst e2
    cases r5
    exact wpAny_truthy_bool ⟨H5, I5, q5⟩

/-! ### truth -/
theorem line63 : (sizeLine : Nat) < 2 ^ 63 := by rw [sizeLine_eq]; decide

/-! ### strs and bytes -/
theorem op_add_str : OpR X (binaryOp .Add) (fun x y H Q => ∃ i j, x = .str i ∧ y = .str j ∧ i.length + j.length ≤ sizeLine ∧ Q (.str (i ++ j)) H) := by
  intro pins s σ H x y v u Q I rx ry h
  obtain ⟨i, j, rfl, rfl, hz, q⟩ := h
  obtain ⟨t, rfl⟩ := rx
  obtain ⟨t', rfl⟩ := ry
  exact add_str (fun t' tk => ⟨.str (i ++ j), H, I.tok _, ⟨_, rfl⟩, q⟩) hz


/-! ### scalar builtins, by CallR -/
theorem vals1 {x : V} {us : List Value} (r : Vals [x] us) : ∃ u, us = [u] ∧ RelV x u := by
  cases r with
  | cons r1 r2 => cases r2; exact ⟨_, rfl, r1⟩
theorem vals2 {x y : V} {us : List Value} (r : Vals [x, y] us) : ∃ u w', us = [u, w'] ∧ RelV x u ∧ RelV y w' := by
  cases r with
  | cons r1 r2 =>
    cases r2 with
    | cons r3 r4 => cases r4; exact ⟨_, _, rfl, r1, r3⟩
theorem call_min2 (hc : X.calm = true) : CallR X (.builtin "min") (fun xs H Q => ∃ i j, xs = [.int i, .int j] ∧ Q (.int (if j < i then j else i)) H) := by
  intro pins s σ H xs us Q I r h
  obtain ⟨i, j, rfl, q⟩ := h
  obtain ⟨u, w', rfl, ⟨t, rfl⟩, ⟨t', rfl⟩⟩ := vals2 r
  refine min_two_ints (I.ok.hd hc) fun h' tk k => ⟨_, H, I.kept k, ?_, q⟩
  by_cases hj : j < i
  · rw [if_pos hj, if_pos hj]; exact ⟨_, rfl⟩
  · rw [if_neg hj, if_neg hj]; exact ⟨_, rfl⟩
theorem call_int1 : CallR X (.type "int") (fun xs H Q => (∃ i, xs = [.int i] ∧ Q (.int i) H) ∨ ∃ k, xs = [.bl k] ∧ Q (.int (if k then 1 else 0)) H) := by
  intro pins s σ H xs us Q I r h
  rcases h with ⟨i, rfl, q⟩ | ⟨k, rfl, q⟩
  · obtain ⟨u, rfl, t, rfl⟩ := vals1 r
    exact call_int_int ⟨.int i, H, I, ⟨_, rfl⟩, q⟩
  · obtain ⟨u, rfl, r1⟩ := vals1 r
    cases r1
    exact call_int_bool ⟨.int (if k then 1 else 0), H, I.tok _, ⟨_, rfl⟩, q⟩
end
end L2

namespace L2
open PySem PySem.Spec PyProof.Rows

/-! ### an instance, its attributes a map -/
structure ObjM (h : Heap) (x dx C : Addr) (mA : Str → Option Value) : Prop where
  obj : h.get? x = some (PySem.W.instObj C dx)
  ns : h.Ns1 dx mA
  ne : dx ≠ x

theorem lookIn_ns {h : Heap} {dx : Addr} {mA : Str → Option Value} (n : h.Ns1 dx mA) : ∃ od, h.get? dx = some od ∧ ∀ name, PySem.W.lookIn name od = some (mA name) := by
  obtain ⟨o, es, ep, ho, hd, hk, _, hm⟩ := n
  refine ⟨o, ho, fun name => ?_⟩
  have e := hm name
  unfold nsFind findBy at e
  rw [← Array.find?_toList] at e
  unfold PySem.W.lookIn
  rw [hd]
  dsimp only
  split
  · rename_i y q
    rw [q] at e
    exact congrArg some e
  · rename_i q
    rw [q] at e
    have a : es.toList.any (·.refKey) = false := by
      rw [List.any_eq_false]
      intro y hy
      obtain ⟨z, t, hkey⟩ := hk y (Array.mem_toList_iff.mp hy)
      simp [DictEntry.refKey, hkey]
    have a' : ¬ es.toList.any (·.refKey) = true := by rw [a]; exact Bool.false_ne_true
    rw [if_neg a']
    exact congrArg some e

theorem ObjM.look {h : Heap} {x dx C : Addr} {mA : Str → Option Value} (I : ObjM h x dx C mA) : ∃ od, PySem.W.InstAt h x (PySem.W.instObj C dx) C (some od) ∧ ∀ name, PySem.W.lookIn name od = some (mA name) :=
  let ⟨od, ho, hl⟩ := lookIn_ns I.ns
  ⟨od, ⟨I.obj, rfl, rfl, ho⟩, hl⟩

section
variable {prog : Program} {w : World} {A : Around} {E : Value → Shared → Prop} {s : Shared} {K : PySem.W.Frag} {x dx C f : Addr} {mA : Str → Option Value} {name : Str} {v : Value}

theorem get_map {expr : Bool} {Q : Value → Shared → Prop} (X : K.In s.heap) (I : ObjM s.heap x dx C mA) (hg : PySem.W.plainGet K C name = true) (hh : PySem.W.hasDictIn K C = true)
    (ha : PySem.W.findIn K (.ref C) name = some none) (hv : mA name = some v) (hv' : PySem.W.handedIn v = true) (h : Q v { s with toks := s.toks + 1 }) :
    wpAny (model prog w) A (getAttr (.ref x) name expr) Q E s := by
  obtain ⟨od, J, hl⟩ := I.look
  exact PySem.W.get_value X J (PySem.W.plainGet_of hg).1 (PySem.W.findObj_own hh ha rfl (by rw [hl, hv])) hv' h


theorem get_meth {pl : Sem Bool} {Q : Value × List Value → Shared → Prop} (X : K.In s.heap) (I : ObjM s.heap x dx C mA) (hg : PySem.W.plainGet K C name = true)
    (hf : PySem.W.findIn K (.ref C) name = some (some (.ref f))) (ht : PySem.W.isFn K (.ref f) = true) (hv : mA name = none) (h : Q (.ref f, [.ref x]) s) :
    wpAny (model prog w) A (getMethod (.ref x) name pl) Q E s := by
  obtain ⟨od, J, hl⟩ := I.look
  exact PySem.W.method_fn X J (PySem.W.plainGet_of hg).1 (PySem.W.plainGet_of hg).2 hf (beq_iff_eq.mp ht) (by show (PySem.W.lookIn name od).map (·.isSome) = some false; rw [hl, hv]; rfl) h

theorem set_map {ns : List Str} {Q : Unit → Shared → Prop} (X : K.In s.heap) (I : ObjM s.heap x dx C mA)
    (hs : PySem.W.findIn K (.ref C) "__setattr__" = some (some (.builtin "object.__setattr__"))) (hp : PySem.W.plainOver K C = true) (ht : PySem.W.takerIn K C name = some none) (hh : PySem.W.hasDictIn K C = true)
    (hw : PySem.Within mA ns) (hsz : ns.length ≤ sizeLine)
    (h : ∀ h', ObjM h' x dx C (fun y => if y = name then some v else mA y) → Heap.SameBut dx s.heap h' → Q () { s with heap := h', toks := s.toks + 2 }) :
    wpAny (model prog w) A (setAttr (.ref x) name v) Q E s := by
  obtain ⟨od, J, hl⟩ := I.look
  refine PySem.W.set_plain X J hs (PySem.W.osa_open (s := { s with toks := s.toks + 1 }) (r := none) X J hp ht fun b => ?_)
  obtain ⟨cd, hc, hd'⟩ := PySem.W.any_some hh
  have hx : s.heap.get? x = some ⟨.ref C, some dx, .plain, #[]⟩ := I.obj
  refine wpAny_bind (wpAny_pure (wpAny_bind (wpAny_bind (wpAny_loadPart hx (wpAny_bind (PySem.W.Looks.here (s := { s with toks := s.toks + 1 }) (PySem.W.looks_clsIn X hc) ?_))))))
  rw [hd']
  refine wpAny_pure (a := some dx) (wpAny_bind (wpAny_pure (wpAny_bind ?_)))
  refine wpAny_nsSet1 (s := { s with toks := s.toks + 1 }) I.ns fun h' hn2 hs2 => ?_
  obtain ⟨oD, esD, epD, hoD, hdD, hcD⟩ := hn2.count (PySem.Within.cons name v hw)
  refine wpAny_bind (wpAny_lookBehind hoD (by rw [hdD]; exact pastItsLine_dict (Nat.le_trans hcD (by rw [List.length_cons]; omega))) ?_)
  exact wpAny_pure (h _ ⟨(hs2.2 _ (Ne.symm I.ne)).trans I.obj, hn2, I.ne⟩ hs2)

/-- C(..): the dict at the heap's end, the instance behind it; then its __init__ -/
theorem make_map {R : Result → Shared → Prop} {vs : List Value} {kw : List (Str × Value)} (X : K.In s.heap) (hm : PySem.W.makesIn K C = true)
    (hi : PySem.W.findIn K (.ref C) "__init__" = some (some (.ref f))) (hf : PySem.W.typeIn K (.ref f) = some (.type "function"))
    (h : codeAny (model prog w) (A.under (.builtin "type.__call__" ⟨.ref C :: vs, kw⟩)) (.call (.ref f) ⟨.ref (s.heap.objs.size + 1) :: vs, kw⟩) (PySem.W.InitBack (s.heap.objs.size + 1) R)
      { s with heap := (s.heap.push PySem.W.emptyDict).push (PySem.W.instObj C s.heap.objs.size) }) :
    codeAny (model prog w) A (.call (.ref C) ⟨vs, kw⟩) R s := by
  obtain ⟨hh, g, d, t, os⟩ := s
  exact PySem.W.make_core (PySem.W.makes_of X hm) (PySem.W.looks_findIn X hi) (fun self => PySem.W.bind_fn X self hf) (.inl rfl) h
end

/-! ### the attributes as a list of pairs -/
def putF (f : Str) (v : V) : List (Str × V) → List (Str × V)
  | [] => [(f, v)]
  | (g, x) :: r => if g = f then (g, v) :: r else (g, x) :: putF f v r
theorem lookup_putF (f g : Str) (v : V) : ∀ fs : List (Str × V), (putF f v fs).lookup g = if g = f then some v else fs.lookup g
  | [] => by
    show List.lookup g [(f, v)] = _
    by_cases h : g = f
    · have hb : (g == f) = true := beq_iff_eq.mpr h
      simp only [List.lookup, hb, if_pos h]
    · have hb : (g == f) = false := beq_eq_false_iff_ne.mpr h
      simp only [List.lookup, hb, if_neg h]
  | (k, x) :: r => by
    have ih := lookup_putF f g v r
    rw [show putF f v ((k, x) :: r) = (if k = f then (k, v) :: r else (k, x) :: putF f v r) from rfl]
    by_cases hk : k = f
    · rw [if_pos hk]
      by_cases h : g = k
      · have hb : (g == k) = true := beq_iff_eq.mpr h
        simp only [List.lookup, hb, if_pos (h.trans hk)]
      · have hb : (g == k) = false := beq_eq_false_iff_ne.mpr h
        simp only [List.lookup, hb, if_neg (fun e : g = f => h (e.trans hk.symm))]
    · rw [if_neg hk]
      by_cases h : g = k
      · have hb : (g == k) = true := beq_iff_eq.mpr h
        simp only [List.lookup, hb, if_neg (fun e : g = f => hk (h.symm.trans e))]
      · have hb : (g == k) = false := beq_eq_false_iff_ne.mpr h
        simp only [List.lookup, hb]
        exact ih
theorem keys_putF (f : Str) (v : V) : ∀ fs : List (Str × V), f ∈ (putF f v fs).map (·.1) ∧ ∀ g, g ∈ fs.map (·.1) → g ∈ (putF f v fs).map (·.1)
  | [] => ⟨by simp [putF], fun g h => by simp at h⟩
  | (k, x) :: r => by
    obtain ⟨i1, i2⟩ := keys_putF f v r
    rw [show putF f v ((k, x) :: r) = (if k = f then (k, v) :: r else (k, x) :: putF f v r) from rfl]
    by_cases hk : k = f
    · rw [if_pos hk]
      subst hk
      exact ⟨by simp, fun g h => by simpa using h⟩
    · rw [if_neg hk]
      refine ⟨?_, fun g h => ?_⟩
      · rw [List.map_cons]
        exact List.mem_cons_of_mem _ i1
      · rw [List.map_cons] at h ⊢
        rcases List.mem_cons.mp h with e | e
        · exact List.mem_cons.mpr (.inl e)
        · exact List.mem_cons_of_mem _ (i2 g e)
theorem length_putF (f : Str) (v : V) : ∀ fs : List (Str × V), (putF f v fs).length ≤ fs.length + 1
  | [] => by simp [putF]
  | (k, x) :: r => by
    have ih := length_putF f v r
    rw [show putF f v ((k, x) :: r) = (if k = f then (k, v) :: r else (k, x) :: putF f v r) from rfl]
    by_cases hk : k = f
    · rw [if_pos hk, List.length_cons, List.length_cons]; omega
    · rw [if_neg hk, List.length_cons, List.length_cons]; omega

theorem RelO.some_of {v : V} {o : Option Value} (r : RelO (some v) o) : ∃ u, o = some u ∧ RelV v u := by
  cases o with
  | none => exact (show False from r).elim
  | some u => exact ⟨u, rfl, r⟩
theorem RelO.none_of {o : Option Value} (r : RelO none o) : o = none := by
  cases o with
  | none => rfl
  | some u => exact (show False from r).elim
theorem handed_of {v : V} {u : Value} (r : RelV v u) : PySem.W.handedIn u = true := by
  cases v with
  | non => cases (show u = Value.none from r); rfl
  | bl b => cases (show u = Value.bool b from r); rfl
  | int i => obtain ⟨t, e⟩ := (show ∃ t, u = Value.int i t from r); cases e; rfl
  | str x => obtain ⟨t, e⟩ := (show ∃ t, u = Value.str x t from r); cases e; rfl
  | byt b => obtain ⟨t, e⟩ := (show ∃ t, u = Value.bytes b t from r); cases e; rfl
  | flt b => obtain ⟨t, e⟩ := (show ∃ t, u = Value.float b t from r); cases e; rfl
  | ref a => cases (show u = Value.ref a from r); rfl
  | ty n => cases (show u = Value.type n from r); rfl

section
variable {P : Program} {w : World} {H H' : Hp} {h h' : Heap} {a C dx : Addr} {fs fs' : List (Str × V)}
theorem ins_get (hok : HOk P w H h) (e : H a = some (.ins C dx fs)) : ∃ mA, ObjM h a dx C mA ∧ (∀ f, RelO (fs.lookup f) (mA f)) ∧ PySem.Within mA (fs.map (·.1)) ∧ fs.length ≤ 1000 ∧ H dx = some (.own a) := by
  obtain ⟨d, z, ne, ob, mA, n, r, q⟩ := (show ObjOk P w H h a (.ins C dx fs) from hok a _ e)
  exact ⟨mA, ⟨ob, n, ne⟩, r, q, z, d⟩
end

/-! ### what of the text a class must have -/
structure Cls (K : PySem.W.Frag) (C : Addr) : Prop where
  pg : PySem.W.plainGet K C Str.empty = true
  hd : PySem.W.hasDictIn K C = true
  po : PySem.W.plainOver K C = true
  sa : PySem.W.findIn K (.ref C) "__setattr__" = some (some (.builtin "object.__setattr__"))
theorem Cls.get {K : PySem.W.Frag} {C : Addr} (c : Cls K C) (f : Str) : PySem.W.plainGet K C f = true := c.pg
/-- no class of it has the name -/
def NoAttr (K : PySem.W.Frag) (C : Addr) (f : Str) : Prop := PySem.W.findIn K (.ref C) f = some none
theorem NoAttr.taker {K : PySem.W.Frag} {C : Addr} {f : Str} (n : NoAttr K C f) : PySem.W.takerIn K C f = some none := by
  unfold PySem.W.takerIn
  rw [show PySem.W.findIn K (.ref C) f = some none from n]
  rfl
/-- a method: a plain def of the class or of one above it -/
structure Meth (K : PySem.W.Frag) (C : Addr) (m : Str) (f : Addr) : Prop where
  at_ : PySem.W.findIn K (.ref C) m = some (some (.ref f))
  fn : PySem.W.isFn K (.ref f) = true
  kp : PySem.W.keepIn K (.ref f) = true

section
variable {X : Cx} {pins : List (Addr × Obj)} {σ : St} {H : Hp} {s : Shared} {a C dx : Addr} {fs : List (Str × V)} {f : Str} {v : V} {A : Around} {E : Value → Shared → Prop}

theorem getattr_ok {b : Bool} {Q : Value → Shared → Prop} (I : Inv X pins σ H s) (e : H a = some (.ins C dx fs)) (c : Cls X.K C) (n : NoAttr X.K C f) (l : fs.lookup f = some v)
    (h : ∀ u s', Inv X pins σ H s' → RelV v u → Q u s') : wpAny (model X.prog X.w) A (getAttr (.ref a) f b) Q E s := by
  obtain ⟨mA, O, r, _, _, _⟩ := ins_get I.hok e
  obtain ⟨u, hu, ru⟩ := RelO.some_of (v := v) (o := mA f) (by rw [← l]; exact r f)
  exact get_map I.kIn O (c.get f) c.hd n hu (handed_of ru) (h u _ (I.tok _) ru)


theorem getmeth_ok {m : Str} {g : Addr} {pl : Sem Bool} {Q : Value × List Value → Shared → Prop} (I : Inv X pins σ H s) (e : H a = some (.ins C dx fs)) (c : Cls X.K C) (k : Meth X.K C m g) (l : fs.lookup m = none)
    (h : Q (.ref g, [.ref a]) s) : wpAny (model X.prog X.w) A (getMethod (.ref a) m pl) Q E s := by
  obtain ⟨mA, O, r, _, _, _⟩ := ins_get I.hok e
  have hn : mA m = none := RelO.none_of (by rw [← l]; exact r m)
  exact get_meth I.kIn O (c.get m) k.at_ k.fn hn h

theorem setattr_ok {y : V} {u : Value} {Q : Unit → Shared → Prop} (I : Inv X pins σ H s) (e : H a = some (.ins C dx fs)) (c : Cls X.K C) (n : NoAttr X.K C f) (hl : fs.length < 1000) (ry : RelV y u)
    (h : ∀ s', Inv X pins σ (upd H a (.ins C dx (putF f y fs))) s' → Q () s') : wpAny (model X.prog X.w) A (setAttr (.ref a) f u) Q E s := by
  obtain ⟨mA, O, r, wi, _, ho⟩ := ins_get I.hok e
  have hz : (fs.map (·.1)).length ≤ sizeLine := by rw [List.length_map, sizeLine_eq]; omega
  refine set_map I.kIn O c.sa c.po n.taker c.hd wi hz fun h' O' sb => h _ ?_
  have hd : ∃ o, h'.get? dx = some o := let ⟨o, _, _, e', _⟩ := O'.ns; ⟨o, e'⟩
  refine I.write (x := a) (e := dx) (by rw [e]; exact True.intro) (.inr ho) (fun b q hb z => (sb.2 b hb).trans z) hd ?_
  refine ⟨by rw [upd_ne O.ne]; exact ho, ?_, O.ne, O'.obj, _, O'.ns, fun g => ?_, fun g hg => ?_⟩
  · have := length_putF f y fs; omega
  · show RelO ((putF f y fs).lookup g) (if g = f then some u else mA g)
    rw [lookup_putF]
    by_cases q : g = f
    · rw [if_pos q, if_pos q]; exact ry
    · rw [if_neg q, if_neg q]; exact r g
  · by_cases q : g = f
    · rw [q]; exact (keys_putF f y fs).1
    · refine (keys_putF f y fs).2 g (wi g fun z => hg ?_)
      show (if g = f then some u else mA g) = none
      rw [if_neg q]; exact z

/-- a new instance, tracked, without attributes -/
theorem Inv.made (I : Inv X pins σ H s) : Inv X pins σ (upd (upd H s.heap.objs.size (.own (s.heap.objs.size + 1))) (s.heap.objs.size + 1) (.ins C s.heap.objs.size []))
    { s with heap := (s.heap.push PySem.W.emptyDict).push (PySem.W.instObj C s.heap.objs.size) } := by
  have e1 : (s.heap.push PySem.W.emptyDict).get? s.heap.objs.size = some PySem.W.emptyDict := Heap.get?_push_size s.heap rfl
  have e2 : ((s.heap.push PySem.W.emptyDict).push (PySem.W.instObj C s.heap.objs.size)).get? (s.heap.objs.size + 1) = some (PySem.W.instObj C s.heap.objs.size) := by
    have := Heap.get?_push_size (s.heap.push PySem.W.emptyDict) (o := PySem.W.instObj C s.heap.objs.size) rfl
    rwa [Heap.size_push] at this
  have e3 : (s.heap.push PySem.W.emptyDict).Ns s.heap.objs.size (fun _ => none) := ⟨PySem.W.emptyDict, #[], _, e1, rfl, (fun e he => absurd he (by simp)), fun _ => rfl⟩
  have I1 := I.laid (a := s.heap.objs.size) (o := .own (s.heap.objs.size + 1)) (h' := s.heap.push PySem.W.emptyDict) (t' := s.toks) (fun b u q => Heap.get?_push_of_some _ q) (Nat.le_refl _) ⟨_, e1⟩
  refine I1.laid (a := s.heap.objs.size + 1) (o := .ins C s.heap.objs.size []) (t' := s.toks) (fun b u q => Heap.get?_push_of_some _ q) (Nat.le_of_eq (Heap.size_push _ _)) ?_
  have ne : s.heap.objs.size ≠ s.heap.objs.size + 1 := Nat.ne_of_lt (Nat.lt_succ_self _)
  refine ⟨by rw [upd_ne ne, upd_same], Nat.zero_le _, ne, e2, fun _ => none, (Heap.Ns1.of_empty e3).at fun o q => Heap.get?_push_of_some _ q, fun _ => True.intro, fun y hy => absurd rfl hy⟩

/-- e.f where nothing but the object is asked: through attributeBase (super) and the last hold -/
theorem attr_of {prog : Program} {w : World} {env : Env} {e : Expr} {f : Str} {pos : Pos} {s : Shared} {Q : Value → Shared → Prop} (hb : attributeBase e f env (eval e env) = eval e env)
    (h : wpAny (model prog w) A (eval e env) (fun o s₁ => wpAny (model prog w) A (getAttr o f true) Q E s₁) E s) : wpAny (model prog w) A (eval (.Attribute e f pos) env) Q E s :=
  Attribute_any_ h (by rw [arm_eval_Attribute, hb])
end

/-! ### readings and rules -/
/-- e.f, an attribute of the instance -/
def tFld (K : PySem.W.Frag) (ta : TE) (f : Str) : TE := fun σ H Q => ta σ H fun x H1 => ∃ a C dx fs v, x = .ref a ∧ H1 a = some (.ins C dx fs) ∧ Cls K C ∧ NoAttr K C f ∧ fs.lookup f = some v ∧ Q v H1
/-- e.f = value -/
def sFld (K : PySem.W.Frag) (ta tv : TE) (f : Str) : TS := fun D σ H => tv σ H fun y H1 => ta σ H1 fun x H2 => ∃ a C dx fs, x = .ref a ∧ H2 a = some (.ins C dx fs) ∧ Cls K C ∧ NoAttr K C f ∧ fs.length < 1000 ∧
  D.nx σ (upd H2 a (.ins C dx (putF f y fs)))

section
variable {X : Cx} {o e value : Expr} {f : Str} {pos pos' tpos : Pos} {ta tv : TE}
theorem pe_fld (he : PE X e ta) (hb : attributeBase e f X.env (eval e X.env) = eval e X.env) : PE X (.Attribute e f pos) (tFld X.K ta f) := by
  intro pins s σ H Q I h
  refine attr_of hb (thn (he pins s σ H _ I h) fun u s1 ⟨x, H1, I1, rx, a, C, dx, fs, v, ex, ea, c, n, l, q⟩ => ?_)
  subst ex
  obtain rfl : u = Value.ref a := rx
  exact getattr_ok I1 ea c n l fun u' s2 I2 ru => ⟨v, H1, I2, ru, q⟩
theorem ps_fld (ha : PE X o ta) (hv : PE X value tv) (hs : swapsWith value (some (.Attribute o f pos')) pos.line X.env = pure false) : PS X (.Assign [.Attribute o f pos'] value pos) (sFld X.K ta tv f) := by
  intro pins s σ H D I h
  refine plainObj_wpAny_Assign_Attribute (thn (hv pins s σ H _ I h) fun u s1 ⟨y, H1, I1, ry, q⟩ => thn (ha pins s1 σ H1 _ I1 q) fun ov s2 ⟨x, H2, I2, rx, a, C, dx, fs, ex, ea, c, n, l, q2⟩ => ?_) hs
  subst ex
  obtain rfl : ov = Value.ref a := rx
  exact setattr_ok I2 ea c n l ry fun s3 I3 => ⟨σ, _, I3, q2⟩

end

/-! ### isinstance -/
section
variable {X : Cx} {pins : List (Addr × Obj)} {σ : St} {H : Hp} {s : Shared} {A : Around} {E : Value → Shared → Prop} {Q : Value → Shared → Prop} {c : Value} {b : Bool}
/-- the type of a value, as the fragment's deciders take it; for an instance its class -/
inductive TyOf (K : PySem.W.Frag) (H : Hp) : V → Value → Prop where
  | non : TyOf K H .non (.type "NoneType")
  | bl (x : Bool) : TyOf K H (.bl x) (.type "bool")
  | int (i : Int) : TyOf K H (.int i) (.type "int")
  | str (x : Str) : TyOf K H (.str x) (.type "str")
  | flt (x : UInt64) : TyOf K H (.flt x) (.type "float")
  | lst {a : Addr} {xs : List V} (e : H a = some (.lst xs)) : TyOf K H (.ref a) (.type "list")
  | frz {a : Addr} {o : Obj} {xs : List V} (e : H a = some (.frz o (.lst xs))) : TyOf K H (.ref a) (.type "list")
  | tup {a : Addr} {xs : List V} (e : H a = some (.tup xs)) : TyOf K H (.ref a) (.type "tuple")
  | dK {a : Addr} {kvs : List (Key × V)} (e : H a = some (.dK kvs)) : TyOf K H (.ref a) (.type "dict")
  | dT {a : Addr} {kvs : List (List Key × V)} (e : H a = some (.dT kvs)) : TyOf K H (.ref a) (.type "dict")
  | ins {a C dx : Addr} {fs : List (Str × V)} (e : H a = some (.ins C dx fs)) (cl : Cls K C) (ha : PySem.W.findIn K (.ref C) "__class__" = some (some (.builtin "object.__class__")))
      (hn : PySem.W.specialIn K (.builtin "object.__class__") "__get__" = some (some (.builtin "getset_descriptor.__get__"))) (htk : PySem.W.takesIn K (.builtin "object.__class__") = some true)
      (hm : PySem.W.mroIn K C (.type "object") = some true) : TyOf K H (.ref a) (.ref C)
/-- isinstance(x, c) for one class c, a built-in or an own one: kitOne's answer -/
theorem isinst_ok {x : V} {u t : Value} (I : Inv X pins σ H s) (rx : RelV x u) (ty : TyOf X.K H x t) (e : PySem.W.kitOne X.K t c = some b) (h : ∀ tk, Q (.bool b) { s with toks := tk }) :
    wpAny (model X.prog X.w) A (call (.builtin "isinstance") [u, c]) Q E s := by
  cases ty with
  | non => cases (show u = Value.none from rx); exact PySem.W.kia_one PySem.W.kitx_none I.kIn True.intro e (fun z => nomatch z) h
  | bl y => cases (show u = Value.bool y from rx); exact PySem.W.kia_one PySem.W.kitx_bool I.kIn True.intro e (fun z => nomatch z) h
  | int i => obtain ⟨t, q⟩ := (show ∃ t, u = Value.int i t from rx); cases q; exact PySem.W.kia_one PySem.W.kitx_int I.kIn True.intro e (fun z => nomatch z) h
  | str y => obtain ⟨t, q⟩ := (show ∃ t, u = Value.str y t from rx); cases q; exact PySem.W.kia_one PySem.W.kitx_str I.kIn True.intro e (fun z => nomatch z) h
  | flt y => obtain ⟨t, q⟩ := (show ∃ t, u = Value.float y t from rx); cases q; exact PySem.W.kia_one PySem.W.kitx_float I.kIn True.intro e (fun z => nomatch z) h
  | @lst a xs ea =>
    cases (show u = Value.ref a from rx)
    obtain ⟨_, _, n, _, h1⟩ := (show ObjOk X.prog X.w H s.heap a (.lst xs) from I.hok a _ ea)
    exact PySem.W.kia_one PySem.W.kitx_list I.kIn ⟨_, h1, rfl⟩ e (fun z => nomatch z) h
  | @frz a ob xs ea =>
    cases (show u = Value.ref a from rx)
    obtain ⟨_, _, _, n, _, h1⟩ := (show ObjOk X.prog X.w H s.heap a (.frz ob (.lst xs)) from I.hok a _ ea)
    exact PySem.W.kia_one PySem.W.kitx_list I.kIn ⟨_, h1, rfl⟩ e (fun z => nomatch z) h
  | @tup a xs ea =>
    cases (show u = Value.ref a from rx)
    obtain ⟨_, _, _, p⟩ := (show ObjOk X.prog X.w H s.heap a (.tup xs) from I.hok a _ ea)
    obtain ⟨o, h1, h2, _⟩ := p
    exact PySem.W.kia_one PySem.W.kitx_tuple I.kIn ⟨o, h1, h2⟩ e (fun z => nomatch z) h
  | @dK a kvs ea =>
    cases (show u = Value.ref a from rx)
    obtain ⟨_, _, vs, _, p⟩ := (show ObjOk X.prog X.w H s.heap a (.dK kvs) from I.hok a _ ea)
    obtain ⟨o, es, ep, h1, h2, _⟩ := p
    exact PySem.W.kia_one PySem.W.kitx_dict I.kIn ⟨o, h1, h2.1⟩ e (fun z => nomatch z) h
  | @dT a kvs ea =>
    cases (show u = Value.ref a from rx)
    obtain ⟨_, _, xs, _, o, es, ep, h1, h2, _⟩ := (show ObjOk X.prog X.w H s.heap a (.dT kvs) from I.hok a _ ea)
    exact PySem.W.kia_one PySem.W.kitx_dict I.kIn ⟨o, h1, h2.1⟩ e (fun z => nomatch z) h
  | @ins a C dx fs ea cl ha hn htk hm =>
    cases (show u = Value.ref a from rx)
    obtain ⟨mA, O, _⟩ := ins_get I.hok ea
    obtain ⟨od, J, _⟩ := O.look
    exact PySem.W.kia_one (PySem.W.kitx_own (cl.get _) cl.hd ha hn htk hm) I.kIn J e (fun z => nomatch z) h
end
end L2

namespace L2
open PySem PySem.Spec PyProof.Rows

/-! ### room -/
structure Room (k : Nat) (A : Around) : Prop where
  hd : A.handled = none
  dp : A.depth + 3 * k + 5 < recursionLimit
  un : A.units + 16 * k + 200 < cLine
theorem Room.mono {j k : Nat} {A : Around} (r : Room k A) (h : j ≤ k) : Room j A := ⟨r.hd, by have := r.dp; omega, by have := r.un; omega⟩
theorem Room.deeper {k : Nat} {A : Around} (r : Room (k + 1) A) (env : Env) : Room k (A.deeper env) :=
  ⟨r.hd, by have := r.dp; show A.depth + 1 + 3 * k + 5 < _; omega, by have := r.un; show A.units + 3 + 16 * k + 200 < _; omega⟩
theorem make_depth {A : Around} {C : Addr} {us : List Value} {kw : List (Str × Value)} : (A.under (.builtin "type.__call__" ⟨.ref C :: us, kw⟩)).depth = A.depth + 1 := by
  first | rfl | simp [Around.under, Code.weight, Code.isCreation, Code.isGuard, Code.isCaller, Code.frames, Code.isFrame, guardIds]
theorem make_units {A : Around} {C : Addr} {us : List Value} {kw : List (Str × Value)} : (A.under (.builtin "type.__call__" ⟨.ref C :: us, kw⟩)).units = A.units + 1 := by
  first | rfl | simp [Around.under, Code.cUnits, Code.frames, Code.isFrame]
theorem Room.make {k : Nat} {A : Around} (r : Room (k + 1) A) (C : Addr) (us : List Value) (kw : List (Str × Value)) : Room k (A.under (.builtin "type.__call__" ⟨.ref C :: us, kw⟩)) :=
  ⟨r.hd, by have := r.dp; rw [make_depth]; omega, by have := r.un; rw [make_units]; omega⟩
theorem Room.depth {k : Nat} {A : Around} (r : Room k A) : A.depth < recursionLimit := by have := r.dp; omega

/-! ### argument lists and displays -/
def tNil : TA := fun _ H Q => Q [] H
def tCons (ta : TE) (tr : TA) : TA := fun σ H Q => ta σ H fun x H1 => tr σ H1 fun xs H2 => Q (x :: xs) H2
section
variable {X : Cx} {e : Expr} {es : List Expr} {te : TE} {t : TA} {pos : Pos}
theorem pa_nil : PA X [] tNil := fun _ _ _ _ H Q I h => Calls.spliced_nil ⟨[], H, I, .nil, h⟩
theorem pa_cons (ha : PE X e te) (hr : PA X es t) (hs : starEach (e :: es) X.env = (false, eval e X.env) :: starEach es X.env := by rfl) : PA X (e :: es) (tCons te t) := by
  intro pos pins s σ H Q I h
  rw [hs]
  show wpAny _ _ (spliced ((false, eval e X.env) :: backTo pos (starEach es X.env))) _ _ s
  refine Calls.spliced_cons (thn (ha pins s σ H _ I h) fun u s1 ⟨x, H1, I1, r1, q1⟩ => ?_)
  exact thn (hr pos pins s1 σ H1 _ I1 q1) fun us s2 ⟨xs, H2, I2, r2, q2⟩ => ⟨x :: xs, H2, I2, .cons r1 r2, q2⟩

/-- a tuple, a list of written items -/
def tTup (t : TA) : TE := fun σ H Q => t σ H fun xs H1 => xs.length ≤ sizeLine ∧ ∀ p, H1 p = none → Q (.ref p) (upd H1 p (.tup xs))
def tLst (t : TA) : TE := fun σ H Q => t σ H fun xs H1 => xs.length ≤ sizeLine ∧ ∀ p, H1 p = none → Q (.ref p) (upd H1 p (.lst xs))
theorem pe_tup {x1} (h : PA X es t) : PE X (.Tuple es x1 pos) (tTup t) := by
  intro pins s σ H Q I hq
  refine wpAny_Tuple_spliced (thn (h pos pins s σ H _ I hq) fun us s1 ⟨xs, H1, I1, r, z, q⟩ => ⟨by rw [← r.length]; exact z, ?_⟩)
  have hf : H1 s1.heap.objs.size = none := I1.hok.fresh (Nat.le_refl _)
  refine ⟨.ref s1.heap.objs.size, upd H1 s1.heap.objs.size (.tup xs), I1.laid (t' := s1.toks) (fun b u e => Heap.get?_push_of_some _ e) (Nat.le_refl _) ?_, rfl, q _ hf⟩
  exact ⟨z, us, r, ⟨_, Heap.get?_push_size _ rfl, rfl, _, rfl⟩⟩
theorem pe_lst (h : PA X es t) : PE X (.List es pos) (tLst t) := by
  intro pins s σ H Q I hq
  refine wpAny_List_spliced (thn (h pos pins s σ H _ I hq) fun us s1 ⟨xs, H1, I1, r, z, q⟩ => ⟨by rw [← r.length]; exact z, ?_⟩)
  have hf : H1 s1.heap.objs.size = none := I1.hok.fresh (Nat.le_refl _)
  refine ⟨.ref s1.heap.objs.size, upd H1 s1.heap.objs.size (.lst xs), I1.laid (t' := s1.toks) (fun b u e => Heap.get?_push_of_some _ e) (Nat.le_refl _) ?_, rfl, q _ hf⟩
  exact ⟨z, us, 0, r, Heap.get?_push_size _ rfl⟩
end

/-! ### what a def promises -/
/-- a def's promise: the bound arguments in the parameters' order, the heap, the wanted end, the wanted exception -/
abbrev Sp := List V → Hp → VK → XK → Prop
/-- how an exception lies behind a call (file 08 gives it): the callers' frames, abstract heap and state ahead of the call, the wish, the exception, the state -/
abbrev CXT := List Env → Hp → Shared → XK → Value → Shared → Prop

/-- the state at a call -/
structure Env0 (P : Program) (w : World) (K : PySem.W.Frag) (mg : Str → Option Value) (base : Heap) (A : Around) (outer : List Env) (s : Shared) (H : Hp) : Prop where
  frames : A.frames = some outer
  mod : Mod K mg base
  bs : ∀ b o, base.get? b = some o → s.heap.get? b = some o ∧ H b = none
  bsz : base.objs.size ≤ s.heap.objs.size
  funs : s.heap.FunFrames base outer
  frf : ∀ b ∈ frs outer, H b = none
  hok : HOk P w H s.heap
  bare : AllBare s.gens
/-- a call's end -/
def CE (outer : List Env) (P : Program) (w : World) (H : Hp) (s : Shared) (Q : VK) (u : Value) (s' : Shared) : Prop :=
  ∃ v H', s'.os = s.os ∧ AllBare s'.gens ∧ Un (frs outer) [] H H' s.heap s'.heap ∧ HOk P w H' s'.heap ∧ RelV v u ∧ Q v H'
def CR (CX : CXT) (outer : List Env) (P : Program) (w : World) (H : Hp) (s : Shared) (Q : VK) (E : XK) (r : Result) (s' : Shared) : Prop :=
  match r with
  | .ok (.ret u) => CE outer P w H s Q u s'
  | .ok _ => False
  | .error e => CX outer H s E e s'
structure FnOk (P : Program) (w : World) (K : PySem.W.Frag) (mg : Str → Option Value) (base : Heap) (CX : CXT) (k : Nat) (f : Addr) (fd : FuncData) (ps : List Str) (sp : Sp) : Prop where
  len : ∀ vs H Q E, sp vs H Q E → vs.length = ps.length
  run : ∀ (A : Around) (outer : List Env) (s : Shared) (H : Hp) (args : Args) (us : List Value) (vs : List V) (Q : VK) (E : XK), Room k A → Env0 P w K mg base A outer s H → BindsTo s fd args (ps.zip us) → Vals vs us → sp vs H Q E →
    codeAny (model P w) A (.call (.ref f) args) (CR CX outer P w H s Q E) s
theorem FnOk.mono {P : Program} {w : World} {K : PySem.W.Frag} {mg : Str → Option Value} {base : Heap} {CX : CXT} {j k : Nat} {f : Addr} {fd : FuncData} {ps : List Str} {sp : Sp} (F : FnOk P w K mg base CX j f fd ps sp) (h : j ≤ k) :
    FnOk P w K mg base CX k f fd ps sp := ⟨F.len, fun A outer s H args us vs Q E hr => F.run A outer s H args us vs Q E (hr.mono h)⟩

theorem Env0.make {P : Program} {w : World} {K : PySem.W.Frag} {mg : Str → Option Value} {base : Heap} {A : Around} {outer : List Env} {s : Shared} {H : Hp} (e : Env0 P w K mg base A outer s H) (C : Addr) (us : List Value) (kw : List (Str × Value)) :
    Env0 P w K mg base (A.under (.builtin "type.__call__" ⟨.ref C :: us, kw⟩)) outer s H := ⟨by first | exact e.frames | (simpa [Around.under, Code.envs, Code.isFrame, pushEnvs] using e.frames), e.mod, e.bs, e.bsz, e.funs, e.frf, e.hok, e.bare⟩

section
variable {X : Cx} {pins : List (Addr × Obj)} {σ : St} {H : Hp} {s s' : Shared}
/-- from a body: what a callee wants -/
theorem Inv.env0 (I : Inv X pins σ H s) : Env0 X.prog X.w X.K X.mg X.base X.A X.stack s H :=
  ⟨I.ok.frames, I.ok.mod, I.bs, Nat.le_trans I.ok.bsz I.sz, I.stack, I.stkFree, I.hok, I.bare⟩
/-- behind a call -/
theorem Inv.after {Q : VK} {u : Value} (I : Inv X pins σ H s) (h : CE X.stack X.prog X.w H s Q u s') : EP X pins σ Q u s' := by
  obtain ⟨v, H', os, bare, un, hok, r, q⟩ := h
  obtain ⟨hh, g, d, t, os'⟩ := s'
  obtain rfl : os' = s.os := os
  exact ⟨v, H', I.call (h' := hh) (g' := g) (d' := d) (t' := t) (ch := []) un hok bare (fun b z => absurd z (by simp)), r, q⟩
end

/-! ### calls -/
/-- f(..): the written arguments, then the defaults dvs; E: what is wanted of an exception -/
def tCall (sp : Sp) (dvs : List V) (E : XK) (t : TA) : TE := fun σ H Q => t σ H fun vs H1 => sp (vs ++ dvs) H1 Q E
/-- o.m(..) of an instance of the class at C -/
def tMeth (C : Addr) (m : Str) (sp : Sp) (dvs : List V) (E : XK) (ta : TE) (t : TA) : TE := fun σ H Q => ta σ H fun x H1 => ∃ a dx fs, x = .ref a ∧ H1 a = some (.ins C dx fs) ∧ fs.lookup m = none ∧
  t σ H1 fun vs H2 => sp (x :: (vs ++ dvs)) H2 Q E
/-- C(..): a new instance and its dict, then __init__ -/
def tMake (C : Addr) (sp : Sp) (dvs : List V) (E : XK) (t : TA) : TE := fun σ H Q => t σ H fun vs H1 => ∀ x dx, H1 x = none → H1 dx = none → dx ≠ x →
  sp (.ref x :: (vs ++ dvs)) (upd (upd H1 dx (.own x)) x (.ins C dx [])) (fun v H2 => v = .non ∧ Q (.ref x) H2) E

/-- how the parameters are bound: us the positional arguments, kw the keywords' values by name, ds the defaults that fill up -/
def Binds (K : PySem.W.Frag) (fd : FuncData) (ps : List Str) (ds : List Value) : Prop :=
  ∀ (s : Shared) (us : List Value), K.In s.heap → (us ++ ds).length = ps.length → BindsTo s fd ⟨us, []⟩ (ps.zip (us ++ ds))
/-- every parameter is given -/
theorem Binds.all {K : PySem.W.Frag} {fd : FuncData} {ps : List Str} (h : ∀ us : List Value, us.length = ps.length → bindArgs fd ⟨us, []⟩ = pure (ps.zip us)) : Binds K fd ps [] := fun s us _ hl => by
  rw [List.append_nil] at hl ⊢
  exact .of_eq (h us hl)

/-- an exception of a callee reaches what this body wants of exceptions -/
def Passes (CX : CXT) (X : Cx) (E : XK) : Prop := ∀ (pins : List (Addr × Obj)) (σ : St) (H : Hp) (s : Shared) (e : Value) (s' : Shared), Inv X pins σ H s → CX X.stack H s E e s' → X.xe e s'

section
variable {X : Cx} {CX : CXT} {k : Nat} {f C : Addr} {fd : FuncData} {ps : List Str} {sp : Sp} {dvs : List V} {ds : List Value} {E : XK} {x m : Str} {p pos apos : Pos} {e o : Expr} {es : List Expr} {ta : TE} {t : TA}

/-- the callee runs -/
theorem run_fn {pins : List (Addr × Obj)} {σ : St} {H : Hp} {s : Shared} {Q : VK} {us : List Value} {vs : List V} (F : FnOk X.prog X.w X.K X.mg X.base CX k f fd ps sp) (hr : Room k X.A) (hb : Binds X.K fd ps ds) (hd : Vals dvs ds) (hx : Passes CX X E)
    (I : Inv X pins σ H s) (r : Vals vs us) (h : sp (vs ++ dvs) H Q E) : wpAny (model X.prog X.w) X.A (call (.ref f) us) (EP X pins σ Q) X.xe s := by
  have r2 : Vals (vs ++ dvs) (us ++ ds) := r.append hd
  have hl : (us ++ ds).length = ps.length := by rw [← r2.length]; exact F.len _ _ _ _ h
  refine wpAny_call (codeAny_mono (F.run X.A X.stack s H ⟨us, []⟩ (us ++ ds) (vs ++ dvs) Q E hr I.env0 (hb s us I.kIn hl) r2 h) fun r s' hq => ?_)
  cases r with
  | error e => exact hx pins σ H s e s' I hq
  | ok fl =>
    cases fl with
    | ret u => exact I.after hq
    | next => exact False.elim hq
    | brk => exact False.elim hq
    | cont => exact False.elim hq

theorem pe_call (F : FnOk X.prog X.w X.K X.mg X.base CX k f fd ps sp) (hr : Room k X.A) (hg : Gl X x) (hm : X.mg x = some (.ref f)) (hk : PySem.W.keepIn X.K (.ref f) = true) (hb : Binds X.K fd ps ds) (hd : Vals dvs ds) (hx : Passes CX X E)
    (ha : PA X (e :: es) t) (hdb : (x == ("__debug__" : Str)) = false := by decide) (he : starEach (e :: es) X.env = (false, eval e X.env) :: starEach es X.env := by rfl) (hpl : (backTo pos (starEach es X.env)).any (·.1) = false := by rfl) :
    PE X (.Call (.Name x p) (e :: es) [] pos) (tCall sp dvs E t) := by
  intro pins s σ H Q I h
  refine wpAny_Call_Name_kw (ld_glob I hg hm ?_ hdb)
  refine PySem.W.callWith_K (h₀ := X.base) I.ok.mod.kin hk (thn (ha pos pins s σ H _ I h) fun us s1 ⟨vs, H1, I1, r, q⟩ => ⟨I1.kIn, ?_⟩) he hpl
  exact run_fn F hr hb hd hx I1 r q

/-- o.m(e, ..) -/
theorem pe_meth {pl : Sem Bool} (he : PE X o ta) (c : Cls X.K C) (hm : Meth X.K C m f) (F : FnOk X.prog X.w X.K X.mg X.base CX k f fd ps sp) (hr : Room k X.A) (hb : Binds X.K fd ps ds) (hd : Vals dvs ds) (hx : Passes CX X E) (ha : PA X (e :: es) t)
    (hst : starEach (e :: es) X.env = (false, eval e X.env) :: starEach es X.env := by rfl) (hpl : (backTo pos (starEach es X.env)).any (·.1) = false := by rfl)
    (ht : eval (.Call (.Attribute o m apos) (e :: es) [] pos) X.env = (do
      let ov ← eval o X.env
      standAt apos.atName
      let (f, first) ← holding [ov] (getMethod ov m pl)
      callWith pos f first (backTo pos (starEach (e :: es) X.env)) (backToKw pos (keywordEach [] X.env))) := by rfl) :
    PE X (.Call (.Attribute o m apos) (e :: es) [] pos) (tMeth C m sp dvs E ta t) := by
  intro pins s σ H Q I h
  refine PySem.W.methodCall_KW (pl := pl) (thn (he pins s σ H _ I h) fun u s1 ⟨x, H1, I1, rx, a, dx, fs, ex, ea, l, q⟩ => ?_) ht
  subst ex
  obtain rfl : u = Value.ref a := rx
  refine getmeth_ok I1 ea c hm l ?_
  refine PySem.W.callWith_K (first := [.ref a]) (h₀ := X.base) I.ok.mod.kin hm.kp (thn (ha pos pins s1 σ H1 _ I1 q) fun us s2 ⟨vs, H2, I2, r, q2⟩ => ⟨I2.kIn, ?_⟩) hst hpl
  exact run_fn (us := .ref a :: us) (vs := .ref a :: vs) F hr hb hd hx I2 (.cons rfl r) q2
/-- o.m() -/
theorem pe_meth0 {pl : Sem Bool} (he : PE X o ta) (c : Cls X.K C) (hm : Meth X.K C m f) (F : FnOk X.prog X.w X.K X.mg X.base CX k f fd ps sp) (hr : Room k X.A) (hb : Binds X.K fd ps ds) (hd : Vals dvs ds) (hx : Passes CX X E)
    (ht : eval (.Call (.Attribute o m apos) [] [] pos) X.env = (do
      let ov ← eval o X.env
      standAt apos.atName
      let (f, first) ← holding [ov] (getMethod ov m pl)
      callWith pos f first (backTo pos (starEach [] X.env)) (backToKw pos (keywordEach [] X.env))) := by rfl) :
    PE X (.Call (.Attribute o m apos) [] [] pos) (tMeth C m sp dvs E ta tNil) := by
  intro pins s σ H Q I h
  refine PySem.W.methodCall_KW (pl := pl) (thn (he pins s σ H _ I h) fun u s1 ⟨x, H1, I1, rx, a, dx, fs, ex, ea, l, q⟩ => ?_) ht
  subst ex
  obtain rfl : u = Value.ref a := rx
  refine getmeth_ok I1 ea c hm l ?_
  exact PySem.W.callWith_K0 (first := [.ref a]) I1.kIn hm.kp (run_fn (us := [.ref a]) (vs := [.ref a]) F hr hb hd hx I1 (.cons rfl .nil) q)

/-- what a class must have to be made -/
structure Mk (K : PySem.W.Frag) (C f : Addr) : Prop where
  makes : PySem.W.makesIn K C = true
  init : PySem.W.findIn K (.ref C) "__init__" = some (some (.ref f))
  fn : PySem.W.isFn K (.ref f) = true
  kp : PySem.W.keepIn K (.ref C) = true

theorem run_make {pins : List (Addr × Obj)} {σ : St} {H : Hp} {s : Shared} {Q : VK} {us : List Value} {vs : List V} (M : Mk X.K C f) (F : FnOk X.prog X.w X.K X.mg X.base CX k f fd ps sp) (hr : Room (k + 1) X.A) (hb : Binds X.K fd ps ds) (hd : Vals dvs ds)
    (hx : Passes CX X E) (I : Inv X pins σ H s) (r : Vals vs us)
    (h : ∀ x dx, H x = none → H dx = none → dx ≠ x → sp (.ref x :: (vs ++ dvs)) (upd (upd H dx (.own x)) x (.ins C dx [])) (fun v H2 => v = .non ∧ Q (.ref x) H2) E) :
    wpAny (model X.prog X.w) X.A (call (.ref C) us) (EP X pins σ Q) X.xe s := by
  have hq := h (s.heap.objs.size + 1) s.heap.objs.size (I.hok.fresh (Nat.le_succ _)) (I.hok.fresh (Nat.le_refl _)) (Nat.ne_of_lt (Nat.lt_succ_self _))
  have I2 := Inv.made (C := C) I
  have r2 : Vals (V.ref (s.heap.objs.size + 1) :: (vs ++ dvs)) (Value.ref (s.heap.objs.size + 1) :: (us ++ ds)) := .cons rfl (r.append hd)
  have hl : (Value.ref (s.heap.objs.size + 1) :: us ++ ds).length = ps.length := by
    have e := r2.length
    rw [F.len _ _ _ _ hq] at e
    exact e.symm
  refine wpAny_call (make_map (f := f) I.kIn M.makes M.init (beq_iff_eq.mp M.fn) (codeAny_mono (F.run _ X.stack _ _ ⟨Value.ref (s.heap.objs.size + 1) :: us, []⟩ (Value.ref (s.heap.objs.size + 1) :: (us ++ ds)) _ _ E (hr.make C us [])
    (I2.env0.make C us []) (hb _ (Value.ref (s.heap.objs.size + 1) :: us) I2.kIn hl) r2 hq) fun r s' hq' => ?_))
  cases r with
  | error e => exact hx pins σ _ _ e s' I2 hq'
  | ok fl =>
    cases fl with
    | ret u =>
      obtain ⟨v, H', I3, rv, ev, q3⟩ := I2.after hq'
      subst ev
      exact ⟨rv, ⟨V.ref (s.heap.objs.size + 1), H', I3, rfl, q3⟩⟩
    | next => exact False.elim hq'
    | brk => exact False.elim hq'
    | cont => exact False.elim hq'
theorem pe_make0 (M : Mk X.K C f) (F : FnOk X.prog X.w X.K X.mg X.base CX k f fd ps sp) (hr : Room (k + 1) X.A) (hg : Gl X x) (hm : X.mg x = some (.ref C)) (hb : Binds X.K fd ps ds) (hd : Vals dvs ds) (hx : Passes CX X E)
    (hdb : (x == ("__debug__" : Str)) = false := by decide) : PE X (.Call (.Name x p) [] [] pos) (tMake C sp dvs E tNil) := by
  intro pins s σ H Q I h
  refine wpAny_Call_Name_kw (ld_glob I hg hm ?_ hdb)
  exact PySem.W.callWith_K0 I.kIn M.kp (run_make (us := []) M F hr hb hd hx I .nil h)
end

/-! ### keywords -/
section
variable {X : Cx} {CX : CXT} {k : Nat} {f C : Addr} {fd : FuncData} {ps ks : List Str} {sp : Sp} {E : XK} {x m : Str} {p pos apos kpos : Pos} {e o : Expr} {es : List Expr} {kws : List Keyword} {te ta : TE} {t tk : TA} {nm : Option Str}

variable {g : List Value → List Value → List Value} {gV : List V → List V → List V}
end

/-! ### a def's body keeps its promise -/
/-- names: the parameters first -/
structure FnScope (N P : List Str) (sc : Scope) : Prop where
  kind : sc.kind = .function
  co : sc.isCoroutine = false
  gen : sc.isGenerator = false
  nd : N.Nodup
  pre : N.take P.length = P
  par : ∀ x ∈ P, sc.names.lookup x = some .local ∨ sc.names.lookup x = some .cell
  nofree : ∀ y ∈ sc.names, y.2 ≠ .free

theorem bindL_out {kindOf : Str → Option NameKind} {x : Str} : ∀ {binds : List (Str × Value)} {m : Str → Option Value}, (∀ v, (x, v) ∉ binds) → bindL kindOf binds m x = m x
  | [], _, _ => rfl
  | (n, v) :: r, m, h => by
    unfold bindL
    rw [bindL_out fun w hw => h w (List.mem_cons_of_mem _ hw)]
    split
    · have : x ≠ n := by rintro rfl; exact h v List.mem_cons_self
      simp [this]
    · rfl
theorem bindC_out {kindOf : Str → Option NameKind} {x : Str} : ∀ {binds : List (Str × Value)} {m : Str → Option Value}, (∀ v, (x, v) ∉ binds) → bindC kindOf binds m x = m x
  | [], _, _ => rfl
  | (n, v) :: r, m, h => by
    unfold bindC
    rw [bindC_out fun w hw => h w (List.mem_cons_of_mem _ hw)]
    split
    · rfl
    · have : x ≠ n := by rintro rfl; exact h v List.mem_cons_self
      simp [this]
theorem bindL_get {kindOf : Str → Option NameKind} {x : Str} {v : Value} : ∀ {P : List Str} {vs : List Value} {i : Nat} {m : Str → Option Value}, P.Nodup → P[i]? = some x → vs[i]? = some v → kindOf x = some .local →
    bindL kindOf (P.zip vs) m x = some v
  | [], _, _, _, _, h, _, _ => by simp at h
  | _ :: _, [], _, _, _, _, h, _ => by simp at h
  | p :: P, w :: vs, 0, m, nd, h1, h2, hk => by
    simp at h1 h2; subst h1; subst h2
    show bindL kindOf ((p, w) :: P.zip vs) m p = _
    unfold bindL
    rw [bindL_out fun v hv => (List.nodup_cons.mp nd).1 (List.of_mem_zip hv).1, if_pos hk]
    simp
  | p :: P, w :: vs, i + 1, m, nd, h1, h2, hk => by
    show bindL kindOf ((p, w) :: P.zip vs) m x = _
    unfold bindL
    exact bindL_get (i := i) (List.nodup_cons.mp nd).2 (by simpa using h1) (by simpa using h2) hk
theorem bindC_get {kindOf : Str → Option NameKind} {x : Str} {v : Value} : ∀ {P : List Str} {vs : List Value} {i : Nat} {m : Str → Option Value}, P.Nodup → P[i]? = some x → vs[i]? = some v → kindOf x ≠ some .local →
    bindC kindOf (P.zip vs) m x = some v
  | [], _, _, _, _, h, _, _ => by simp at h
  | _ :: _, [], _, _, _, _, h, _ => by simp at h
  | p :: P, w :: vs, 0, m, nd, h1, h2, hk => by
    simp at h1 h2; subst h1; subst h2
    show bindC kindOf ((p, w) :: P.zip vs) m p = _
    unfold bindC
    rw [bindC_out fun v hv => (List.nodup_cons.mp nd).1 (List.of_mem_zip hv).1, if_neg hk]
    simp
  | p :: P, w :: vs, i + 1, m, nd, h1, h2, hk => by
    show bindC kindOf ((p, w) :: P.zip vs) m x = _
    unfold bindC
    exact bindC_get (i := i) (List.nodup_cons.mp nd).2 (by simpa using h1) (by simpa using h2) hk

/-- the names' values at the entry -/
def start (N : List Str) (vs : List V) : St := vs.map some ++ List.replicate (N.length - vs.length) none

/-- the context of a def's body, at its entry; an exception leaves the frame, then lies as CX says -/
def cxOf (CX : CXT) (P : Program) (w : World) (K : PySem.W.Frag) (mg : Str → Option Value) (base : Heap) (N : List Str) (qual : Str) (scope : Scope) (f : Addr) (cd : Value) (A : Around) (outer : List Env) (s : Shared) (H : Hp) (E : XK) : Cx where
  prog := P
  w := w
  K := K
  mg := mg
  base := base
  A := A.deeper (envOfC qual scope s.heap.objs.size f cd)
  N := N
  s₀ := s
  H₀ := H
  env := envOfC qual scope s.heap.objs.size f cd
  outer := outer
  stack := envOfC qual scope s.heap.objs.size f cd :: outer
  ex := []
  calm := true
  fn := fun _ => true
  pn := []
  xe := fun e s' => wpAny (model P w) (A.deeper (envOfC qual scope s.heap.objs.size f cd)) (leaving (envOfC qual scope s.heap.objs.size f cd) e) (fun _ s'' => CX outer H s E e s'') (fun e' s'' => CX outer H s E e' s'') s'

theorem cell_has {sc : Scope} {n : Nat} {x : Str} (h : sc.names.lookup x = some .cell) : ∃ c, (cellsFrom n sc.names []).lookup x = some c := by
  have q := PySem.W.cellsFrom_some sc.names n [] (.inl h)
  exact Option.isSome_iff_exists.mp q

theorem inv_start {CX : CXT} {P : Program} {w : World} {K : PySem.W.Frag} {mg : Str → Option Value} {base : Heap} {N ps : List Str} {qual : Str} {scope : Scope} {f : Addr} {cd : Value} {A : Around} {outer : List Env} {s s1 : Shared} {H : Hp} {E : XK} {us : List Value} {vs : List V}
    (S : FnScope N ps scope) (hd : A.handled = none) (e0 : Env0 P w K mg base A outer s H) (hl : vs.length = ps.length) (r : Vals vs us)
    (x : InCallC s s.heap.objs.size (bindL (envOfC qual scope s.heap.objs.size f cd).kindOf (ps.zip us) fun _ => none) (cellsFrom (s.heap.objs.size + 1) scope.names []) (bindC (envOfC qual scope s.heap.objs.size f cd).kindOf (ps.zip us) fun _ => none) s1) :
    Inv (cxOf CX P w K mg base N qual scope f cd A outer s H E) [] (start N vs) H s1 := by
  have hpl : ps.length ≤ N.length := by have := congrArg List.length S.pre; rw [List.length_take] at this; omega
  obtain ⟨h1, tk, rfl, hk⟩ := x.done
  have noA : ∀ b : Addr, b ∉ (cxOf CX P w K mg base N qual scope f cd A outer s H E).ex := fun b z => absurd (show b ∈ ([] : List Addr) from z) (by simp)
  refine ⟨⟨e0.mod, S.kind, rfl, rfl, Nat.le_refl _, fun y z c h1 h2 => ?_, fun y hy => ?_, fun y c _ h => ?_, fun _ => hd, Around.frames_deeper e0.frames, .inr ⟨rfl, rfl⟩, fun b z => absurd z (noA b), e0.bs, e0.bsz, fun b _ _ => noA b, fun b z => absurd z (noA b), e0.funs, e0.frf⟩,
    rfl, e0.bare, Un.kept hk, ⟨_, x.toInCall.ns, fun i y v h1 h2 h3 => ?_⟩, fun y c h => ⟨_, x.cell y c h⟩, e0.hok.fresh (Nat.le_refl _), fun y c h => ?_, fun p hp => absurd (show p ∈ ([] : List (Addr × Obj)) from hp) (by simp), e0.hok.kept hk, ?_⟩
  · exact name_of_addr x.apart (PySem.mem_of_lookup h1) (PySem.mem_of_lookup h2)
  · have hy : scope.names.lookup y = some .cell ∨ scope.names.lookup y = some .free := hy
    rcases hy with hy | hy
    · exact cell_has hy
    · exact absurd rfl (S.nofree _ (PySem.mem_of_lookup hy))
  · exact Nat.le_of_lt (x.above y c (PySem.mem_of_lookup h))
  · have hi : i < vs.length := by
      unfold start at h2
      by_cases hi : i < vs.length
      · exact hi
      · rw [List.getElem?_append_right (by simpa using hi)] at h2
        rw [List.getElem?_replicate] at h2
        split at h2 <;> cases h2
    have ha : vs[i]? = some v := by
      unfold start at h2
      rw [List.getElem?_append_left (by simpa using hi), List.getElem?_map] at h2
      cases e : vs[i]? with
      | none => rw [e] at h2; cases h2
      | some a => rw [e] at h2; cases h2; rfl
    obtain ⟨u, hu, rv⟩ := r.get ha
    have hp : ps[i]? = some y := by
      rw [← S.pre, List.getElem?_take_of_lt (by omega)]; exact h1
    have ndP : ps.Nodup := by rw [← S.pre]; exact S.nd.sublist (List.take_sublist _ _)
    refine ⟨u, rv, ?_⟩
    rcases S.par y (List.mem_of_getElem? hp) with k | k
    · exact .inl ⟨k, bindL_get ndP hp hu k⟩
    · obtain ⟨c, e⟩ := cell_has (n := s.heap.objs.size + 1) k
      refine .inr ⟨.inl k, c, e, ?_⟩
      have q := x.cell y c e
      rw [bindC_get ndP hp hu (by show scope.names.lookup y ≠ _; rw [k]; decide)] at q
      exact q
  · exact e0.hok.fresh (Nat.le_of_lt (x.above y c (PySem.mem_of_lookup h)))
  · unfold start
    show _ = N.length
    rw [List.length_append, List.length_map, List.length_replicate]
    omega

/-- THE RULE: a def (or a method) of the text, by its body. The body's reading t is chosen for each entry; it is run at the parameters' values -/
theorem fn_of {CX : CXT} {P : Program} {w : World} {K : PySem.W.Frag} {mg : Str → Option Value} {base : Heap} {k : Nat} {f : Addr} {name qual : Str} {params : Arguments} {body : List Stmt} {scope : Scope} {dV kV doc pm cdv ct oc : Value} {an od : Option Addr}
    {osl : Array (Option Value)} {N ps : List Str} {sp : Sp} (lk : K.lookup f = some ⟨oc, od, .func (PySem.W.fnOf name qual params body scope dV kV doc pm an cdv ct), osl⟩) (hcd : PySem.W.codeIn K cdv qual = true) (S : FnScope N ps scope)
    (len : ∀ vs H Q E, sp vs H Q E → vs.length = ps.length)
    (hbody : ∀ (A : Around) (outer : List Env) (s : Shared) (H : Hp) (vs : List V) (Q : VK) (E : XK), Room k (A.deeper (envOfC qual scope s.heap.objs.size f cdv)) → sp vs H Q E →
      ∃ t, PSs (cxOf CX P w K mg base N qual scope f cdv A outer s H E) body t ∧ t { nx := fun _ H' => Q .non H', rt := Q } (start N vs) H) :
    FnOk P w K mg base CX (k + 1) f (PySem.W.fnOf name qual params body scope dV kV doc pm an cdv ct) ps sp := by
  refine ⟨len, fun A outer s H args us vs Q E hr e0 hb r hsp => ?_⟩
  have hl := len _ _ _ _ hsp
  have KX : K.In s.heap := e0.mod.kin.keeps fun b o e => (e0.bs b o e).1
  have lim : s.heap.NoLimit := e0.mod.nolimit.keeps fun b o e => (e0.bs b o e).1
  have hkind : ∀ y ∈ ps.zip us, scope.names.lookup y.1 = some .local ∨ (scope.names.lookup y.1 = some .cell ∧ ((cellsFrom (s.heap.objs.size + 1) scope.names []).lookup y.1).isSome = true) := fun ⟨n, v⟩ hy => by
    rcases S.par n (List.of_mem_zip hy).1 with q | q
    · exact .inl q
    · exact .inr ⟨q, PySem.W.cellsFrom_some _ _ _ (.inl q)⟩
  refine codeAny_call_function hr.depth (KX _ _ lk) rfl S.co S.gen rfl (PySem.W.codeRec_of KX hcd) (hb _ _ _ _ ?_)
  refine wpAny_newFunctionEnv_cells S.kind hkind fun env he s1 x => ?_
  subst he
  refine ⟨lim.keeps x.toInCall.keep, codeAny_func ?_⟩
  obtain ⟨t, ht, hq⟩ := hbody A outer s H vs Q E (hr.deeper _) hsp
  have I : Inv (cxOf CX P w K mg base N qual scope f cdv A outer s H E) [] (start N vs) H s1 := inv_start S hr.hd e0 hl r x
  refine wpAny_mono (ht [] s1 (start N vs) H _ I hq) (fun fl s' hs => ?_) fun e s' hs => hs
  have fin : ∀ {σ' : St} {H' : Hp} {v : V} {u : Value}, Inv (cxOf CX P w K mg base N qual scope f cdv A outer s H E) [] σ' H' s' → RelV v u → Q v H' → CE outer P w H s Q u s' :=
    fun {σ' H' v u} J rv q => ⟨v, H', J.os, J.bare, J.base, J.hok, rv, q⟩
  cases fl with
  | ret u =>
    obtain ⟨v, σ', H', J, rv, q⟩ := hs
    exact fin J rv q
  | next =>
    obtain ⟨σ', H', J, q⟩ := hs
    exact fin (v := V.non) (u := Value.none) J rfl q
  | brk =>
    obtain ⟨_, _, _, q⟩ := hs
    exact False.elim q
  | cont =>
    obtain ⟨_, _, _, q⟩ := hs
    exact False.elim q
end L2

namespace L2
open PySem PySem.Spec PyProof.Rows
section
variable {X : Cx} {x : Str} {p pos : Pos} {e : Expr} {es : List Expr} {t : TA} {id T : String} {r : List V → Hp → VK → Prop}

def tCB (r : List V → Hp → VK → Prop) (t : TA) : TE := fun σ H Q => t σ H fun vs H1 => r vs H1 Q
/-- f(e, ..), f a built-in function -/
theorem pe_callB (hc : CallR X (.builtin id) r) (hg : Gl X x) (hm : X.mg x = none) (hv : bootBuiltins x = some (.builtin id)) (ha : PA X (e :: es) t) (hn : x ≠ "__name__" := by decide) (hdb : (x == ("__debug__" : Str)) = false := by decide)
    (he : starEach (e :: es) X.env = (false, eval e X.env) :: starEach es X.env := by rfl) (hpl : (backTo pos (starEach es X.env)).any (·.1) = false := by rfl) : PE X (.Call (.Name x p) (e :: es) [] pos) (tCB r t) := by
  intro pins s σ H Q I h
  refine wpAny_Call_Name_kw (ld_blt I hg hm hv ?_ hn hdb)
  exact PyProof.Rows.callWith_builtin1 (thn (ha pos pins s σ H _ I h) fun us s1 ⟨vs, H1, I1, r1, q1⟩ => hc pins s1 σ H1 vs us Q I1 r1 q1) he hpl
/-- T(e, ..), T a built-in type -/
theorem pe_callTy (hc : CallR X (.type T) r) (hg : Gl X x) (hm : X.mg x = none) (hv : bootBuiltins x = some (.type T)) (ha : PA X (e :: es) t) (hn : x ≠ "__name__" := by decide) (hdb : (x == ("__debug__" : Str)) = false := by decide)
    (he : starEach (e :: es) X.env = (false, eval e X.env) :: starEach es X.env := by rfl) (hpl : (backTo pos (starEach es X.env)).any (·.1) = false := by rfl) : PE X (.Call (.Name x p) (e :: es) [] pos) (tCB r t) := by
  intro pins s σ H Q I h
  refine wpAny_Call_Name_kw (ld_blt I hg hm hv ?_ hn hdb)
  exact PyProof.Rows.callWith_type1 (thn (ha pos pins s σ H _ I h) fun us s1 ⟨vs, H1, I1, r1, q1⟩ => hc pins s1 σ H1 vs us Q I1 r1 q1) he hpl
end
end L2

namespace HT
open PySem PyProof.Rows



section
open PySem.SeqAt
open PySem.AutoSeq1 (wpAny_loadPart')
open PySem.MeetsSeq PySem.MeetsSeq2 PySem.MeetsSeq3

end

section
variable {prog : Program} {w : World} {A : Around} {E : Value → Shared → Prop} {s : Shared}


/-- t + u, t not empty -/
theorem cat_tup {t b : Addr} {vs ws : List Value} {Q : Value → Shared → Prop} (ht : IsTup s.heap t vs.toArray) (hb : IsTup s.heap b ws.toArray) (hv : vs ≠ [])
    (h1 : ws = [] → Q (.ref t) s) (h2 : ws ≠ [] → Q (.ref s.heap.objs.size) { s with heap := s.heap.push { cls := .type "tuple", data := .seq (vs ++ ws).toArray } })
    (hsz : vs.length + ws.length ≤ sizeLine) : wpAny (model prog w) A (binaryOp .Add (.ref t) (.ref b)) Q E s := by
  obtain ⟨⟨cls, dd, data, sl⟩, ho, hc, n, hd⟩ := id ht
  obtain ⟨⟨cls2, dd2, data2, sl2⟩, ho2, hc2, n2, hd2⟩ := id hb
  simp only at hc hd hc2 hd2
  subst hc hd hc2 hd2
  have e : vs.toArray ++ ws.toArray = (vs ++ ws).toArray := by simp
  by_cases hw : ws = []
  · exact concat_meets ⟨_, ho, rfl⟩ ⟨_, ho2, rfl⟩ noFill_tuple_add seq_tuple_add PySem.F.slot_tuple_add PySem.F.entry_tuple_add (PySem.F.args_tuple_add_2 _ _)
      (tuple_addW1 t b vs.toArray ws.toArray n n2 dd dd2 sl sl2 (by simpa using hv) (by simp [hw])) ⟨ho, ho2, h1 hw⟩
  · refine concat_meets ⟨_, ho, rfl⟩ ⟨_, ho2, rfl⟩ noFill_tuple_add seq_tuple_add PySem.F.slot_tuple_add PySem.F.entry_tuple_add (PySem.F.args_tuple_add_2 _ _)
      (tuple_addW2 t b vs.toArray ws.toArray n n2 dd dd2 sl sl2 (by simpa using hv) (by simpa using hw) (by rw [List.size_toArray, List.size_toArray]; exact hsz)) ⟨ho, ho2, ?_⟩
    rw [e]
    exact h2 hw

/-! ### t[a:b], not the whole -/
/-- a slice's bound as a place among n (d where it is left out) -/
def sIx (n d : Nat) : Option Int → Nat
  | none => d
  | some v => if v < 0 then (v + (n : Int)).toNat else min v.toNat n
theorem sIx_none (n d : Nat) : sIx n d none = d := rfl
theorem sIx_nat (n d k : Nat) : sIx n d (some (k : Int)) = min k n := by
  show (if (k : Int) < 0 then ((k : Int) + (n : Int)).toNat else min (k : Int).toNat n) = min k n
  rw [if_neg (by omega), Int.toNat_natCast]
theorem sIx_le (n d : Nat) (hd : d ≤ n) (o : Option Int) : sIx n d o ≤ n := by
  cases o with
  | none => exact hd
  | some v =>
    show (if v < 0 then (v + (n : Int)).toNat else min v.toNat n) ≤ n
    by_cases hv : v < 0
    · rw [if_pos hv]; omega
    · rw [if_neg hv]; exact Nat.min_le_right _ _
theorem clip_eq (v : Int) (n d : Nat) : (if v < 0 then max (v + (n : Int)) 0 else min v (n : Int)) = ((sIx n d (some v) : Nat) : Int) := by
  show (if v < 0 then max (v + (n : Int)) 0 else min v (n : Int)) = (((if v < 0 then (v + (n : Int)).toNat else min v.toNat n) : Nat) : Int)
  by_cases hv : v < 0
  · simp only [if_pos hv]; omega
  · simp only [if_neg hv]; omega
theorem adjust_gen (lo hi : Option Int) (n : Nat) : Builtin.Slice.sliceAdjust lo hi 1 (n : Int) = (((sIx n 0 lo : Nat) : Int), ((sIx n n hi : Nat) : Int)) := by
  have h1 : ¬ ((1 : Int) < 0) := by omega
  unfold Builtin.Slice.sliceAdjust
  simp only [h1, if_false]
  refine Prod.ext ?_ ?_
  · cases lo with
    | none => rfl
    | some v => exact clip_eq v n 0
  · cases hi with
    | none => rfl
    | some v => exact clip_eq v n n
theorem places_gen (i j : Nat) : Builtin.Slice.slicePlaces (i : Int) (j : Int) 1 = j - i := by
  unfold Builtin.Slice.slicePlaces
  have h1 : (1 : Int) > 0 := by omega
  simp only [h1, if_true, Int.ediv_one]
  split <;> omega
theorem slicePart_ {v : Value} {o : Option Int} {Q : Option Int → Shared → Prop} (p : IsPart v o) (h : Q o s) : wpAny (model prog w) A (Builtin.Slice.slicePartIndex v) Q E s := by
  cases p with
  | none => exact slicePart_none h
  | int i t => exact slicePart_int h
theorem sliceApplied_gen {sl : Addr} {vl vu : Value} {lo hi : Option Int} {n : Nat} {Q : Int × Int × Nat → Shared → Prop} (hs : s.heap.IsSliceOf sl vl vu .none) (pl : IsPart vl lo) (pu : IsPart vu hi)
    (h : Q (((sIx n 0 lo : Nat) : Int), 1, sIx n n hi - sIx n 0 lo) s) : wpAny (model prog w) A (Builtin.Slice.sliceApplied (.ref sl) (pure (n : Int))) Q E s := by
  obtain ⟨os, hos, hcs, hds⟩ := id hs
  unfold Builtin.Slice.sliceApplied Builtin.Slice.sliceFields
  refine wpAny_bind (wpAny_bind (wpAny_field hos hds (x := vl) rfl (wpAny_bind (wpAny_field hos hds (x := vu) rfl (wpAny_bind (wpAny_field hos hds (x := .none) rfl (wpAny_pure ?_)))))))
  refine wpAny_bind (slicePart_none ?_)
  show wpAny _ _ (if ((1 : Int) == 0) = true then _ else _) _ _ s
  rw [if_neg (by decide)]
  refine wpAny_bind (slicePart_ pl (wpAny_bind (slicePart_ pu (wpAny_bind (wpAny_pure ?_)))))
  show wpAny _ _ (match Builtin.Slice.sliceAdjust lo hi 1 (n : Int) with | (lo, hi) => pure (lo, (1 : Int), Builtin.Slice.slicePlaces lo hi 1)) _ _ s
  rw [adjust_gen lo hi n]
  show wpAny _ _ (pure (((sIx n 0 lo : Nat) : Int), (1 : Int), Builtin.Slice.slicePlaces ((sIx n 0 lo : Nat) : Int) ((sIx n n hi : Nat) : Int) 1)) _ _ s
  rw [places_gen]
  exact wpAny_pure h
theorem pick_gen (xs : Array Value) (i k : Nat) : ((List.range k).filterMap fun (m : Nat) => xs[((i : Int) + (m : Int) * 1).toNat]?).toArray = ((xs.toList.drop i).take k).toArray := by
  have e : (fun (m : Nat) => xs[((i : Int) + (m : Int) * 1).toNat]?) = fun m => xs[i + m]? := by
    funext m
    have : ((i : Int) + (m : Int) * 1).toNat = i + m := by omega
    rw [this]
  rw [e]
  have := pick_run xs i k
  rw [List.filterMap_map] at this
  have e2 : ((fun x => xs[x]?) ∘ fun x => i + x) = fun m => xs[i + m]? := rfl
  rw [e2] at this
  rw [this]

theorem getItem_tuple_cut {t sl : Addr} {items : Array Value} {vl vu : Value} {lo hi : Option Int} {Q : Value → Shared → Prop} (ht : IsTup s.heap t items) (hs : s.heap.IsSliceOf sl vl vu .none) (pl : IsPart vl lo) (pu : IsPart vu hi)
    (hw : ¬ (sIx items.size 0 lo = 0 ∧ sIx items.size items.size hi = items.size))
    (h : Q (.ref s.heap.objs.size) { s with heap := s.heap.push { cls := .type "tuple", data := .seq ((items.toList.drop (sIx items.size 0 lo)).take (sIx items.size items.size hi - sIx items.size 0 lo)).toArray } })
    (hsz : items.size ≤ sizeLine) : wpAny (model prog w) A (getItem (.ref t) (.ref sl)) Q E s := by
  have htake : sizeOk (.seq ((items.toList.drop (sIx items.size 0 lo)).take (sIx items.size items.size hi - sIx items.size 0 lo)).toArray) := by
    show ((items.toList.drop (sIx items.size 0 lo)).take (sIx items.size items.size hi - sIx items.size 0 lo)).toArray.size ≤ sizeLine
    rw [List.size_toArray, List.length_take, List.length_drop, Array.length_toList]
    omega
  have hj : sIx items.size items.size hi ≤ items.size := sIx_le _ _ (Nat.le_refl _) hi
  obtain ⟨os, hos, hcs, hds⟩ := id hs
  have hTs : s.TypeIs (.ref sl) "slice" := ⟨os, hos, hcs⟩
  unfold getItem
  try with_reducible refine wpAny_holding ?_
  first | refine wpAny_bind (wpAny_pure ?_) | skip
  refine wpAny_bind (wpAny_sequenceKey ht.typeIs (by decide) ?_)
  refine wpAny_bind (wpAny_callSpecial?_slot (name := Str.ofString "__getitem__") ht.typeIs PyProof.Rows.slot_tuple_getitem
    (wpAny_call_entry PyProof.Rows.slot_tuple_getitem ht.typeIs entry_tuple_getitem ?_ (args_tuple_getitem _ _)))
  show wpAny _ _ (Builtin.Tuple.tupleItemsOf (.ref t) >>= _) _ _ s
  refine wpAny_bind (tupleItemsOf_ ht ?_)
  refine wpAny_bind (wpAny_typeOf hTs ?_)
  rw [if_pos (by decide)]
  refine wpAny_bind (sliceApplied_gen hs pl pu ?_)
  have hno : ¬ ((((sIx items.size 0 lo : Nat) : Int) == 0 && (1 : Int) == 1 && (sIx items.size items.size hi - sIx items.size 0 lo) == items.size) = true) := by
    intro q
    rw [Bool.and_eq_true, Bool.and_eq_true] at q
    have q1 : ((sIx items.size 0 lo : Nat) : Int) = 0 := eq_of_beq q.1.1
    have q2 : sIx items.size items.size hi - sIx items.size 0 lo = items.size := eq_of_beq q.2
    exact hw ⟨by omega, by omega⟩
  show wpAny _ _ (if (((sIx items.size 0 lo : Nat) : Int) == 0 && (1 : Int) == 1 && (sIx items.size items.size hi - sIx items.size 0 lo) == items.size) = true then _ else _) _ _ s
  rw [if_neg hno, pick_gen]
  first
    | exact wpAny_bind (m := Builtin.Tuple.tupleExact _) (wpAny_newObj_type (wpAny_pure ⟨_, rfl, wpAny_pure h⟩) htake)
    | exact wpAny_bind (m := Builtin.Tuple.tupleExact _) (wpAny_newObj_type (wpAny_bind (wpAny_pure (wpAny_pure ⟨_, rfl, wpAny_pure h⟩))) htake)
    | exact wpAny_bind (wpAny_bind (m := Builtin.Tuple.tupleExact _) (wpAny_newObj_type (wpAny_pure (wpAny_pure ⟨_, rfl, wpAny_pure h⟩)) htake))
    | exact wpAny_bind (wpAny_bind (m := Builtin.Tuple.tupleExact _) (wpAny_newObj_type (wpAny_pure ⟨_, rfl, wpAny_pure h⟩) htake))
end
end HT

namespace L2
open PySem PySem.Spec PyProof.Rows

/-! ### the parts of a slice -/
abbrev TO := St → Hp → (Option Int → Hp → Prop) → Prop
/-- a slice's part (left out, or an int) -/
def PO (X : Cx) (e : Option Expr) (t : TO) : Prop :=
  ∀ (pins : List (Addr × Obj)) (s : Shared) (σ : St) (H : Hp) (Q : Option Int → Hp → Prop), Inv X pins σ H s → t σ H Q →
    wpAny (model X.prog X.w) X.A (evalPart e X.env) (fun u s' => ∃ o H', Inv X pins σ H' s' ∧ IsPart u o ∧ Q o H') X.xe s
def tNoPart : TO := fun _ H Q => Q none H
def tPart (t : TE) : TO := fun σ H Q => t σ H fun x H1 => ∃ i, x = .int i ∧ Q (some i) H1

theorem intsAre_of {ns : List Int} : ∀ {us : List Value}, Vals (ns.map V.int) us → IntsAre us ns := by
  induction ns with
  | nil => intro us r; rw [List.map_nil] at r; cases r; exact .nil
  | cons n ns ih =>
    intro us r
    rw [List.map_cons] at r
    cases r with
    | cons r1 r2 =>
      obtain ⟨t, e⟩ := r1
      subst e
      exact .cons n t (ih r2)

section
variable {X : Cx} {e : Expr} {te : TE} {lo hi : Option Expr} {tl th : TO} {pos p2 : Pos}

theorem po_none : PO X none tNoPart := by
  intro pins s σ H Q I h
  rw [evalPart_none]
  exact wpAny_pure ⟨none, H, I, .none, h⟩
theorem po_some (h : PE X e te) : PO X (some e) (tPart te) := by
  intro pins s σ H Q I hw
  rw [evalPart_some]
  refine thn (h pins s σ H _ I hw) fun u s1 ⟨x, H1, I1, r1, q1⟩ => ?_
  obtain ⟨i, rfl, q⟩ := q1
  obtain ⟨t, rfl⟩ := r1
  exact ⟨some i, H1, I1, .int i t, q⟩

/-- what a slice of a value is, by values: the slice object stands at sl -/
def SlR (X : Cx) (r : V → Option Int → Option Int → Hp → VK → Prop) : Prop :=
  ∀ (pins : List (Addr × Obj)) (s : Shared) (σ : St) (H : Hp) (x : V) (v vl vu : Value) (lo hi : Option Int) (sl : Addr) (Q : VK), Inv X pins σ H s → RelV x v → s.heap.IsSliceOf sl vl vu .none → IsPart vl lo → IsPart vu hi → r x lo hi H Q →
    ∃ T id, typeLookup (.type T) "__getitem__" = pure (some (.builtin id)) ∧ s.TypeIs v T ∧ wpAny (model X.prog X.w) X.A (getItem v (.ref sl)) (EP X pins σ Q) X.xe s
def tSl (r : V → Option Int → Option Int → Hp → VK → Prop) (te : TE) (tl th : TO) : TE := fun σ H Q => te σ H fun x H1 => tl σ H1 fun l H2 => th σ H2 fun u H3 => r x l u H3 Q
/-- a[lo:hi], any a -/
theorem pe_slice {r : V → Option Int → Option Int → Hp → VK → Prop} (hr : SlR X r) (he : PE X e te) (hl : PO X lo tl) (hu : PO X hi th) : PE X (.Subscript e (.Slice lo hi none p2) pos) (tSl r te tl th) := by
  intro pins s σ H Q I h
  refine Subscript_ (thn (he pins s σ H _ I h) fun v s1 ⟨x, H1, I1, r1, q1⟩ => ?_)
  refine wpAny_Slice (thn (hl pins s1 σ H1 _ I1 q1) fun vl s2 ⟨l, H2, I2, pl, q2⟩ => thn (hu pins s2 σ H2 _ I2 q2) fun vu s3 ⟨u, H3, I3, pu, q3⟩ => ?_)
  rw [evalPart_none]
  refine wpAny_pure ?_
  have I4 : Inv X pins σ H3 { s3 with heap := s3.heap.push { cls := .type "slice", data := .fields #[vl, vu, .none] } } := I3.kept (t' := s3.toks) fun b ob q => Heap.get?_push_of_some _ q
  obtain ⟨T, id, hT, ht, hg⟩ := hr pins { s3 with heap := s3.heap.push { cls := .type "slice", data := .fields #[vl, vu, .none] } } σ H3 x v vl vu l u s3.heap.objs.size Q I4 r1 (Heap.IsSliceOf.new ..) pl pu q3
  show wpAny (model X.prog X.w) X.A (subscriptTail e (.Slice lo hi none p2) v (.ref s3.heap.objs.size)) (EP X pins σ Q) X.xe { s3 with heap := s3.heap.push { cls := .type "slice", data := .fields #[vl, vu, .none] } }
  exact tail_any (ops := [.ref s3.heap.objs.size, v]) ht hT hg (by with_unfolding_all rfl)

/-- the items of xs[lo:hi] -/
def cutV (xs : List V) (lo hi : Option Int) : List V := (xs.drop (HT.sIx xs.length 0 lo)).take (HT.sIx xs.length xs.length hi - HT.sIx xs.length 0 lo)
theorem cutV_length (xs : List V) (lo hi : Option Int) : (cutV xs lo hi).length ≤ xs.length := by
  unfold cutV
  rw [List.length_take, List.length_drop]
  omega
/-- t[lo:hi], not the whole of it (the whole would be t itself) -/
def rSlT (K : PySem.W.Frag) : V → Option Int → Option Int → Hp → VK → Prop := fun x lo hi H Q => ∃ a xs, x = .ref a ∧ SqT K H a xs ∧
  ¬ (HT.sIx xs.length 0 lo = 0 ∧ HT.sIx xs.length xs.length hi = xs.length) ∧ ∀ p, H p = none → Q (.ref p) (upd H p (.tup (cutV xs lo hi)))
theorem sl_tup : SlR X (rSlT X.K) := by
  intro pins s σ H x v vl vu lo hi sl Q I rx hs pl pu h
  obtain ⟨a, xs, rfl, hx, hw, q⟩ := h
  cases rx
  obtain ⟨its, r, ht, hz⟩ := I.tuple hx
  have hlen : its.toArray.size = xs.length := by rw [List.size_toArray]; exact r.length.symm
  refine ⟨"tuple", _, PyProof.Rows.slot_tuple_getitem.lookup, ht.typeIs, ?_⟩
  refine HT.getItem_tuple_cut ht hs pl pu (by rw [hlen]; exact hw) ?_ (by rw [hlen]; exact hz)
  rw [hlen]
  refine ⟨.ref s.heap.objs.size, _, I.laid (t' := s.toks) (o := .tup (cutV xs lo hi)) (fun b ob q => Heap.get?_push_of_some _ q) (Nat.le_refl _) ?_, rfl, q _ (I.hok.fresh (Nat.le_refl _))⟩
  exact ⟨Nat.le_trans (cutV_length xs lo hi) hz, _, (r.drop (HT.sIx xs.length 0 lo)).take (HT.sIx xs.length xs.length hi - HT.sIx xs.length 0 lo), IsTup.new _ _⟩

/-! ### t < u, t + u -/
/-- t + u, t not empty: u empty gives t itself -/
def rCatT (K : PySem.W.Frag) : R2 := fun x y H Q => ∃ a b xs ys, x = .ref a ∧ y = .ref b ∧ SqT K H a xs ∧ SqT K H b ys ∧ xs ≠ [] ∧ xs.length + ys.length ≤ sizeLine ∧
  (ys = [] → Q (.ref a) H) ∧ (ys ≠ [] → ∀ p, H p = none → Q (.ref p) (upd H p (.tup (xs ++ ys))))
theorem Vals.nil_iff {xs : List V} {us : List Value} (r : Vals xs us) : us = [] ↔ xs = [] := by
  cases r with
  | nil => simp
  | cons _ _ => simp
theorem op_catT : OpR X (binaryOp .Add) (rCatT X.K) := by
  intro pins s σ H x y v u Q I rx ry h
  obtain ⟨a, b, xs, ys, rfl, rfl, ha, hb, hx, hz, q1, q2⟩ := h
  cases rx
  cases ry
  obtain ⟨its, r1, p1, _⟩ := I.tuple ha
  obtain ⟨its2, r2, p2, _⟩ := I.tuple hb
  refine HT.cat_tup p1 p2 (fun z => hx (r1.nil_iff.mp z)) (fun z => ⟨.ref a, H, I, rfl, q1 (r2.nil_iff.mp z)⟩) (fun z => ?_) (by rw [← r1.length, ← r2.length]; exact hz)
  refine ⟨.ref s.heap.objs.size, _, I.laid (t' := s.toks) (o := .tup (xs ++ ys)) (fun b ob q => Heap.get?_push_of_some _ q) (Nat.le_refl _) ?_, rfl, q2 (fun w => z (r2.nil_iff.mpr w)) _ (I.hok.fresh (Nat.le_refl _))⟩
  exact ⟨by rw [List.length_append]; exact hz, _, r1.append r2, IsTup.new _ _⟩
end
end L2

namespace L2
open PySem PySem.Spec PyProof.Rows

/-! ### places -/
/-- the place that an index of any sign means -/
def ixN (n : Nat) (i : Int) : Option Nat := if 0 ≤ i then (if i < n then some i.toNat else none) else if -(n : Int) ≤ i then some (i + n).toNat else none
def atI {α : Type} (xs : List α) (i : Int) : Option α := (ixN xs.length i).bind fun j => xs[j]?
theorem ixN_seq {n : Nat} {i : Int} {j : Nat} (h : ixN n i = some j) : seqIndex? i n = some j ∧ j < n ∧ -(n : Int) ≤ i ∧ i < n := by
  unfold ixN at h
  by_cases h0 : 0 ≤ i
  · rw [if_pos h0] at h
    by_cases h1 : i < n
    · rw [if_pos h1] at h
      have e : i.toNat = j := Option.some.inj h
      exact ⟨by rw [seqIndex_of h0 h1, e], by omega, by omega, h1⟩
    · rw [if_neg h1] at h; cases h
  · rw [if_neg h0] at h
    by_cases h1 : -(n : Int) ≤ i
    · rw [if_pos h1] at h
      have e : (i + n).toNat = j := Option.some.inj h
      exact ⟨by rw [seqIndex_neg (by omega) h1, e], by omega, h1, by omega⟩
    · rw [if_neg h1] at h; cases h
theorem atI_get {α : Type} {xs : List α} {i : Int} {v : α} (h : atI xs i = some v) : ∃ j, seqIndex? i xs.length = some j ∧ xs[j]? = some v ∧ j < xs.length ∧ -(xs.length : Int) ≤ i ∧ i < xs.length := by
  unfold atI at h
  cases e : ixN xs.length i with
  | none => rw [e] at h; cases h
  | some j =>
    rw [e] at h
    obtain ⟨h1, h2, h3, h4⟩ := ixN_seq e
    exact ⟨j, h1, h, h2, h3, h4⟩
theorem atI_nat {α : Type} {xs : List α} {j : Nat} {v : α} (h : xs[j]? = some v) : atI xs (j : Int) = some v := by
  have hj : j < xs.length := (List.getElem?_eq_some_iff.mp h).1
  have e : ixN xs.length (j : Int) = some j := by
    unfold ixN
    rw [if_pos (by omega), if_pos (by omega)]; simp
  unfold atI; rw [e]; exact h

/-! ### what may be subscripted -/
/-- what stands as an index of a plain subscript -/
def PlainIx (b : Expr) : Prop := ∀ o i, subscripted b false o i = operate [o, i] (getItem o i)
/-- a subscript by values -/
def IxR (X : Cx) (r : R2) : Prop :=
  ∀ (value slice : Expr) (pins : List (Addr × Obj)) (s : Shared) (σ : St) (H : Hp) (x y : V) (v u : Value) (Q : VK), Inv X pins σ H s → RelV x v → RelV y u → r x y H Q →
    subscripted slice false v u = operate [v, u] (getItem v u) → wpAny (model X.prog X.w) X.A (subscriptTail value slice v u) (EP X pins σ Q) X.xe s
/-- a call of a builtin's method by values: the receiver, the arguments -/
def MtR (X : Cx) (id : String) (r : V → List V → Hp → VK → Prop) : Prop :=
  ∀ (pins : List (Addr × Obj)) (s : Shared) (σ : St) (H : Hp) (x : V) (xs : List V) (v : Value) (us : List Value) (Q : VK), Inv X pins σ H s → RelV x v → Vals xs us → r x xs H Q →
    wpAny (model X.prog X.w) X.A (call (.builtin id) (v :: us)) (EP X pins σ Q) X.xe s
section
variable {X : Cx} {a b : Expr} {ta tb : TE} {pos : Pos}
/-- a[b] -/
theorem pe_ix {r : R2} (hr : IxR X r) (ha : PE X a ta) (hb : PE X b tb) (hs : PlainIx b) : PE X (.Subscript a b pos) (tOp r ta tb) := by
  intro pins s σ H Q I h
  exact Subscript_ (binT ha hb I h fun v u s2 x y H2 I2 rx ry q => hr a b pins s2 σ H2 x y v u Q I2 rx ry q (hs _ _))

def rIxL (K : PySem.W.Frag) : R2 := fun x y H Q => ∃ p xs i v, x = .ref p ∧ y = .int i ∧ SqL K H p xs ∧ atI xs i = some v ∧ Q v H
def rIxT (K : PySem.W.Frag) : R2 := fun x y H Q => ∃ p xs i v, x = .ref p ∧ y = .int i ∧ SqT K H p xs ∧ atI xs i = some v ∧ Q v H
theorem ix_list : IxR X (rIxL X.K) := by
  intro value slice pins s σ H x y v u Q I rx ry h hs
  obtain ⟨p, xs, i, z, rfl, rfl, hq, he, q⟩ := h
  cases rx
  obtain ⟨t, rfl⟩ := ry
  obtain ⟨its, r, pl, hz⟩ := I.list hq
  obtain ⟨j, h1, h2, h3, h4, h5⟩ := atI_get he
  obtain ⟨w, ew, rw'⟩ := r.get h2
  have hl := r.length
  have hn := line63
  have fin : EP X pins σ Q w s := ⟨z, H, I, rw', q⟩
  by_cases h0 : 0 ≤ i
  · have hj : i.toNat = j := by
      rw [seqIndex_of h0 h5] at h1
      exact Option.some.inj h1
    exact item_listR pl.isList h0 (by omega) (by rw [hj]; simpa using ew) fin hs
  · have hj : (i + (its.toArray.size : Int)).toNat = j := by
      rw [seqIndex_neg (by omega) h4] at h1
      rw [List.size_toArray, ← hl]
      exact Option.some.inj h1
    exact subscriptTail_builtinR (x := w) pl.isList.typeIs slot_list_getitem.lookup
      (wpAny_getItem_list_neg (Q := fun r s' => r = w ∧ EP X pins σ Q r s') pl.isList (by omega) (by rw [List.size_toArray] <;> omega) (by omega) (by rw [hj]; simpa using ew) ⟨rfl, fin⟩) hs
theorem ix_tup : IxR X (rIxT X.K) := by
  intro value slice pins s σ H x y v u Q I rx ry h hs
  obtain ⟨p, xs, i, z, rfl, rfl, hq, he, q⟩ := h
  cases rx
  obtain ⟨t, rfl⟩ := ry
  obtain ⟨its, r, pl, hz⟩ := I.tuple hq
  obtain ⟨j, h1, h2, h3, h4, h5⟩ := atI_get he
  obtain ⟨w, ew, rw'⟩ := r.get h2
  have hl := r.length
  have hn := line63
  have fin : EP X pins σ Q w s := ⟨z, H, I, rw', q⟩
  exact subscriptTail_builtinR (x := w) pl.typeIs slot_tuple_getitem.lookup
    (getItem_tuple (j := j) (Q := fun r s' => r = w ∧ EP X pins σ Q r s') pl (by omega) (by omega) (by rw [List.size_toArray, ← hl]; exact h1) (by simpa using ew) ⟨rfl, fin⟩) hs

/-! ### xs[i] = v, any sign -/

/-! ### slices -/
theorem slice_bounds (lo hi : Option Int) (n : Nat) : (sliceBounds lo hi none n).1 = ((HT.sIx n 0 lo : Nat) : Int) ∧ (sliceBounds lo hi none n).2.1 = ((HT.sIx n n hi : Nat) : Int) ∧ (sliceBounds lo hi none n).2.2 = 1 := by
  refine ⟨?_, ?_, rfl⟩
  · cases lo with
    | none => simp [sliceBounds, HT.sIx]
    | some i =>
      simp only [sliceBounds, HT.sIx, Option.getD_none, show (1 : Int) > 0 by decide, if_true]
      by_cases h : i < 0
      · simp only [h, if_true] <;> omega
      · simp only [h, if_false] <;> omega
  · cases hi with
    | none => simp [sliceBounds, HT.sIx]
    | some i =>
      simp only [sliceBounds, HT.sIx, Option.getD_none, show (1 : Int) > 0 by decide, if_true]
      by_cases h : i < 0
      · simp only [h, if_true] <;> omega
      · simp only [h, if_false] <;> omega
theorem slicePick_cut (its : List Value) (lo hi : Option Int) : slicePick its.toArray lo hi none = ((its.drop (HT.sIx its.length 0 lo)).take (HT.sIx its.length its.length hi - HT.sIx its.length 0 lo)).toArray := by
  obtain ⟨h1, h2, h3⟩ := slice_bounds lo hi its.toArray.size
  unfold slicePick
  rw [h1, h2, h3]
  simp only [sliceRange_one, pick_run, List.size_toArray] <;> rfl
/-- xs[lo:hi] of a list: a new list -/
def rSlL (K : PySem.W.Frag) : V → Option Int → Option Int → Hp → VK → Prop := fun x lo hi H Q => ∃ a xs, x = .ref a ∧ SqL K H a xs ∧ ∀ p, H p = none → Q (.ref p) (upd H p (.lst (cutV xs lo hi)))
theorem sl_list : SlR X (rSlL X.K) := by
  intro pins s σ H x v vl vu lo hi sl Q I rx hs pl pu h
  obtain ⟨a, xs, rfl, hx, q⟩ := h
  cases rx
  obtain ⟨its, r, ht, hz⟩ := I.list hx
  have hlen := r.length
  refine ⟨"list", _, slot_list_getitem.lookup, ht.isList.typeIs, ?_⟩
  refine wpAny_getItem_list_slice ht.isList hs pl pu .none (by simp) ?_ (by rw [List.size_toArray] <;> omega)
  rw [slicePick_cut, ← hlen]
  refine ⟨.ref s.heap.objs.size, _, I.laid (t' := s.toks) (o := .lst (cutV xs lo hi)) (fun b ob q => Heap.get?_push_of_some _ q) (Nat.le_refl _) ?_, rfl, q _ (I.hok.fresh (Nat.le_refl _))⟩
  exact ⟨Nat.le_trans (cutV_length xs lo hi) hz, _, 0, (r.drop (HT.sIx xs.length 0 lo)).take (HT.sIx xs.length xs.length hi - HT.sIx xs.length 0 lo), Heap.get?_push_size _ rfl⟩

/-! ### in, not in: flat items -/
def flatV : V → Bool
  | .non => true
  | .bl _ => true
  | .int _ => true
  | .str _ => true
  | _ => false
/-- == of flat values -/
def eqV : V → V → Bool
  | .non, .non => true
  | .bl a, .bl b => a == b
  | .bl a, .int b => (if a then 1 else 0) == b
  | .int a, .bl b => a == (if b then 1 else 0)
  | .int a, .int b => a == b
  | .str a, .str b => a == b
  | _, _ => false
theorem eqAt_V {A : Around} {s : Shared} {y x : V} {u v : Value} (ry : RelV y u) (rx : RelV x v) (fy : flatV y = true) (fx : flatV x = true) : SeqAt.EqAt A s u v (eqV y x) := by
  cases y with
  | non =>
    cases ry
    cases x with
    | non => cases rx; exact SeqAt.EqAt.same _
    | bl b => cases rx; exact SeqAt.EqAt.none_bool b
    | int b => obtain ⟨t, rfl⟩ := rx; exact SeqAt.EqAt.none_int b t
    | str b => obtain ⟨t, rfl⟩ := rx; exact SeqAt.EqAt.none_str b t
    | _ => exact absurd (show false = true from fx) Bool.false_ne_true
  | bl a =>
    cases ry
    cases x with
    | non => cases rx; exact SeqAt.EqAt.bool_none a
    | bl b => cases rx; exact SeqAt.EqAt.bool_bool a b
    | int b => obtain ⟨t, rfl⟩ := rx; exact SeqAt.EqAt.bool_int a b t
    | str b => obtain ⟨t, rfl⟩ := rx; exact SeqAt.EqAt.bool_str a b t
    | _ => exact absurd (show false = true from fx) Bool.false_ne_true
  | int a =>
    obtain ⟨t', rfl⟩ := ry
    cases x with
    | non => cases rx; exact SeqAt.EqAt.int_none a t'
    | bl b => cases rx; exact SeqAt.EqAt.int_bool a t' b
    | int b => obtain ⟨t, rfl⟩ := rx; exact SeqAt.EqAt.int_int a t' b t
    | str b => obtain ⟨t, rfl⟩ := rx; exact SeqAt.EqAt.int_str a t' b t
    | _ => exact absurd (show false = true from fx) Bool.false_ne_true
  | str a =>
    obtain ⟨t', rfl⟩ := ry
    cases x with
    | non => cases rx; exact SeqAt.EqAt.str_none a t'
    | bl b => cases rx; exact SeqAt.EqAt.str_bool a t' b
    | int b => obtain ⟨t, rfl⟩ := rx; exact SeqAt.EqAt.str_int a t' b t
    | str b => obtain ⟨t, rfl⟩ := rx; exact SeqAt.EqAt.str_str a t' b t
    | _ => exact absurd (show false = true from fx) Bool.false_ne_true
  | _ => exact absurd (show false = true from fy) Bool.false_ne_true
/-- the items' answers, read off the values (a value's own answer does not lean on its token) -/
def eqU (x : V) (u : Value) : Bool := match u with
  | .none => eqV .non x
  | .bool b => eqV (.bl b) x
  | .int i _ => eqV (.int i) x
  | .str z _ => eqV (.str z) x
  | _ => false
theorem eqU_of {x y : V} {u : Value} (r : RelV y u) (f : flatV y = true) : eqU x u = eqV y x := by
  cases y with
  | non => cases r; rfl
  | bl b => cases r; rfl
  | int i => obtain ⟨t, rfl⟩ := r; rfl
  | str z => obtain ⟨t, rfl⟩ := r; rfl
  | _ => exact absurd (show false = true from f) Bool.false_ne_true
theorem any_eqU {x : V} : ∀ {xs : List V} {us : List Value}, Vals xs us → xs.all flatV = true → us.any (eqU x) = xs.any fun y => eqV y x
  | _, _, .nil, _ => rfl
  | y :: xs, u :: us, .cons r t, f => by
    rw [List.all_cons, Bool.and_eq_true] at f
    rw [List.any_cons, List.any_cons, eqU_of r f.1, any_eqU t f.2]
theorem mem_eqAt {A : Around} {s : Shared} {x : V} {v : Value} (rx : RelV x v) (fx : flatV x = true) : ∀ {xs : List V} {us : List Value}, Vals xs us → xs.all flatV = true → ∀ u ∈ us, SeqAt.EqAt A s u v (eqU x u)
  | _, _, .nil, _ => fun u hu => by cases hu
  | y :: xs, u :: us, .cons r t, f => fun u' hu => by
    rw [List.all_cons, Bool.and_eq_true] at f
    rcases List.mem_cons.mp hu with rfl | hu
    · rw [eqU_of r f.1]; exact eqAt_V r rx f.1 fx
    · exact mem_eqAt rx fx t f.2 u' hu
def inV (x : V) (xs : List V) : Bool := xs.any fun y => eqV y x
/-- x in a list or tuple of flat items -/
def rIn (K : PySem.W.Frag) (neg : Bool) : R2 := fun x y H Q => ∃ p xs, y = .ref p ∧ (SqL K H p xs ∨ SqT K H p xs) ∧ flatV x = true ∧ xs.all flatV = true ∧ Q (.bl (if neg then !inV x xs else inV x xs)) H
theorem op_in_seq : OpR X (compareOp .In) (rIn X.K false) := by
  intro pins s σ H x y v u Q I rx ry h
  obtain ⟨p, xs, rfl, hq, fx, fs, q⟩ := h
  cases ry
  rcases hq with hq | hq
  · obtain ⟨its, r, pl, hz⟩ := I.list hq
    refine SeqAt.in_listAt (eqU x) pl.isList (fun w hw => mem_eqAt rx fx r fs w (by simpa using hw)) ⟨.bl _, H, I, rfl, ?_⟩
    rw [show its.toArray.any (eqU x) = its.any (eqU x) by simp, any_eqU r fs]
    exact q
  · obtain ⟨its, r, pl, hz⟩ := I.tuple hq
    refine SeqAt.in_tupleAt (eqU x) pl (fun w hw => mem_eqAt rx fx r fs w (by simpa using hw)) ⟨.bl _, H, I, rfl, ?_⟩
    rw [show its.toArray.any (eqU x) = its.any (eqU x) by simp, any_eqU r fs]
    exact q

/-! ### len, list(x), tuple(x) of any list or tuple that is read -/
theorem call_len_seq : CallR X (.builtin "len") (fun xs H Q => ∃ p ys, xs = [.ref p] ∧ (SqL X.K H p ys ∨ SqT X.K H p ys) ∧ Q (.int ys.length) H) := by
  intro pins s σ H xs us Q I r h
  obtain ⟨p, ys, rfl, hq, q⟩ := h
  obtain ⟨u, rfl, rx⟩ := vals1 r
  cases rx
  have hn := line63
  rcases hq with hq | hq
  · obtain ⟨its, r', pl, hz⟩ := I.list hq
    have hlen := r'.length
    exact Calls.call_len_list pl.isList (by simp only [List.size_toArray] <;> omega) ⟨.int ys.length, H, I.tok _, ⟨s.toks + 1, by rw [List.size_toArray, hlen]⟩, q⟩
  · obtain ⟨its, r', pl, hz⟩ := I.tuple hq
    have hlen := r'.length
    exact len_tuple pl (by simp only [List.size_toArray] <;> omega) ⟨.int ys.length, H, I.tok _, ⟨s.toks + 1, by rw [List.size_toArray, hlen]⟩, q⟩
theorem call_tuple_of : CallR X (.type "tuple") (fun xs H Q => ∃ p ys, xs = [.ref p] ∧ ((SqL X.K H p ys ∧ ∀ l, H l = none → Q (.ref l) (upd H l (.tup ys))) ∨ (SqT X.K H p ys ∧ Q (.ref p) H))) := by
  intro pins s σ H xs us Q I r h
  obtain ⟨p, ys, rfl, h⟩ := h
  obtain ⟨u, rfl, rx⟩ := vals1 r
  cases rx
  rcases h with ⟨hq, q⟩ | ⟨hq, q⟩
  · obtain ⟨its, r', pl, hz⟩ := I.list hq
    have hlen := r'.length
    refine call_tuple_list pl.isList (fun h' kp => ?_) (by simp only [List.size_toArray] <;> omega)
    have I1 : Inv X pins σ H { s with heap := h' } := I.kept (t' := s.toks) kp
    have I2 : Inv X pins σ (upd H h'.objs.size (.tup ys)) { s with heap := h'.push { cls := .type "tuple", data := .seq its.toArray } } :=
      I1.laid (t' := s.toks) (fun b o e => Heap.get?_push_of_some _ e) (Nat.le_refl _) (show ObjOk X.prog X.w _ _ _ (.tup ys) from ⟨hz, its, r', IsTup.new _ _⟩)
    exact ⟨.ref h'.objs.size, _, I2, rfl, q _ (I1.hok.fresh (Nat.le_refl _))⟩
  · obtain ⟨its, r', pl, hz⟩ := I.tuple hq
    exact call_tuple_same pl ⟨.ref p, H, I, rfl, q⟩

/-! ### the call of a builtin's method: o.m(..) -/
/-- the value is of that builtin type -/
def tyV (K : PySem.W.Frag) (T : String) (x : V) (H : Hp) : Prop := match x with
  | .str _ => T = "str"
  | .int _ => T = "int"
  | .ref p => (T = "list" ∧ ∃ xs, SqL K H p xs) ∨ (T = "tuple" ∧ ∃ o, K.lookup p = some o ∧ o.cls = .type "tuple" ∧ o.dict = none) ∨
      (T = "dict" ∧ ((∃ kvs, H p = some (.dK kvs)) ∨ ∃ kvs, H p = some (.dT kvs))) ∨ (T = "set" ∧ ∃ S n, H p = some (.set S n))
  | _ => False
theorem tyV_is {pins : List (Addr × Obj)} {σ : St} {H : Hp} {s : Shared} {T : String} {x : V} {v : Value} (I : Inv X pins σ H s) (r : RelV x v) (ty : tyV X.K T x H) :
    s.TypeIs v T ∧ ∀ a, v = .ref a → ∃ ob, s.heap.get? a = some ob ∧ ob.dict = none := by
  cases x with
  | str z =>
    obtain ⟨t, rfl⟩ := r
    cases (show T = "str" from ty)
    exact ⟨typeIs_str s z t, fun _ e => nomatch e⟩
  | int i =>
    obtain ⟨t, rfl⟩ := r
    cases (show T = "int" from ty)
    exact ⟨typeIs_int s i t, fun _ e => nomatch e⟩
  | ref p =>
    cases r
    rcases ty with ⟨rfl, xs, hq⟩ | ⟨rfl, o, hk, hc, hd⟩ | ⟨rfl, hk⟩ | ⟨rfl, S, n, hk⟩
    · obtain ⟨its, _, pl, _⟩ := I.list hq
      refine ⟨pl.isList.typeIs, fun a e => ?_⟩
      cases e
      obtain ⟨o, n, e, c, hd, _⟩ := pl
      exact ⟨o, e, hd⟩
    · refine ⟨⟨o, I.kIn p o hk, hc⟩, fun a e => ?_⟩
      cases e
      exact ⟨o, I.kIn _ o hk, hd⟩
    · have z : ∃ o, s.heap.get? p = some o ∧ o.ExactDict := by
        rcases hk with ⟨kvs, hk⟩ | ⟨kvs, hk⟩
        · obtain ⟨_, _, _, _, o, _, _, e, ex, _⟩ := I.hok p _ hk
          exact ⟨o, e, ex⟩
        · obtain ⟨_, _, _, _, o, _, _, e, ex, _⟩ := I.hok p _ hk
          exact ⟨o, e, ex⟩
      obtain ⟨o, e, ex⟩ := z
      refine ⟨⟨o, e, ex.1⟩, fun a e2 => ?_⟩
      cases e2
      exact ⟨o, e, ex.2.1⟩
    · obtain ⟨o, _, _, _, e, ex, _⟩ := I.hok p _ hk
      refine ⟨⟨o, e, ex.1⟩, fun a e2 => ?_⟩
      cases e2
      exact ⟨o, e, ex.2.1⟩
  | _ => exact False.elim ty
def tBM0 (K : PySem.W.Frag) (T : String) (r : V → List V → Hp → VK → Prop) (to : TE) : TE := fun σ H Q => to σ H fun x H1 => tyV K T x H1 ∧ r x [] H1 Q
def tBM (K : PySem.W.Frag) (T : String) (r : V → List V → Hp → VK → Prop) (to : TE) (t : TA) : TE := fun σ H Q => to σ H fun x H1 => tyV K T x H1 ∧ t σ H1 fun xs H2 => r x xs H2 Q
variable {o e : Expr} {es : List Expr} {to : TE} {t : TA} {name : Str} {apos cpos : Pos} {T id : String} {r : V → List V → Hp → VK → Prop}
theorem pe_bm0 (pa : PlainAttrs T) (slot : Slot T name id) (hty : typeOf (.builtin id) = pure (.type "method_descriptor")) (hm : MtR X id r) (ho : PE X o to)
    (hbase : attributeBase o name X.env (eval o X.env) = eval o X.env := by rfl) (hline : (apos.endLine == cpos.line) = true := by rfl) : PE X (.Call (.Attribute o name apos) [] [] cpos) (tBM0 X.K T r to) := by
  intro pins s σ H Q I h
  refine wpAny_Call_method0_late hbase hline (thn (ho pins s σ H _ I h) fun v s1 ⟨x, H1, I1, r1, ty, q1⟩ => ?_)
  obtain ⟨h1, h2⟩ := tyV_is I1 r1 ty
  exact ⟨T, id, pa, slot, hty, h1, h2, Calls.callWith_builtin rfl (PySem.evalArgs_none (hm pins s1 σ H1 x [] v [] Q I1 r1 .nil q1))⟩
theorem pe_bm (pa : PlainAttrs T) (slot : Slot T name id) (hty : typeOf (.builtin id) = pure (.type "method_descriptor")) (hm : MtR X id r) (ho : PE X o to) (ha : PA X (e :: es) t)
    (hbase : attributeBase o name X.env (eval o X.env) = eval o X.env := by rfl)
    (hfew : ((backTo cpos (starEach (e :: es) X.env)).all (fun x => !x.1) && (backToKw cpos (keywordEach [] X.env)).all (fun x => x.1.isSome)
      && decide ((e :: es).length + ([] : List Keyword).length + (if ([] : List Keyword).isEmpty then 0 else 1) < 30)) = true := by rfl)
    (hline : (apos.endLine == cpos.line) = true := by rfl) (hs : starEach (e :: es) X.env = (false, eval e X.env) :: starEach es X.env := by rfl) (hplain : (backTo cpos (starEach es X.env)).any (·.1) = false := by rfl) :
    PE X (.Call (.Attribute o name apos) (e :: es) [] cpos) (tBM X.K T r to t) := by
  intro pins s σ H Q I h
  refine wpAny_Call_method_late hbase hfew hline rfl (thn (ho pins s σ H _ I h) fun v s1 ⟨x, H1, I1, r1, ty, q1⟩ => ?_)
  obtain ⟨h1, h2⟩ := tyV_is I1 r1 ty
  refine ⟨T, id, pa, slot, hty, h1, h2, ?_⟩
  have hA := ha cpos pins s1 σ H1 _ I1 q1
  rw [hs] at hA ⊢
  refine Calls.callWith_builtin (by show (false || (backTo cpos (starEach es X.env)).any (·.1)) = false; rw [hplain] <;> rfl) (Calls.evalArgs_plain ?_)
  exact thn hA fun us s2 ⟨vs, H2, I2, r2, q2⟩ => hm pins s2 σ H2 x vs v us Q I2 r1 r2 q2
/- xs.append(e), list.index on a module's tuple .. are MtR facts of 06m -/
end
end L2

namespace L2
open PySem PySem.Spec PyProof.Rows

def MtM (X : Cx) (id : String) (r : V → List V → Hp → VK → Prop) : Prop :=
  ∀ (pins : List (Addr × Obj)) (s : Shared) (σ : St) (H : Hp) (x : V) (xs : List V) (v : Value) (us : List Value) (Q : VK), Inv X pins σ H s → RelV x v → Vals xs us → r x xs H Q →
    wpAny (model X.prog X.w) X.A (call (.builtin id) (v :: us)) (EP X pins σ Q) X.xe s

/-! ### lists of values -/
theorem Vals.one : ∀ {x : V} {us : List Value}, Vals [x] us → ∃ u, us = [u] ∧ RelV x u
  | _, _, .cons r .nil => ⟨_, rfl, r⟩
theorem Vals.zero : ∀ {us : List Value}, Vals [] us → us = []
  | _, .nil => rfl
theorem Vals.dropLast {xs : List V} {us : List Value} (h : Vals xs us) : Vals xs.dropLast us.dropLast := by
  induction h with
  | nil => exact .nil
  | cons r t ih =>
    cases t with
    | nil => exact .nil
    | cons q t' => exact .cons r ih
theorem Vals.rep {xs : List V} {us : List Value} (h : Vals xs us) : ∀ k : Nat, Vals (List.replicate k xs).flatten (List.replicate k us).flatten
  | 0 => .nil
  | k + 1 => by
    rw [List.replicate_succ, List.replicate_succ, List.flatten_cons, List.flatten_cons]
    exact Vals.append h (Vals.rep h k)
theorem erase_last {α : Type} (l : List α) : l.eraseIdx (l.length - 1) = l.dropLast := by
  induction l with
  | nil => rfl
  | cons a r ih =>
    cases r with
    | nil => rfl
    | cons b r =>
      have e : (a :: b :: r).length - 1 = ((b :: r).length - 1) + 1 := by
        have h1 : (a :: b :: r).length = r.length + 2 := rfl
        have h2 : (b :: r).length = r.length + 1 := rfl
        omega
      rw [e, List.eraseIdx_cons_succ, ih]
      all_goals rfl
theorem foldl_rep (its : List Value) : ∀ (k : Nat) (acc : List Value),
    List.foldl (fun x1 x2 => x1 ++ x2) acc.toArray (List.replicate k its.toArray) = (acc ++ (List.replicate k its).flatten).toArray
  | 0, acc => by simp
  | k + 1, acc => by
    have e : acc.toArray ++ its.toArray = (acc ++ its).toArray := by simp
    have e2 : (acc ++ its) ++ (List.replicate k its).flatten = acc ++ (List.replicate (k + 1) its).flatten := by
      rw [List.replicate_succ, List.flatten_cons, List.append_assoc]
    rw [← e2, ← foldl_rep its k (acc ++ its), ← e, List.replicate_succ, List.foldl_cons]

section
variable {X : Cx} {pins : List (Addr × Obj)} {σ : St} {H : Hp} {s : Shared} {l b : Addr} {xs ys zs : List V}

/-! ### the two steps: a tracked list is rewritten, a new list is laid -/
theorem Inv.lset {its its' : List Value} {n : Nat} {f : Array Value → Array Value} {t' : Nat} (I : Inv X pins σ H s) (hH : H l = some (.lst xs))
    (e : s.heap.get? l = some { cls := .type "list", data := .seq its.toArray n }) (hf : f its.toArray = its'.toArray) (hv : Vals ys its') (hz : ys.length ≤ sizeLine) :
    Inv X pins σ (upd H l (.lst ys)) { s with heap := s.heap.update l (Obj.mapSeq f), toks := t' } := by
  have q := PySem.IsL.update e f
  rw [hf] at q
  refine I.write (x := l) (e := l) (by rw [hH]; exact trivial) (.inl rfl) (fun b' u hb hu => (Heap.get?_update_other s.heap (Obj.mapSeq f) (Ne.symm hb)).trans hu) ⟨_, q⟩ ?_
  exact ⟨hz, its', _, hv, q⟩
theorem Inv.lnew {its : List Value} {t' : Nat} (I : Inv X pins σ H s) (hv : Vals ys its) (hz : ys.length ≤ sizeLine) :
    Inv X pins σ (upd H s.heap.objs.size (.lst ys)) { s with heap := s.heap.push { cls := .type "list", data := .seq its.toArray }, toks := t' } :=
  I.laid (fun _ _ q => Heap.get?_push_of_some _ q) (Nat.le_refl _) ⟨hz, its, 0, hv, Heap.get?_push_size _ rfl⟩
theorem Inv.fresh (I : Inv X pins σ H s) : H s.heap.objs.size = none := I.hok.fresh (Nat.le_refl _)
theorem Inv.lstM (I : Inv X pins σ H s) (hH : H l = some (.lst xs)) : xs.length ≤ sizeLine ∧ ∃ (its : List Value) (n : Nat), Vals xs its ∧ xs.length = its.length ∧ s.heap.get? l = some { cls := .type "list", data := .seq its.toArray n } := by
  obtain ⟨z, its, n, r, e⟩ := I.hok l _ hH
  exact ⟨z, its, n, r, r.length, e⟩

theorem notLongL {n : Nat} (h : n ≤ sizeLine) : Builtin.List.listTooLong n = false := by
  unfold Builtin.List.listTooLong
  exact decide_eq_false (by omega)
end

section
variable {X : Cx}

/-! ### methods -/
def rAppend : V → List V → Hp → VK → Prop := fun x vs H Q => ∃ l xs y, x = .ref l ∧ vs = [y] ∧ H l = some (.lst xs) ∧ xs.length < sizeLine ∧ Q .non (upd H l (.lst (xs ++ [y])))
theorem mt_append : MtM X "list.append" rAppend := by
  intro pins s σ H x vs v us Q I rx rv h
  obtain ⟨l, xs, y, rfl, rfl, hH, hz, q⟩ := h
  cases rx
  obtain ⟨u, rfl, ru⟩ := rv.one
  obtain ⟨z, its, n, r, hl, e⟩ := I.lstM hH
  refine call_meets F.slot_list_append ⟨_, e, rfl⟩ F.entry_list_append (F.args_list_append_2 _ _) (PySem.list_append l its.toArray n u (by rw [List.size_toArray]; omega)) ⟨e, ?_⟩
  refine ⟨.non, _, I.lset (its' := its ++ [u]) hH e (by simp) (r.append (.cons ru .nil)) ?_, rfl, q⟩
  rw [List.length_append, List.length_singleton]
  omega


def rPop : V → List V → Hp → VK → Prop := fun x vs H Q => ∃ l xs y, x = .ref l ∧ vs = [] ∧ H l = some (.lst xs) ∧ xs[xs.length - 1]? = some y ∧ Q y (upd H l (.lst xs.dropLast))
theorem mt_pop : MtM X "list.pop" rPop := by
  intro pins s σ H x vs v us Q I rx rv h
  obtain ⟨l, xs, y, rfl, rfl, hH, hy, q⟩ := h
  cases rx
  have hus := rv.zero
  subst hus
  obtain ⟨z, its, n, r, hl, e⟩ := I.lstM hH
  obtain ⟨u, hu, ru⟩ := r.get hy
  have hy' : its.toArray[its.toArray.size - 1]? = some u := by
    show its.toArray[its.length - 1]? = some u
    rw [← Array.getElem?_toList, ← hl]
    exact hu
  refine call_meets F.slot_list_pop ⟨_, e, rfl⟩ F.entry_list_pop (F.args_list_pop_1 _) (MeetsSeq.list_pop_last l its.toArray n u hy' (by rw [List.size_toArray]; omega)) ⟨e, ?_⟩
  refine ⟨y, _, I.lset (its' := its.dropLast) hH e ?_ r.dropLast ?_, ru, q⟩
  · show its.toArray.eraseIdxIfInBounds (its.toArray.size - 1) = its.dropLast.toArray
    rw [List.size_toArray, List.eraseIdxIfInBounds_toArray, erase_last]
  · rw [List.length_dropLast]
    omega




/-! ### list + list, list += list, list * int -/
def rCat : R2 := fun x y H Q => ∃ l b xs zs, x = .ref l ∧ y = .ref b ∧ H l = some (.lst xs) ∧ H b = some (.lst zs) ∧ xs.length + zs.length ≤ sizeLine ∧ ∀ p, H p = none → Q (.ref p) (upd H p (.lst (xs ++ zs)))
theorem op_cat : OpR X (binaryOp .Add) rCat := by
  intro pins s σ H x y v u Q I rx ry h
  obtain ⟨l, b, xs, zs, rfl, rfl, hH, hB, hz, q⟩ := h
  cases rx
  cases ry
  obtain ⟨z, its, n, r, hl, e⟩ := I.lstM hH
  obtain ⟨z2, its2, n2, r2, hl2, e2⟩ := I.lstM hB
  refine PySem.P.add_list e e2 ?_ (by rw [List.size_toArray, List.size_toArray]; omega)
  have ea : its.toArray ++ its2.toArray = (its ++ its2).toArray := by simp
  rw [ea]
  exact ⟨.ref _, _, I.lnew (t' := s.toks) (r.append r2) (by rw [List.length_append]; omega), rfl, q _ I.fresh⟩
/-- a list times an int (a negative one is nothing) -/
def rRep : R2 := fun x y H Q => ∃ l k xs, x = .ref l ∧ y = .int k ∧ H l = some (.lst xs) ∧ -(2 ^ 63) ≤ k ∧ k < 2 ^ 63 ∧ xs.length * k.toNat ≤ sizeLine ∧
  ∀ p, H p = none → Q (.ref p) (upd H p (.lst (List.replicate k.toNat xs).flatten))
theorem len_rep {α : Type} (xs : List α) (k : Nat) : (List.replicate k xs).flatten.length = k * xs.length := by
  induction k with
  | zero => simp
  | succ k ih => rw [List.replicate_succ, List.flatten_cons, List.length_append, ih, Nat.succ_mul, Nat.add_comm]
theorem op_rep : OpR X (binaryOp .Mult) rRep := by
  intro pins s σ H x y v u Q I rx ry h
  obtain ⟨l, k, xs, rfl, rfl, hH, h1, h2, hz, q⟩ := h
  cases rx
  obtain ⟨t, rfl⟩ := ry
  obtain ⟨z, its, n, r, hl, e⟩ := I.lstM hH
  have hlen : its.toArray.size * k.toNat ≤ sizeLine := by rw [List.size_toArray, ← hl]; exact hz
  have hcap : ¬ its.toArray.size * k.toNat > (2 ^ 63 - 1) / 8 := by
    have : (sizeLine : Nat) ≤ (2 ^ 63 - 1) / 8 := by decide
    omega
  have hfit : ¬ (!Builtin.List.listFitsIndex k) = true := by
    rw [fitsIndex_both h1 h2]
    exact Bool.false_ne_true
  have hlong : ¬ Builtin.List.listTooLong (its.toArray.size * k.toNat) = true := by
    rw [notLongL hlen]
    exact Bool.false_ne_true
  have hnew : List.foldl (fun x1 x2 => x1 ++ x2) #[] (List.replicate (if its.toArray.isEmpty = true then 0 else k.toNat) its.toArray) = (List.replicate k.toNat its).flatten.toArray := by
    have f0 : ∀ m : Nat, List.foldl (fun x1 x2 => x1 ++ x2) #[] (List.replicate m its.toArray) = (List.replicate m its).flatten.toArray := fun m => by
      have := foldl_rep its m []
      rw [List.nil_append] at this
      exact this
    rw [f0]
    cases its with
    | nil => simp
    | cons a r' => rw [if_neg (by simp)]
  refine wpAny_binaryOp_repeat_ref (T := "list") (U := "int") (by decide) ⟨_, e, rfl⟩ (fun s' => typeIs_int s' k t) noFill_list_mul F.fills_int_mul F.slot_int_rmul repeat_list F.slot_int_index.lookup
    (call_meets F.slot_int_rmul (typeIs_int s k t) F.entry_int_rmul (F.args_int_rmul_2 _ _) (int___rmul___int_list k t l its.toArray n)
      ⟨e, rfl, ⟨_, e, rfl⟩, call_meets F.slot_list_mul ⟨_, e, rfl⟩ F.entry_list_mul (F.args_list_mul_2 _ _) (AutoListH.list___mul___list_int_3 l its.toArray n k t hfit hcap hlong) ⟨e, ?_⟩⟩)
  rw [hnew]
  exact ⟨.ref _, _, I.lnew (t' := s.toks) (r.rep k.toNat) (by rw [len_rep, Nat.mul_comm]; exact hz), rfl, q _ I.fresh⟩

/-! ### del xs[i] -/
end

/-! ### xs[a:b] = ys -/
section
variable {prog : Program} {w : World} {A : Around} {E : Value → Shared → Prop} {s : Shared}
end

section
variable {X : Cx}
end
end L2

namespace Att
open PySem PySem.W PySem.Calls PyProof.Rows

/-! ### the script -/
theorem ints_of_wellAll {P : Params} {h : Heap} : ∀ (ns : List Int) (vs : List Value), WellAll P h vs (ns.map WData.int) → IntsAre vs ns := by
  intro ns
  induction ns with
  | nil =>
    intro vs w
    rw [List.map_nil] at w
    cases w
    exact .nil
  | cons n ns ih =>
    intro vs w
    rw [List.map_cons] at w
    cases w with
    | cons a b =>
      cases a
      exact .cons _ _ (ih _ b)

theorem script_of {l : OpenLaw} {n : Nat} (hn : l.most = some n) {P : Params} {h : Heap} {args : List WData} {vals : List Value}
    (hpre : l.row.toRowW.claim.pre args = true) (hwl : WellAll P h vals args) :
    ∃ a vs ns, vals = [Value.ref a] ∧ args = [WData.list (ns.map WData.int)] ∧ h.get? a = some { cls := .type "list", data := .seq vs.toArray } ∧ IntsAre vs ns ∧ ns.length ≤ n := by
  have hsh : WShape.hasAll [] args [.list .int] = true := (pre_splitW hpre).1
  have hc : l.pre.holds [] { args := args } = true := (pre_splitW hpre).2
  obtain ⟨d, r, rfl, h1, h2⟩ := hasAllW_cons hsh
  obtain rfl := hasAllW_nil h2
  obtain ⟨xs, rfl, h3⟩ := hasW_list h1
  obtain ⟨ns, rfl⟩ := items_int h3
  have hlen : ns.length ≤ n := by
    unfold OpenLaw.pre at hc
    have h4 : (WTm.not (.lt (.lit (.int (n : Int))) (.len (.arg 0)))).holds [] { args := [.list (ns.map .int)] } = true := by
      have h4 := (holds_andW hc).1
      rw [hn] at h4
      exact h4
    have h5 := condW_of h4 (w_not (w_lt w_lit (w_len_list (w_arg rfl))))
    rw [List.length_map] at h5
    refine Nat.le_of_not_lt fun q => ?_
    have q' : (n : Int) < ((ns.length : Nat) : Int) := by omega
    first
      | (rw [decide_eq_true q'] at h5; exact absurd h5 (by decide))
      | (simp at h5; omega)
  cases hwl with
  | cons w1 w2 =>
    cases w2
    cases w1 with
    | list ho hall => exact ⟨_, _, ns, rfl, rfl, ho, ints_of_wellAll ns _ hall, hlen⟩

theorem post_true (l : OpenLaw) (args : List WData) : l.row.toRowW.claim.post args (.bool true) args = true :=
  postW_of (r := l.row.toRowW) (X := (true == true))
    (show WShape.has [] (.bool true) .bool = true by first | rfl | decide | simp [WShape.has, WShape.arms, WShape.armsAll])
    (show (WTm.eq .res (.lit (.bool true))).value [] { args := args, res := some (.bool true), after := args } = some (.bool (true == true)) from w_eq_bool (w_res rfl) w_lit) rfl

/-! ### the attachment: holds_open's last premise (the goal 'hc' behind k_head) from a wpAny of the law's body -/

/-- the same from a codeAny of the CALL (for a layer whose function contracts speak of calls) -/
theorem attach_call {l : OpenLaw} {n : Nat} {q : Program} {loose : List Str} {XP : (Str → Option Value) → Heap → Prop} {YP : World → Heap → Prop} {d : DefRec}
    (hn : l.most = some n) (hdf : d.params.defaults = [])
    (call : ∀ (w : World) (s₀ s₁ : Shared) (mg mb : Str → Option Value) (fa : Addr) (o : Obj) (pm cd doc : Value) (a : Addr) (vs : List Value) (ns : List Int),
      Ground q loose [] XP w s₀ mg mb s₁.heap → YP w s₁.heap →
      s₁.heap.get? fa = some o → o.data = .func (docDef d.name d.params d.body d.scope pm cd doc) → s₁.heap.CodeRec cd d.name → mg d.name = some (.ref fa) →
      s₁.heap.get? a = some { cls := .type "list", data := .seq vs.toArray } → IntsAre vs ns → ns.length ≤ n → s₁.gens = #[] →
      codeAny (model l.prog w) callerA (.call (.ref fa) ⟨[.ref a], []⟩) (fun r s' => r = .ok (.ret (.bool true)) ∧ OldK s₁.heap s'.heap ∧ s'.os = s₁.os ∧ AllBare s'.gens) s₁) :
    WalkO q loose XP YP l.row.toRowW d [] (fun f vs => PySem.call f vs) := by
  intro w s₀ s₁ mg mb G Y fa o pm cd doc dV kV ho hd hcd hD hmg hg args vals as hpre hlay hrd hwl hlo
  obtain rfl : dV = .none := Dflts.none hD hdf
  obtain rfl : kV = .none := Dflts.noKw hD
  obtain ⟨a, vs, ns, rfl, rfl, hobj, hints, hlen⟩ := script_of hn hpre hwl
  refine enter_call (codeAny_mono (call w s₀ s₁ mg mb fa o pm cd doc a vs ns G Y ho (fd_plain hd) hcd hmg hobj hints hlen hg) fun r s' hq => ?_)
  obtain ⟨rfl, h2, h3, h4⟩ := hq
  exact ⟨.inl ⟨.bool true, .bool true, [], rfl, fun _ => rfl, .bool true, post_true l _, fun _ => ⟨List.Pairwise.nil, fun _ hm => (nomatch hm)⟩⟩, h2, h3, h4⟩


/-! ### rules over ANY heap (no ledger) from facts about the written part K: the library's own take a ledger (News) for what they write -/
section
variable {prog : Program} {w : World} {A : Around} {E : Value → Shared → Prop} {s : Shared} {K : Frag}





/-! the whole heap as the ledger: makes every rule that writes through a ledger a rule over any heap -/

end
end Att

namespace L2
open PySem PySem.Spec PyProof.Rows

theorem vals_ints : ∀ {vs : List Value} {ns : List Int}, IntsAre vs ns → Vals (ns.map V.int) vs
  | _, _, .nil => .nil
  | _, _, .cons n t h => .cons ⟨t, rfl⟩ (vals_ints h)

/-- nothing is tracked but the script, known to the object (or it is an object of the module) -/
def Only (H : Hp) : Prop := ∀ b, H b = none ∨ ∃ o xs, H b = some (.frz o (.lst xs))

/-- THE HEAD: the law's promise, at the heap behind the top. F, the promise of the law's def, may use that base is part of the heap (so K.In base, base.Ns mainGlobals mg stand in Mod) -/
theorem law_call {P : Program} {w : World} {K : PySem.W.Frag} {mg mb : Str → Option Value} {CX : CXT} {k : Nat} {fa a : Addr} {fd : FuncData} {x : Str} {sp : Sp} {s₁ : Shared} {vs : List Value} {ns : List Int}
    (KX : K.In s₁.heap) (hns : s₁.heap.Ns mainGlobals mg) (hb : s₁.heap.Ns builtinsNs mb) (hbb : ∀ x : Str, x ≠ "__name__" → mb x = bootBuiltins x) (hlim : s₁.heap.NoLimit) (hg : s₁.gens = #[])
    (ha : s₁.heap.get? a = some { cls := .type "list", data := .seq vs.toArray }) (hi : IntsAre vs ns) (hl : ns.length ≤ sizeLine) (hr : Room k callerA)
    (F : ∀ base : Heap, K.In base → base.Ns mainGlobals mg → FnOk P w K mg base CX k fa fd [x] sp) (hbind : ∀ (s : Shared) (u : Value), BindsTo s fd ⟨[u], []⟩ [(x, u)])
    (hsp : ∀ H : Hp, Only H → SqL K H a (ns.map V.int) → sp [.ref a] H (fun v _ => v = .bl true) fun _ _ _ => False)
    (hCX : ∀ H e s', CX [] H s₁ (fun _ _ _ => False) e s' → False) :
    codeAny (model P w) callerA (.call (.ref fa) ⟨[.ref a], []⟩) (fun r s' => r = .ok (.ret (.bool true)) ∧ OldK s₁.heap s'.heap ∧ s'.os = s₁.os ∧ AllBare s'.gens) s₁ := by
  have rv := vals_ints hi
  have lenV := hi.length
  -- from an abstract heap in which nothing but the script may be tracked
  have core : ∀ H : Hp, Only H → SqL K H a (ns.map V.int) → HOk P w H s₁.heap → (∀ b, H b ≠ none → b = a) → (H a ≠ none → K.lookup a = none) →
      codeAny (model P w) callerA (.call (.ref fa) ⟨[.ref a], []⟩) (fun r s' => r = .ok (.ret (.bool true)) ∧ OldK s₁.heap s'.heap ∧ s'.os = s₁.os ∧ AllBare s'.gens) s₁ := by
    intro H hO hS hok hA hK
    have base_of : ∀ {b : Addr} {o : Obj}, s₁.heap.get? b = some o → H b = none → (hidT s₁.heap H).get? b = some o := fun e n => hidT_get e n
    have noA : ∀ {b : Addr} {o : Obj} {es : Array DictEntry} {ep : Nat}, s₁.heap.get? b = some o → o.data = .dict es ep → H b = none := fun {b o es ep} e d => by
      cases q : H b with
      | none => rfl
      | some u =>
        have e' : b = a := hA b (by rw [q]; simp)
        subst e'
        rw [ha] at e; cases e
        have d' : Data.seq vs.toArray _ = Data.dict es ep := d
        cases d'
    have nsK : ∀ {b : Addr} {m : Str → Option Value}, s₁.heap.Ns b m → (hidT s₁.heap H).Ns b m := fun {b m} ⟨o, es, ep, e, d, r⟩ => ⟨o, es, ep, base_of e (noA e d), d, r⟩
    have hKb : K.In (hidT s₁.heap H) := fun b o e => base_of (KX b o e) (by
      cases q : H b with
      | none => rfl
      | some u =>
        have e' : b = a := hA b (by rw [q]; simp)
        subst e'
        rw [hK (by rw [q]; simp)] at e; cases e)
    have hM : Mod K mg (hidT s₁.heap H) := ⟨hKb, nsK hns, ⟨mb, nsK hb, hbb⟩, let ⟨mc, h1, h2⟩ := hlim; ⟨mc, nsK h1, h2⟩⟩
    have e0 : Env0 P w K mg (hidT s₁.heap H) callerA [] s₁ H := ⟨rfl, hM, fun b o e => of_hidT e, Nat.le_of_eq (hidT_size _ _), trivial, fun b hb => absurd (show b ∈ ([] : List Addr) from hb) (by simp), hok, .of_eq hg⟩
    refine codeAny_mono ((F _ hKb (nsK hns)).run callerA [] s₁ H ⟨[.ref a], []⟩ [.ref a] [.ref a] _ _ hr e0 (hbind s₁ (.ref a)) (.cons rfl .nil) (hsp H hO hS)) fun r s' h => ?_
    cases r with
    | error e => exact (hCX H e s' h).elim
    | ok fl =>
      cases fl with
      | next => exact False.elim h
      | brk => exact False.elim h
      | cont => exact False.elim h
      | ret u =>
        obtain ⟨v, H', os, bare, un, hok', r', q⟩ := h
        have q' : v = .bl true := q
        subst q'
        obtain rfl : u = Value.bool true := r'
        refine ⟨rfl, OldK.of_keep fun b o e => ?_, os, bare⟩
        cases q : H b with
        | none => exact un.keep b o e q (by intro z; exact absurd (show b ∈ ([] : List Addr) from z) (by simp)) (by simp)
        | some u =>
          rcases hO b with z | ⟨ob, xs, z⟩
          · rw [q] at z; cases z
          · have z2 := un.frzs b ob _ z
            obtain ⟨e1, _⟩ := hok b _ z
            obtain ⟨e2, _⟩ := hok' b _ z2
            rw [e] at e1; cases e1
            exact e2
  cases hk : K.lookup a with
  | some o =>
    -- the script is one of the module's own objects
    have e := KX a o hk
    rw [ha] at e
    cases e
    refine core (fun _ => none) (fun _ => .inl rfl) (.inr ⟨_, vs.toArray, _, hk, rfl, rfl, rfl, by rw [List.size_toArray, lenV]; exact hl, by simpa using rv⟩) (fun b u z => by have z' : (none : Option HO) = some u := z; cases z') (fun b z => absurd rfl z) fun z => absurd rfl z
  | none =>
    refine core (fun b => if b = a then some (.frz { cls := .type "list", data := .seq vs.toArray } (.lst (ns.map V.int))) else none) (fun b => ?_) (.inl (.inr ⟨{ cls := .type "list", data := .seq vs.toArray }, if_pos rfl⟩)) (fun b u z => ?_) (fun b z => ?_) fun _ => hk
    · by_cases hb : b = a
      · exact .inr ⟨_, _, if_pos hb⟩
      · exact .inl (if_neg hb)
    · by_cases hb : b = a
      · have z' := (if_pos hb).symm.trans z
        cases z'
        subst hb
        exact ⟨ha, by rw [List.length_map]; exact hl, vs, _, rv, ha⟩
      · have z' := (if_neg hb).symm.trans z
        cases z'
    · by_cases hb : b = a
      · exact hb
      · exact absurd (if_neg hb) z
end L2

namespace L2
open PySem PySem.Spec PyProof.Rows


/-- the goal that k_head leaves (case hc), from the law's promise. F gives the function object fd (K's own) once, then the promise over every base -/
theorem walk_of {l : PySem.W.OpenLaw} {n k : Nat} {q : Program} {loose : List Str} {XP : (Str → Option Value) → Heap → Prop} {YP : World → Heap → Prop} {d : DefRec} {K : Params → PySem.W.Frag} {CX : World → CXT} {sp : World → Sp} {x : Str}
    (hn : l.most = some n) (hn2 : n ≤ sizeLine) (hdf : d.params.defaults = []) (hr : Room k callerA)
    (hY : ∀ (w : World) (h : Heap), YP w h → (K w.params).In h)
    (F : ∀ (w : World) (mg : Str → Option Value) (fa : Addr) (h : Heap), (K w.params).In h → h.Ns mainGlobals mg → mg d.name = some (.ref fa) →
      ∃ fd : FuncData, (∀ (s : Shared) (u : Value), BindsTo s fd ⟨[u], []⟩ [(x, u)]) ∧
        ∀ base : Heap, (K w.params).In base → base.Ns mainGlobals mg → FnOk l.prog w (K w.params) mg base (CX w) k fa fd [x] (sp w))
    (hsp : ∀ (w : World) (H : Hp) (a : Addr) (ns : List Int), ns.length ≤ n → Only H → SqL (K w.params) H a (ns.map V.int) → sp w [.ref a] H (fun v _ => v = .bl true) fun _ _ _ => False)
    (hCX : ∀ (w : World) (H : Hp) (s : Shared) (e : Value) (s' : Shared), CX w [] H s (fun _ _ _ => False) e s' → False) :
    PySem.W.WalkO q loose XP YP l.row.toRowW d [] (fun f vs => PySem.call f vs) := by
  refine Att.attach_call hn hdf fun w s₀ s₁ mg mb fa o pm cd doc a vs ns G Y ho hd hcd hmg hobj hints hlen hg => ?_
  have KX := hY w _ Y
  obtain ⟨fd, hb, hF⟩ := F w mg fa _ KX G.T.g hmg
  exact law_call KX G.T.g G.T.b G.T.builtins G.T.nolimit hg hobj hints (Nat.le_trans hlen hn2) hr hF hb (fun H hO hS => hsp w H a ns hlen hO hS) fun H e s' => hCX w H s₁ e s'
end L2

/- THE LAST THEOREM (shape; LID, My.* are yours):
   My.Adr: a structure of the addresses that your layer names (classes, functions); My.Txt K t: a structure (Prop) of the equations over K;
   My.txt_mk : {K} {implicit addresses ..} (e1 : nsIn K mainGlobals "law" = some (some (.ref f))) (e2 : K.lookup f = some ⟨oc, od, .func (fnOf "law" "law" params body scope dV kV doc pm an cdv ct), sl⟩) (e3 : codeIn K cdv "law" = true) .. : ∃ t, My.Txt K t

set_option maxRecDepth 100000 in
set_option maxHeartbeats 0 in
theorem PySem.Challenge.cw_LID_holds : PySem.Challenge.rw_LID.Holds := by
  w_on; o_law; k_head; (case hw => w_witness2)
  k_fill
  refine L2.walk_of (l := PySem.Challenge.rw_LID) (n := 63) (k := 40) (x := "script") (CX := fun w => ..) (sp := fun _ => My.sp_law) rfl (by decide) rfl ⟨rfl, by decide, by decide⟩ (fun w h Y => PySem.W.kIn_of Y) ?F ?S ?C
  case F =>
    intro w mg fa h KX G hmg
    have T : ∃ t, My.Txt (L2.KOf KX) t := by
      dsimp only [L2.KOf]                          -- K must stand as «<heap const> w.params» for k_is
      refine' My.txt_mk ?e1 ?e2 ?e3 ..
      (case e1 => PySem.W.k_is)                    -- in the order: a name -> its address -> its object -> its parts
      (case e2 => PySem.W.k_is)
      ..
    obtain ⟨t, T⟩ := T
    have e0 := hmg.symm.trans (PySem.W.mg_of KX G T.law)
    cases e0                                       -- fa is the law's own address
    exact ⟨_, fun s u => .of_eq rfl, fun base kb nb => My.law_fn T kb nb⟩     -- if «.of_eq rfl» comes too early: refine' ⟨_, ?b, fun base kb nb => My.law_fn T kb nb⟩; exact fun s u => .of_eq rfl
  case S => exact fun w H a ns hl hO hS => ..
  case C => exact ..
(the tactic k_is has no namespace: write k_is) -/

/-! SHORT WORDS over the layer: a def of the text, its body, what a loop and a test want. -/
namespace L2
open PySem PySem.Spec PyProof.Rows

/-! ### the text by places -/
/-- the j-th statement of a class's body -/
def inClass (s : Stmt) (j : Nat) : Stmt := match s with
  | .ClassDef _ _ _ body _ _ _ _ _ _ _ => body.getD j (.Pass ⟨0, 0, 0, 0⟩)
  | _ => .Pass ⟨0, 0, 0, 0⟩
def defArgs (s : Stmt) : Arguments := match s with
  | .FunctionDef _ a _ _ _ _ _ _ _ _ => a
  | _ => { posonlyargs := [], args := [], vararg := none, kwonlyargs := [], kw_defaults := [], kwarg := none, defaults := [] }
def defBody (s : Stmt) : List Stmt := match s with
  | .FunctionDef _ _ b _ _ _ _ _ _ _ => b
  | _ => []
def defScope (s : Stmt) : Scope := match s with
  | .FunctionDef _ _ _ _ _ _ sc _ _ _ => sc
  | _ => { kind := .function, names := [], isGenerator := false, isCoroutine := false }

/-! ### no exception leaves a def -/
abbrev CX0 : CXT := fun _ _ _ _ _ _ => False
abbrev E0 : XK := fun _ _ _ => False
theorem pass0 {X : Cx} : Passes CX0 X E0 := fun _ _ _ _ _ _ _ h => h.elim

/-! ### a def (or method) of the text as it stands behind the top -/
structure Fun (K : PySem.W.Frag) (x qual : Str) (st : Stmt) (f : Addr) (fd : FuncData) : Prop where
  ex : ∃ (oc : Value) (od : Option Addr) (kV doc pm : Value) (an : Option Addr) (cdv ct : Value) (osl : Array (Option Value)),
    fd = PySem.W.fnOf x qual (defArgs st) (defBody st) (defScope st) .none kV doc pm an cdv ct ∧ K.lookup f = some ⟨oc, od, .func fd, osl⟩ ∧ PySem.W.codeIn K cdv qual = true
  kp : PySem.W.keepIn K (.ref f) = true
section
variable {P : Program} {w : World} {K : PySem.W.Frag} {mg : Str → Option Value} {base : Heap}
/-- THE RULE for a def: its body as a term of rules, and the reading of that term -/
theorem Fun.ok {x qual : Str} {st : Stmt} {f : Addr} {fd : FuncData} {N ps : List Str} {k : Nat} {sp : Sp} (F : Fun K x qual st f fd) (S : FnScope N ps (defScope st)) (len : ∀ vs H Q E, sp vs H Q E → vs.length = ps.length)
    (hbody : ∀ (cdv : Value) (A : Around) (outer : List Env) (s : Shared) (H : Hp) (vs : List V) (Q : VK) (E : XK), Room k (A.deeper (envOfC qual (defScope st) s.heap.objs.size f cdv)) → sp vs H Q E →
      ∃ t, PSs (cxOf CX0 P w K mg base N qual (defScope st) f cdv A outer s H E).nox (defBody st) t ∧ t { nx := fun _ H' => Q .non H', rt := Q } (start N vs) H) : FnOk P w K mg base CX0 (k + 1) f fd ps sp := by
  obtain ⟨oc, od, kV, doc, pm, an, cdv, ct, osl, rfl, lk, hcd⟩ := F.ex
  refine fn_of lk hcd S len fun A outer s H vs Q E hr hsp => ?_
  obtain ⟨t, h, q⟩ := hbody cdv A outer s H vs Q E hr hsp
  exact ⟨t, h.nox, q⟩
/-- how its arguments bind (no defaults): h is «fun _ _ _ _ _ _ us hl => match us, hl with | [_, _], _ => rfl», one _ a parameter -/
theorem Fun.binds {x qual : Str} {st : Stmt} {f : Addr} {fd : FuncData} {ps : List Str} (F : Fun K x qual st f fd)
    (h : ∀ (kV doc pm : Value) (an : Option Addr) (cdv ct : Value) (us : List Value), us.length = ps.length → bindArgs (PySem.W.fnOf x qual (defArgs st) (defBody st) (defScope st) .none kV doc pm an cdv ct) ⟨us, []⟩ = pure (ps.zip us)) : Binds K fd ps [] := by
  obtain ⟨oc, od, kV, doc, pm, an, cdv, ct, osl, rfl, lk, hcd⟩ := F.ex
  exact .all (h kV doc pm an cdv ct)
theorem fun_mk {x qual : Str} {st : Stmt} {f : Addr} {oc : Value} {od an : Option Addr} {osl : Array (Option Value)} {kV doc pm cdv ct : Value} (l : K.lookup f = some ⟨oc, od, .func (PySem.W.fnOf x qual (defArgs st) (defBody st) (defScope st) .none kV doc pm an cdv ct), osl⟩)
    (c : PySem.W.codeIn K cdv qual = true) (k : PySem.W.keepIn K (.ref f) = true) : Fun K x qual st f (PySem.W.fnOf x qual (defArgs st) (defBody st) (defScope st) .none kV doc pm an cdv ct) := ⟨⟨oc, od, kV, doc, pm, an, cdv, ct, osl, rfl, l, c⟩, k⟩
end

/-! ### expressions in short: the name that stands in the i-th slot -/
section
variable {X : Cx}
theorem pv (i : Nat) {x : Str} {pos : Pos} (hN : X.N[i]? = some x := by rfl) (hv : Vis X.env.scope x := by first | exact Or.inl rfl | exact Or.inr (Or.inl rfl) | exact Or.inr (Or.inr rfl)) (hd : (x == ("__debug__" : Str)) = false := by decide)
    (hcd : (x == ("__classdict__" : Str)) = false := by decide) : PE X (.Name x pos) (tVar i) := pe_var hN hv hd hcd
end

/-! ### tests -/
theorem iteF {A B : Prop} (h : B) : if false = true then A else B := by
  rw [if_neg Bool.false_ne_true]
  exact h
theorem iteT {A B : Prop} (h : A) : if true = true then A else B := by
  rw [if_pos rfl]
  exact h
theorem ite2 {c A B : Prop} [Decidable c] (h1 : c → A) (h2 : ¬ c → B) : if c then A else B := by
  by_cases h : c
  · rw [if_pos h]
    exact h1 h
  · rw [if_neg h]
    exact h2 h

/-! ### heaps -/
/-- all that was tracked is as it was -/
def Same (H H' : Hp) : Prop := ∀ b o, H b = some o → H' b = some o
theorem Same.refl (H : Hp) : Same H H := fun _ _ h => h
theorem Same.trans {H H1 H2 : Hp} (a : Same H H1) (b : Same H1 H2) : Same H H2 := fun c o h => b c o (a c o h)
theorem Same.free {H H' : Hp} (e : Same H H') {l : Addr} (h : H' l = Option.none) : H l = Option.none := by
  cases q : H l with
  | none => rfl
  | some o =>
    rw [e l o q] at h
    cases h
theorem Same.seq {K : PySem.W.Frag} {H H' : Hp} {a : Addr} {xs : List V} (e : Same H H') (h : SqL K H a xs) : SqL K H' a xs := by
  rcases h with (h | ⟨o, h⟩) | h
  · exact .inl (.inl (e _ _ h))
  · exact .inl (.inr ⟨o, e _ _ h⟩)
  · exact .inr h

end L2
set_option maxHeartbeats 4000000

/-! ## trees, apart from any heap -/
namespace Sw
/-- two lists, item by item -/
inductive All2 {α β : Type} (R : α → β → Prop) : List α → List β → Prop where
  | nil : All2 R [] []
  | cons {a : α} {b : β} {as : List α} {bs : List β} : R a b → All2 R as bs → All2 R (a :: as) (b :: bs)
namespace All2
variable {α β : Type} {R S : α → β → Prop}
theorem length {as : List α} {bs : List β} (h : All2 R as bs) : bs.length = as.length := by
  induction h with
  | nil => rfl
  | cons _ _ ih => rw [List.length_cons, List.length_cons, ih]
theorem imp {as : List α} {bs : List β} (f : ∀ a b, R a b → S a b) (h : All2 R as bs) : All2 S as bs := by
  induction h with
  | nil => exact .nil
  | cons r _ ih => exact .cons (f _ _ r) ih
theorem append {as as' : List α} {bs bs' : List β} (h : All2 R as bs) (g : All2 R as' bs') : All2 R (as ++ as') (bs ++ bs') := by
  induction h with
  | nil => exact g
  | cons r _ ih => exact .cons r ih
theorem one {a : α} {b : β} (h : R a b) : All2 R [a] [b] := .cons h .nil
theorem get {as : List α} {bs : List β} (h : All2 R as bs) : ∀ {i : Nat} {b : β}, bs[i]? = some b → ∃ a, as[i]? = some a ∧ R a b := by
  induction h with
  | nil => intro i b e; simp at e
  | cons r _ ih =>
    intro i b e
    cases i with
    | zero => exact ⟨_, rfl, by have e' := Option.some.inj e; rw [← e']; exact r⟩
    | succ i => exact ih (i := i) (by simpa using e)
theorem take (n : Nat) : ∀ {as : List α} {bs : List β}, All2 R as bs → All2 R (as.take n) (bs.take n) := by
  induction n with
  | zero => intro as bs _; rw [List.take_zero, List.take_zero]; exact .nil
  | succ n ih =>
    intro as bs h
    cases h with
    | nil => exact .nil
    | cons r h => exact .cons r (ih h)
theorem drop (n : Nat) : ∀ {as : List α} {bs : List β}, All2 R as bs → All2 R (as.drop n) (bs.drop n) := by
  induction n with
  | zero => intro as bs h; exact h
  | succ n ih =>
    intro as bs h
    cases h with
    | nil => exact .nil
    | cons r h => exact ih h
theorem of_get : ∀ {bs : List β} {as : List α}, bs.length = as.length → (∀ (i : Nat) b, bs[i]? = some b → ∃ a, as[i]? = some a ∧ R a b) → All2 R as bs
  | [], [], _, _ => .nil
  | [], _ :: _, h, _ => by simp at h
  | _ :: _, [], h, _ => by simp at h
  | b :: bs, a :: as, h, g => by
    obtain ⟨a', e, r⟩ := g 0 b rfl
    have e' := Option.some.inj e
    refine .cons (by rw [e']; exact r) (of_get (by simpa using h) fun i b e => ?_)
    exact g (i + 1) b (by simpa using e)
theorem map_eq {f : α → β} {as : List α} {bs : List β} (h : All2 (fun a b => b = f a) as bs) : bs = as.map f := by
  induction h with
  | nil => rfl
  | cons r _ ih => rw [List.map_cons, ih, r]
end All2
/-- a tree -/
inductive T where
  | node (ts : List T)

namespace T
def kids : T → List T | .node ts => ts
mutual
def parts : T → Nat | .node ts => 1 + partsL ts
def partsL : List T → Nat
  | [] => 0
  | t :: ts => parts t + partsL ts
end
mutual
def deep : T → Nat | .node ts => deepL ts
/-- one more than the deepest of them; 0 of none -/
def deepL : List T → Nat
  | [] => 0
  | t :: ts => max (deep t + 1) (deepL ts)
end
mutual
def beq : T → T → Bool | .node ts, .node us => beqL ts us
def beqL : List T → List T → Bool
  | [], [] => true
  | t :: ts, u :: us => beq t u && beqL ts us
  | _, _ => false
end
mutual
theorem beq_iff : ∀ t u : T, beq t u = true ↔ t = u
  | .node ts, .node us => by
    unfold beq
    rw [beqL_iff ts us]
    exact ⟨fun h => by rw [h], fun h => by injection h⟩
theorem beqL_iff : ∀ ts us : List T, beqL ts us = true ↔ ts = us
  | [], [] => by simp [beqL]
  | [], _ :: _ => by simp [beqL]
  | _ :: _, [] => by simp [beqL]
  | t :: ts, u :: us => by
    unfold beqL
    rw [Bool.and_eq_true, beq_iff t u, beqL_iff ts us]
    simp
end
theorem beq_self (t : T) : beq t t = true := (beq_iff t t).mpr rfl
instance : DecidableEq T := fun t u => if h : beq t u = true then isTrue ((beq_iff t u).mp h) else isFalse fun e => h ((beq_iff t u).mpr e)

theorem parts_node (ts : List T) : (T.node ts).parts = 1 + partsL ts := by unfold parts; rfl
theorem deep_node (ts : List T) : (T.node ts).deep = deepL ts := by unfold deep; rfl
theorem partsL_nil : partsL [] = 0 := by unfold partsL; rfl
theorem partsL_cons (t : T) (ts : List T) : partsL (t :: ts) = t.parts + partsL ts := by rw [partsL]
theorem deepL_nil : deepL [] = 0 := by unfold deepL; rfl
theorem deepL_cons (t : T) (ts : List T) : deepL (t :: ts) = max (t.deep + 1) (deepL ts) := by rw [deepL]
theorem parts_pos (t : T) : 1 ≤ t.parts := by cases t; rw [parts_node]; omega
theorem parts_kids (t : T) : t.parts = 1 + partsL t.kids := by cases t; rw [parts_node]; rfl

theorem partsL_append : ∀ a b : List T, partsL (a ++ b) = partsL a + partsL b
  | [], b => by rw [partsL_nil, List.nil_append]; omega
  | t :: a, b => by rw [List.cons_append, partsL_cons, partsL_cons, partsL_append a b]; omega
theorem deepL_append : ∀ a b : List T, deepL (a ++ b) = max (deepL a) (deepL b)
  | [], b => by rw [deepL_nil, List.nil_append]; omega
  | t :: a, b => by rw [List.cons_append, deepL_cons, deepL_cons, deepL_append a b]; omega
theorem len_le_parts : ∀ ts : List T, ts.length ≤ partsL ts
  | [] => by simp
  | t :: ts => by
    have h1 := parts_pos t
    have h2 := len_le_parts ts
    rw [partsL_cons, List.length_cons]
    omega
mutual
theorem deep_lt : ∀ t : T, t.deep < t.parts
  | .node ts => by
    have h := deepL_le ts
    rw [deep_node, parts_node]
    omega
theorem deepL_le : ∀ ts : List T, deepL ts ≤ partsL ts
  | [] => by rw [deepL_nil]; omega
  | t :: ts => by
    have h1 := deep_lt t
    have h2 := deepL_le ts
    rw [deepL_cons, partsL_cons]
    omega
end
theorem partsL_take_drop (n : Nat) (ts : List T) : partsL ts = partsL (ts.take n) + partsL (ts.drop n) := by
  rw [← partsL_append, List.take_append_drop]
theorem mem_parts : ∀ {ts : List T} {t : T}, t ∈ ts → t.parts ≤ partsL ts
  | _ :: ts, t, h => by
    rw [partsL_cons]
    rcases List.mem_cons.mp h with rfl | h
    · omega
    · have := mem_parts h
      omega
theorem mem_deep : ∀ {ts : List T} {t : T}, t ∈ ts → t.deep + 1 ≤ deepL ts
  | _ :: ts, t, h => by
    rw [deepL_cons]
    rcases List.mem_cons.mp h with rfl | h
    · omega
    · have := mem_deep h
      omega
end T
end Sw

/-! ## more rules over the layer: comprehensions, whole slices, sums, greatest, extend by a tuple, isinstance -/
namespace Sw
open PySem PySem.Spec PyProof.Rows L2

abbrev Sg := List (Option V)
/-! ### a comprehension -/
/-- where a comprehension's block runs -/
def blk (X : Cx) (scope : Scope) (cl : List (Str × Addr)) (C : Addr) (N : List Str) (s : Shared) (H : Hp) (fp : List Addr) (pins : List (Addr × Obj)) : Cx :=
  { X with N := N, s₀ := s, H₀ := H, env := compEnvC scope cl C X.env, outer := X.stack, ex := fp, fn := fun _ => false, calm := true, pn := X.pn ++ pins, xe := fun _ _ => False }

/-- the names of the block that the def around has as cells: y stands in slot j there -/
def FrOk (X : Cx) (scope : Scope) : List Str → List Nat → Prop
  | [], [] => True
  | y :: fr, j :: js => (X.N[j]? = some y ∧ X.env.scope.names.lookup y = some .cell ∧ (relabel scope X.env).names.lookup y = some .cell) ∧ FrOk X scope fr js
  | _, _ => False
theorem FrOk.len {X : Cx} {scope : Scope} : ∀ {fr : List Str} {js : List Nat}, FrOk X scope fr js → fr.length = js.length
  | [], [], _ => rfl
  | _ :: _, _ :: _, h => congrArg (· + 1) (FrOk.len h.2)
theorem FrOk.get {X : Cx} {scope : Scope} : ∀ {fr : List Str} {js : List Nat}, FrOk X scope fr js → ∀ {i : Nat} {y : Str}, fr[i]? = some y →
    ∃ j : Nat, js[i]? = some j ∧ X.N[j]? = some y ∧ X.env.scope.names.lookup y = some .cell ∧ (relabel scope X.env).names.lookup y = some .cell
  | [], [], _, i, y, e => by simp at e
  | z :: fr, j :: js, h, 0, y, e => by
    have e' : z = y := by simpa using e
    subst e'
    exact ⟨j, rfl, h.1⟩
  | z :: fr, j :: js, h, i + 1, y, e => by
    obtain ⟨k, h1, h2⟩ := FrOk.get h.2 (i := i) (y := y) (by simpa using e)
    exact ⟨k, by simpa using h1, h2⟩

/-- what the block's scope must be -/
structure LcOk (X : Cx) (scope : Scope) (x : Str) (fr : List Str) (js : List Nat) (cl : List (Str × Addr)) : Prop where
  kind : scope.kind = .function
  clos : closureFor scope X.env = pure cl
  cell : ∀ y ∈ scope.names, y.2 ≠ .cell
  loc : ∀ y ∈ scope.names, y.2 = .local → scope.names.lookup y.1 = some .local
  var : scope.names.lookup x = some .local
  sub : ∀ y c, cl.lookup y = some c → X.env.cells.lookup y = some c
  has : ∀ y, ((relabel scope X.env).names.lookup y = some .cell ∨ (relabel scope X.env).names.lookup y = some .free) → ∃ c, cl.lookup y = some c
  frk : FrOk X scope fr js
  nd : (x :: fr).Nodup

section
variable {X : Cx} {pins : List (Addr × Obj)} {σ : Sg} {H : Hp} {s : Shared} {scope : Scope} {cl : List (Str × Addr)} {x : Str} {fr : List Str} {js : List Nat} {fp : List Addr}

theorem blk_ok {N : List Str} (I : Inv X pins σ H s) (L : LcOk X scope x fr js cl) (hc : X.calm = true) (hfp : ∀ b ∈ fp, FpOk X pins H b) (hsz : ∀ b ∈ fp, b < s.heap.objs.size) :
    (blk X scope cl s.heap.objs.size N s H fp pins).Ok where
  mod := I.ok.mod
  kind := L.kind
  glob := I.ok.glob
  blt := I.ok.blt
  above := Nat.le_refl _
  inj := fun y z c h1 h2 => I.ok.inj y z c (L.sub y c h1) (L.sub z c h2)
  has := fun y hy => L.has y hy
  cab := fun y c h _ => absurd (show false = true from h) Bool.false_ne_true
  hd := fun _ => I.ok.hd hc
  frames := I.ok.frames
  stk := .inl rfl
  exf := fun b hb => ⟨Nat.ne_of_lt (hsz b hb), fun y c h => (hfp b hb).2.2.2.2.1 y c (L.sub y c h)⟩
  bs := I.bs
  bsz := Nat.le_trans I.ok.bsz I.sz
  noex := fun b o e hb => by
    rcases (hfp b hb).2.2.2.1 with z | z
    · exact I.ok.noex b o e z
    · exact absurd (Nat.lt_of_lt_of_le (Nat.lt_of_lt_of_le (Heap.lt_size e) I.ok.bsz) z) (Nat.lt_irrefl _)
  exfs := fun b hb z => by
    rcases List.mem_cons.mp (I.stkSub b z) with e | e
    · exact (hfp b hb).2.1 e
    · exact (hfp b hb).2.2.1 e
  funs := I.stack
  frf := I.stkFree

/-- the values of the names from around -/
def frv (σ : Sg) (js : List Nat) : Sg := js.map fun j => (σ[j]?).getD none

theorem blk_inv {h1 : Heap} {m1 : Str → Option Value} {tk : Nat} (I : Inv X pins σ H s) (L : LcOk X scope x fr js cl) (hc : X.calm = true) (hfp : ∀ b ∈ fp, FpOk X pins H b) (hsz : ∀ b ∈ fp, b < s.heap.objs.size)
    (hn : h1.Ns s.heap.objs.size m1) (hk : ∀ b o, s.heap.get? b = some o → h1.get? b = some o) :
    Inv (blk X scope cl s.heap.objs.size (x :: fr) s H fp pins) [] (none :: frv σ js) H { s with heap := h1, toks := tk } := by
  refine ⟨blk_ok I L hc hfp hsz, rfl, I.bare, Un.kept hk, ⟨m1, hn, fun i y v e1 e2 _ => ?_⟩, fun y c e => ?_, I.hok.fresh (Nat.le_refl _), fun y c e => I.freeC y c (L.sub y c e), fun p hp => ?_, I.hok.kept hk, ?_⟩
  · cases i with
    | zero => exact absurd e2 (by simp)
    | succ i =>
      have e1' : fr[i]? = some y := by simpa [blk] using e1
      obtain ⟨j, hj, hN, hcell, hrel⟩ := L.frk.get e1'
      have e2' : σ[j]? = some (some v) := by
        have q : (frv σ js)[i]? = some (some v) := by simpa using e2
        unfold frv at q
        rw [List.getElem?_map, hj] at q
        have q' : (σ[j]?).getD none = some v := by simpa using q
        cases hs : σ[j]? with
        | none => rw [hs] at q'; cases q'
        | some o => rw [hs] at q'; exact congrArg some q'
      obtain ⟨m, _, hl⟩ := I.loc
      obtain ⟨u, r, lk⟩ := hl j y v hN e2' (.inr (.inl hcell))
      refine ⟨u, r, .inr ⟨.inl hrel, ?_⟩⟩
      rcases lk with ⟨hloc, _⟩ | ⟨_, c, hc1, hc2⟩
      · have : X.env.scope.names.lookup y = some .local := hloc
        rw [hcell] at this; cases this
      · obtain ⟨c', hc'⟩ := L.has y (.inl hrel)
        have e3 := L.sub y c' hc'
        rw [hc1] at e3; cases e3
        exact ⟨c, hc', hc2.keeps hk⟩
  · obtain ⟨v, hv⟩ := I.cell y c (L.sub y c e)
    exact ⟨v, hv.keeps hk⟩
  · have hp' : p ∈ X.pn ++ pins := by simpa [blk] using hp
    obtain ⟨a1, a2, a3, a4, a5⟩ := I.pin p hp'
    refine ⟨hk _ _ a1, a2, Nat.ne_of_lt (Heap.lt_size a1), fun z => ?_, a5⟩
    rcases List.mem_cons.mp (I.stkSub _ z) with e | e
    · exact a3 e
    · exact a4 e
  · show (none :: frv σ js).length = (x :: fr).length
    simp [frv, L.frk.len]

/-- back from the block -/
theorem blk_back {H' : Hp} {s' : Shared} {h' : Heap} {σ' : Sg} {N : List Str} {pins' : List (Addr × Obj)} (I : Inv X pins σ H s) (J : Inv (blk X scope cl s.heap.objs.size N s H fp pins) pins' σ' H' s') (hfp : ∀ b ∈ fp, FpOk X pins H b)
    (hsb : Heap.SameBut s.heap.objs.size s'.heap h') : Inv X pins σ H' { s' with heap := h' } := by
  have hos : s'.os = s.os := J.os
  have nC : H' s.heap.objs.size = none := J.free
  have kp : ∀ b, b ≠ s.heap.objs.size → h'.get? b = s'.heap.get? b := hsb.2
  have low : ∀ b o, s.heap.get? b = some o → b ≠ s.heap.objs.size := fun b o e => Nat.ne_of_lt (Heap.lt_size e)
  have u : Un (frs X.stack) fp H H' s.heap h' := by
    have u0 : Un (frs X.stack) fp H H' s.heap s'.heap := J.base
    exact ⟨fun b o e n h1 h2 => (kp b (low b o e)).trans (u0.keep b o e n h1 h2), fun b o e n h1 h2 => by
        obtain ⟨sl, q⟩ := u0.slot b o e n h1 h2
        exact ⟨sl, (kp b (low b o e)).trans q⟩, u0.free, fun b o e h1 => by
        obtain ⟨o', q⟩ := u0.there b o e h1
        exact ⟨o', (kp b (low b o e)).trans q⟩, u0.tups, u0.frzs, u0.tbls⟩
  have hok : HOk X.prog X.w H' h' := fun b o e => by
    refine (J.hok b o e).stay (fun c v hc q => (kp c ?_).trans q) (fun _ q => q) fun _ _ q => q
    rcases hc with z | z
    · rw [z]; intro z'; rw [z', nC] at e; cases e
    · intro z'; rw [z', nC] at z; cases z
  have q := I.call (g' := s'.gens) (t' := s'.toks) (d' := s'.drawn) u hok J.bare fun b hb => ⟨(hfp b hb).2.2.2.1, (hfp b hb).2.1, (hfp b hb).2.2.2.2.1, (hfp b hb).2.2.2.2.2⟩
  obtain ⟨hp, g, d, tk, os⟩ := s'
  have : os = s.os := hos
  subst this
  exact q
end

/-- a comprehension over a new list at D, turn by turn -/
def LcRun (J : It) (js : List Nat) (te : TE) (σ : Sg) (Q : VK) (H1 : Hp) : Prop := ∀ D, H1 D = none →
  ∃ W : Nat → Nat → List V → Hp → Prop, (∃ m, W 0 m [] (upd H1 D (.lst []))) ∧ ∀ i m ys H', W i m ys H' → H' D = some (.lst ys) ∧
    ((J.stop i H' ∧ Q (.ref D) H') ∨ (J.go i H' ∧ ∀ x H2, J.yld i H' x H2 → te (some x :: frv σ js) H2 fun y H3 => H3 D = some (.lst ys) ∧ ys.length < sizeLine ∧
      ∃ m', m' < m ∧ W (i + 1) m' (ys ++ [y]) (upd H3 D (.lst (ys ++ [y])))))
/-- the reading of a comprehension -/
def tLC (wi : TI) (js : List Nat) (te : TE) : TE := fun σ H Q => wi σ H fun J H1 => LcRun J js te σ Q H1

section
variable {X : Cx} {scope : Scope} {cl : List (Str × Addr)} {x : Str} {fr : List Str} {js : List Nat} {elt iter : Expr} {px pos : Pos} {wi : TI} {te : TE}

/-- one turn of a list comprehension without tests, whatever the target -/
theorem lc_loop {prog : Program} {w : World} {A : Around} {R : Result → Shared → Prop} {s : Shared} {tg : Expr} {it acc : Value} {env : Env} (Iv : Nat → Shared → Prop)
    (turn : ∀ n s, Iv n s → wpAny (model prog w) A (pyNext it) (fun r s1 => match r with
      | none => R (.ok .next) s1
      | some v => wpAny (model prog w) A (letOwnedTupleGo tg it v) (fun _ s2 => wpAny (model prog w) A (assign tg env v) (fun _ s3 => wpAny (model prog w) A (eval elt env) (fun y s4 =>
          wpAny (model prog w) A (call (.builtin "list.append") [acc, y]) (fun _ s5 => ∃ m, m < n ∧ Iv m s5) (fun _ _ => False) s4) (fun _ _ => False) s3) (fun _ _ => False) s2) (fun _ _ => False) s1) (fun _ _ => False) s)
    (n : Nat) (h : Iv n s) : codeAny (model prog w) A (.compLoop (.ListComp elt [⟨tg, iter, [], 0⟩] scope pos) 0 it acc env) R s := by
  refine codeAny_loop rfl Iv (fun n s hI => ?_) n h
  refine wpAny_noted ?_
  rw [compTurn_list1]
  refine wpAny_bind (wpAny_standAt (wpAny_bind (wpAny_mono (turn n s hI) (fun r s1 h1 => ?_) fun _ _ z => z.elim)))
  cases r with
  | none => exact wpAny_pure h1
  | some v =>
    refine wpAny_bind (wpAny_mono h1 (fun _ s2 h2 => ?_) fun _ _ z => z.elim)
    refine wpAny_bind (wpAny_mono h2 (fun _ s3 h3 => ?_) fun _ _ z => z.elim)
    refine wpAny_bind (wpAny_bind (wpAny_mono h3 (fun y s4 h4 => ?_) fun _ _ z => z.elim))
    refine wpAny_bind (wpAny_mono h4 (fun _ s5 h5 => ?_) fun _ _ z => z.elim)
    exact wpAny_pure (wpAny_pure ⟨rfl, h5⟩)

theorem pe_lc (hc : X.calm = true) (L : LcOk X scope x fr js cl) (hi : PI X (.Name x px) iter wi)
    (he : ∀ C s H fp pins, PE (blk X scope cl C (x :: fr) s H fp pins) elt te)
    (hs : ∀ v, foldedSetIterable iter X.env v = pure v := by intro _; rfl) :
    PE X (.ListComp elt [⟨.Name x px, iter, [], 0⟩] scope pos) (tLC wi js te) := by
  intro pins s σ H Q I h
  rw [eval_ListComp]
  refine wpAny_comprehension_free (use := none) rfl hs L.clos L.kind L.loc (thn (hi pins s σ H _ I h) fun v s1 h1 => thn h1 fun itv s2 h2 => ?_)
  obtain ⟨it, fp, tn, J, H2, e, I2, T, st2, f2, rd⟩ := h2
  subst e
  obtain ⟨W, ⟨m0, w0⟩, turn⟩ := rd _ I2.fresh
  have I3 := I2.lnew (ys := []) (its := []) (t' := s2.toks) .nil (Nat.zero_le _)
  refine wpAny_newObj_type ?_
  have fsz2 : ∀ b ∈ fp, b < s2.heap.objs.size := fun b hb => by
    obtain ⟨o, ho, _⟩ := T.obj 0 _ st2 b hb
    exact Heap.lt_size ho
  generalize hs3 : ({ s2 with heap := s2.heap.push { cls := .type "list", dict := none, data := .seq ([] : List Value).toArray } } : Shared) = s3
  have I3' : Inv X pins σ (upd H2 s2.heap.objs.size (.lst [])) s3 := by rw [← hs3]; exact I3
  have sz3 : s3.heap.objs.size = s2.heap.objs.size + 1 := by rw [← hs3]; exact Heap.size_push ..
  have k23 : ∀ b o, s2.heap.get? b = some o → s3.heap.get? b = some o := fun b o e => by rw [← hs3]; exact Heap.get?_push_of_some _ e
  have fsz : ∀ b ∈ fp, b < s3.heap.objs.size := fun b hb => by rw [sz3]; exact Nat.lt_succ_of_lt (fsz2 b hb)
  have f3 : ∀ b ∈ fp, FpOk X pins (upd H2 s2.heap.objs.size (.lst [])) b := fun b hb => ⟨by rw [upd_ne (Nat.ne_of_lt (fsz2 b hb))]; exact (f2 b hb).1, (f2 b hb).2⟩
  refine wpAny_newFunctionEnv L.cell (by intro y hy; simp at hy) (fun h4 hn4 hsb4 => ?_) L.kind
  have k34 : ∀ b o, s3.heap.get? b = some o → h4.get? b = some o := fun b o e => (hsb4.2 b (Nat.ne_of_lt (Heap.lt_size e))).trans (Heap.get?_push_of_some _ e)
  generalize hX' : blk X scope cl s3.heap.objs.size (x :: fr) s3 (upd H2 s2.heap.objs.size (.lst [])) fp pins = X'
  have I4 : Inv X' [] (none :: frv σ js) (upd H2 s2.heap.objs.size (.lst [])) { s3 with heap := h4, toks := s3.toks + ([] : List (Str × Value)).length } := by
    rw [← hX']; exact blk_inv I3' L hc f3 fsz hn4 k34
  have st4 : tn 0 h4 := T.keep _ _ _ st2 fun b _ o e => k34 b o (k23 b o e)
  have he' : PE X' elt te := by rw [← hX']; exact he _ _ _ _ _
  have xp : X'.prog = X.prog := by rw [← hX']; rfl
  have xw : X'.w = X.w := by rw [← hX']; rfl
  have xK : X'.K = X.K := by rw [← hX']; rfl
  have xA : X'.A = X.A := by rw [← hX']; rfl
  have xc : X'.calm = true := by rw [← hX']; rfl
  have xe : X'.xe = fun _ _ => False := by rw [← hX']; rfl
  have xn : X'.N = x :: fr := by rw [← hX']; rfl
  have xv : X'.env = compEnvC scope cl s3.heap.objs.size X.env := by rw [← hX']; rfl
  have xpn : X'.pn = X.pn ++ pins := by rw [← hX']; rfl
  have xex : X'.ex = fp := by rw [← hX']; rfl
  have xfs : X'.fs = frs X.stack := by rw [← hX']; rfl
  have back : ∀ {H' : Hp} {s' : Shared} {h' : Heap} {σ' : Sg}, Inv X' [] σ' H' s' → Heap.SameBut s3.heap.objs.size s'.heap h' → Inv X pins σ H' { s' with heap := h' } := fun {H' s' h' σ'} J' hsb => by
    rw [← hX'] at J'; exact blk_back I3' J' f3 hsb
  have frame : ∀ b ∈ fp, b ∉ frs X.stack := fun b hb z => by
    rcases List.mem_cons.mp (I3'.stkSub b z) with e | e
    · exact (f3 b hb).2.1 e
    · exact (f3 b hb).2.2.1 e
  have stat : ∀ {H' : Hp}, (∀ b ∈ fp, H' b = none) → ∀ b ∈ fp, FpOk X' [] H' b := fun {H'} hn b hb => by
    refine ⟨hn b hb, ?_, ?_, .inl (by rw [xex]; exact hb), ?_, ?_⟩
    · rw [xv]; exact Nat.ne_of_lt (fsz b hb)
    · rw [xfs]; exact frame b hb
    · rw [xv]; exact fun y c e => (f3 b hb).2.2.2.2.1 y c (L.sub y c e)
    · rw [xpn, List.append_nil]; exact (f3 b hb).2.2.2.2.2
  have loop : codeAny (model X.prog X.w) X.A (.compLoop (.ListComp elt [⟨.Name x px, iter, [], 0⟩] scope pos) 0 (.ref it) (.ref s2.heap.objs.size) (compEnvC scope cl s3.heap.objs.size X.env))
      (compPost (model X.prog X.w) X.A X.xe none (EP X pins σ Q) (.ref s2.heap.objs.size) s3.heap.objs.size) { s3 with heap := h4, toks := s3.toks + ([] : List (Str × Value)).length } := by
    refine lc_loop (fun n s' => ∃ i ys o H', Inv X' [] (o :: frv σ js) H' s' ∧ tn i s'.heap ∧ (∀ b ∈ fp, H' b = none) ∧ W i n ys H') ?_ m0 ⟨0, [], none, _, I4, st4, fun b hb => (f3 b hb).1, w0⟩
    rintro n s5 ⟨i, ys, o, H5, I5, st5, fr5, w5⟩
    obtain ⟨hD, hstep⟩ := turn i n ys H5 w5
    rcases hstep with ⟨stop, qn⟩ | ⟨go, step⟩
    · have q := T.done X' xp xw xK xc i [] s5 _ H5 (fun _ _ => False) I5 (stat fr5) st5 stop
      rw [xA] at q
      refine thn q fun r s6 ⟨hr, I6⟩ => ?_
      subst hr
      obtain ⟨m6, hn6, _⟩ := I6.loc
      rw [xv] at hn6
      exact ⟨m6, hn6, fun h' hsb => ⟨.ref s2.heap.objs.size, H5, back I6 hsb, rfl, qn⟩⟩
    · have q := T.item X' xp xw xK xc i [] s5 _ H5 (fun _ _ => False) I5 (stat fr5) st5 go
      rw [xA] at q
      refine thn q fun r s6 ⟨u, hr, h6⟩ => ?_
      subst hr
      refine thn h6 fun _ s7 ⟨xx, H7, I7, r7, y7, st7, fr7⟩ => ?_
      have I7' := I7.pinned (stat fr7) (T.obj _ _ st7)
      have hg : PG X' (.Name x px) (gName 0) := by
        refine pg_name (i := 0) (x := x) (by rw [xn]; exact L.nd) (by rw [xn]; rfl) ?_ ?_
        · rw [xv]; exact .inl (lookup_relabel_local L.var)
        · rw [xv]; exact .inr (lookup_relabel_local L.var)
      have q7 := hg _ s7 _ H7 xx u (fun σ8 H8 => σ8 = some xx :: frv σ js ∧ H8 = H7) I7' r7 ⟨rfl, rfl⟩
      rw [xp, xw, xA, xe, xv] at q7
      refine thn q7 fun _ s8 ⟨σ8, H8, I8, e8, e8'⟩ => ?_
      subst e8 e8'
      have q8 := he' _ s8 _ _ _ I8 (step xx _ y7)
      rw [xp, xw, xA, xe, xv] at q8
      refine thn q8 fun yv s9 ⟨y, H9, I9, r9, d9, z9, m9, hm9, w9⟩ => ?_
      have q9 := mt_append (X := X') _ s9 _ H9 (.ref s2.heap.objs.size) [y] (.ref s2.heap.objs.size) [yv] (fun z H' => H' = upd H9 s2.heap.objs.size (.lst (ys ++ [y]))) I9 rfl (.cons r9 .nil) ⟨_, ys, y, rfl, rfl, d9, z9, rfl⟩
      rw [xp, xw, xA, xe] at q9
      refine thn q9 fun _ s10 ⟨_, H10, I10, _, e10⟩ => ?_
      subst e10
      refine ⟨m9, hm9, i + 1, ys ++ [y], some xx, _, I10.unpinned, T.keep _ _ _ st7 fun b hb ob e => (I10.pin (b, ob) (List.mem_append_right _ (List.mem_append_right _ (mem_pinsAt hb e)))).1, fun b hb => ?_, w9⟩
      obtain ⟨ob, e, _⟩ := T.obj _ _ st7 b hb
      exact (I10.pin (b, ob) (List.mem_append_right _ (List.mem_append_right _ (mem_pinsAt hb e)))).2.1
  exact codeAny_compStart_list loop (T.self _ 0 _ _ _ st4 loop)
end
end Sw

namespace Sw
open PySem PySem.Spec PyProof.Rows L2
/-! ### a block that looks at names from around -/
def clOf (cells : List (Str × Addr)) : List (Str × NameKind) → List (Str × Addr) → List (Str × Addr)
  | [], acc => acc
  | (n, .free) :: r, acc => match cells.lookup n with
    | some c => clOf cells r ((n, c) :: acc)
    | none => clOf cells r acc
  | (_, _) :: r, acc => clOf cells r acc
theorem clOf_skip {cells : List (Str × Addr)} {n : Str} {k : NameKind} {r : List (Str × NameKind)} {acc : List (Str × Addr)} (h : k ≠ .free) : clOf cells ((n, k) :: r) acc = clOf cells r acc := by
  cases k <;> first | rfl | exact absurd rfl h
theorem clOf_free {cells : List (Str × Addr)} {n : Str} {c : Addr} {r : List (Str × NameKind)} {acc : List (Str × Addr)} (h : cells.lookup n = some c) : clOf cells ((n, .free) :: r) acc = clOf cells r ((n, c) :: acc) := by
  rw [clOf, h]
theorem clOf_sub {cells : List (Str × Addr)} : ∀ {names : List (Str × NameKind)} {acc : List (Str × Addr)}, (∀ y ∈ names, y.2 = .free → ∃ c, cells.lookup y.1 = some c) → (∀ y c, acc.lookup y = some c → cells.lookup y = some c) →
    ∀ y c, (clOf cells names acc).lookup y = some c → cells.lookup y = some c
  | [], _, _, h, y, c, e => h y c e
  | (n, k) :: r, acc, hf, h, y, c, e => by
    have hr : ∀ y ∈ r, y.2 = .free → ∃ c, cells.lookup y.1 = some c := fun y hy => hf y (List.mem_cons_of_mem _ hy)
    by_cases hk : k = .free
    · subst hk
      obtain ⟨d, hd⟩ := hf (n, .free) List.mem_cons_self rfl
      rw [clOf_free hd] at e
      refine clOf_sub hr (fun z b hz => ?_) y c e
      rw [List.lookup_cons] at hz
      cases hzn : z == n with
      | true =>
        rw [hzn] at hz
        have : z = n := eq_of_beq hzn
        rw [this, hd]
        exact hz
      | false =>
        rw [hzn] at hz
        exact h z b hz
    · rw [clOf_skip hk] at e
      exact clOf_sub hr h y c e
theorem clOf_has {cells : List (Str × Addr)} : ∀ {names : List (Str × NameKind)} {acc : List (Str × Addr)}, (∀ y ∈ names, y.2 = .free → ∃ c, cells.lookup y.1 = some c) →
    ∀ y : Str, ((y, NameKind.free) ∈ names ∨ ∃ c, acc.lookup y = some c) → ∃ c, (clOf cells names acc).lookup y = some c
  | [], _, _, y, h => by
    rcases h with h | h
    · simp at h
    · exact h
  | (n, k) :: r, acc, hf, y, h => by
    have hr : ∀ y ∈ r, y.2 = .free → ∃ c, cells.lookup y.1 = some c := fun y hy => hf y (List.mem_cons_of_mem _ hy)
    by_cases hk : k = .free
    · subst hk
      obtain ⟨d, hd⟩ := hf (n, .free) List.mem_cons_self rfl
      rw [clOf_free hd]
      refine clOf_has hr y ?_
      by_cases hyn : y = n
      · subst hyn
        exact .inr ⟨d, by simp [List.lookup_cons]⟩
      · rcases h with h | ⟨c, h⟩
        · rcases List.mem_cons.mp h with e | e
          · exact absurd (congrArg Prod.fst e) hyn
          · exact .inl e
        · refine .inr ⟨c, ?_⟩
          rw [List.lookup_cons]
          have : (y == n) = false := by simpa using hyn
          rw [this]
          exact h
    · rw [clOf_skip hk]
      refine clOf_has hr y ?_
      rcases h with h | h
      · rcases List.mem_cons.mp h with e | e
        · exact absurd (congrArg Prod.snd e).symm hk
        · exact .inl e
      · exact .inr h
theorem closure_eq {scope : Scope} {env : Env} (hf : ∀ y ∈ scope.names, y.2 = .free → ∃ c, env.cells.lookup y.1 = some c) : closureFor scope env = pure (clOf env.cells scope.names []) := by
  have key : ∀ (names : List (Str × NameKind)) (acc : List (Str × Addr)), (∀ y ∈ names, y.2 = .free → ∃ c, env.cells.lookup y.1 = some c) →
      (forIn names acc fun (x : Str × NameKind) (cs : List (Str × Addr)) => (match x with | (name, kind) => if (kind == NameKind.free) = true then (cellOf env name >>= fun a => pure (ForInStep.yield ((name, a) :: cs))) else pure (ForInStep.yield cs) : Sem (ForInStep (List (Str × Addr))))) = pure (clOf env.cells names acc) := by
    intro names
    induction names with
    | nil => intro acc _; rfl
    | cons x r ih =>
      intro acc h
      obtain ⟨n, k⟩ := x
      have hr : ∀ y ∈ r, y.2 = .free → ∃ c, env.cells.lookup y.1 = some c := fun y hy => h y (List.mem_cons_of_mem _ hy)
      rw [List.forIn_cons]
      by_cases hk : k = .free
      · subst hk
        obtain ⟨d, hd⟩ := h (n, .free) List.mem_cons_self rfl
        have hc : cellOf env n = pure d := by unfold cellOf; rw [hd]
        rw [clOf_free hd, ← ih _ hr]
        simp only [beq_self_eq_true, if_true, hc, pure_bind]
      · have hb : (k == NameKind.free) = false := by simpa using hk
        rw [clOf_skip hk, ← ih _ hr]
        simp only [hb, Bool.false_eq_true, if_false, pure_bind]
  have := key scope.names [] hf
  unfold closureFor
  simp only [bind_pure_comp, map_pure] at this ⊢
  first
    | exact this
    | (rw [this]; rfl)
    | (simp only [this]; rfl)
theorem lc_free {X : Cx} {scope sc : Scope} {x : Str} {fr : List Str} {js : List Nat} (hk : scope.kind = .function) (hsc : X.env.scope = sc) (hkf : sc.kind = .function)
    (hcell : ∀ y ∈ scope.names, y.2 ≠ .cell) (hloc : ∀ y ∈ scope.names, y.2 = .local → scope.names.lookup y.1 = some .local) (hvar : scope.names.lookup x = some .local)
    (hfree : ∀ y ∈ scope.names, y.2 = .free → sc.names.lookup y.1 = some .cell) (hfr : FrOk X scope fr js) (hnd : (x :: fr).Nodup)
    (hcs : ∀ y, X.env.scope.names.lookup y = some .cell → ∃ c, X.env.cells.lookup y = some c) : LcOk X scope x fr js (clOf X.env.cells scope.names []) := by
  have hall : ∀ y ∈ scope.names, y.2 = .free → ∃ c, X.env.cells.lookup y.1 = some c := fun y hy e => hcs _ (by rw [hsc]; exact hfree y hy e)
  refine ⟨hk, closure_eq hall, hcell, hloc, hvar, clOf_sub hall fun y c e => by simp at e, fun y hy => clOf_has hall y (.inl ?_), hfr, hnd⟩
  have get : ∀ k, (k = NameKind.cell ∨ k = NameKind.free) → (relabel scope X.env).names.lookup y = some k → (y, NameKind.free) ∈ scope.names := fun k hkk e => by
    have hm := PySem.mem_of_lookup e
    unfold relabel at hm
    obtain ⟨⟨n, k0⟩, hin, heq⟩ := List.mem_map.mp hm
    dsimp only at heq
    split at heq
    · rename_i hc
      have e1 : n = y := congrArg Prod.fst heq
      have e2 : k0 = .free := by
        rw [Bool.and_eq_true, Bool.and_eq_true] at hc
        exact eq_of_beq hc.1.1
      rw [← e1, ← e2]
      exact hin
    · have e1 : n = y := congrArg Prod.fst heq
      have e2 : k0 = k := congrArg Prod.snd heq
      rcases hkk with z | z
      · exact absurd (by rw [e2, z]) (hcell _ hin)
      · rw [← e1, ← z, ← e2]
        exact hin
  rcases hy with h | h
  · exact get _ (.inl rfl) h
  · exact get _ (.inr rfl) h
end Sw

namespace Sw
open PySem PySem.Spec PyProof.Rows L2

/-! ### what stays true while the heap grows -/
theorem same_new {H : Hp} {p : Addr} (h : H p = none) (o : HO) : Same H (upd H p o) := fun b u q => by rw [upd_ne (ne_of_none q h)]; exact q
/-- the tuples stay (and what is frozen) -/
structure Kt (H H' : Hp) : Prop where
  t : ∀ b xs, H b = some (.tup xs) → H' b = some (.tup xs)
  f : ∀ b o u, H b = some (.frz o u) → H' b = some (.frz o u)
theorem Kt.of {H H' : Hp} (S : Same H H') : Kt H H' := ⟨fun b _ e => S b _ e, fun b _ _ e => S b _ e⟩
theorem Kt.trans {H H1 H2 : Hp} (a : Kt H H1) (b : Kt H1 H2) : Kt H H2 := ⟨fun _ _ e => b.t _ _ (a.t _ _ e), fun _ _ _ e => b.f _ _ _ (a.f _ _ _ e)⟩
theorem Kt.new {H : Hp} {p : Addr} {o : HO} (h : H p = none) : Kt H (upd H p o) := .of (same_new h o)
theorem Kt.lst {H : Hp} {p : Addr} {ys : List V} {o : HO} (h : H p = some (.lst ys)) : Kt H (upd H p o) :=
  ⟨fun b xs e => by rw [upd_ne (ne_of e h (fun z => by cases z))]; exact e, fun b o' u e => by rw [upd_ne (ne_of e h (fun z => by cases z))]; exact e⟩
theorem sqT_mono {K : PySem.W.Frag} {H H' : Hp} {a : Addr} {xs : List V} (S : Kt H H') (h : SqT K H a xs) : SqT K H' a xs := by
  rcases h with (h | ⟨o, h⟩) | h
  · exact .inl (.inl (S.t _ _ h))
  · exact .inl (.inr ⟨o, S.f _ _ _ h⟩)
  · exact .inr h
/-- what is new to H may change -/
theorem same_upd {H H' : Hp} {p : Addr} {o : HO} (S : Same H H') (h : H p = none) : Same H (upd H' p o) := fun b u q => by rw [upd_ne (ne_of_none q h)]; exact S b u q

section
variable {X : Cx}
/-! ### sum and max of a list of ints -/
theorem call_sum (hc : X.calm = true) : CallR X (.builtin "sum") (fun xs H Q => ∃ (p : Addr) (ns : List Int), xs = [.ref p] ∧ SqL X.K H p (ns.map V.int) ∧ Q (.int ns.sum) H) := by
  intro pins s σ H xs us Q I r h
  obtain ⟨p, ns, rfl, hq, q⟩ := h
  obtain ⟨u, rfl, rx⟩ := vals1 r
  cases rx
  obtain ⟨its, r', pl, hz⟩ := I.list hq
  have hi : IntsAre its ns := intsAre_of r'
  obtain ⟨ys, e⟩ := hi.allInts.items
  have hns : ns = ys.toList.map (·.1) := by
    rw [← hi.numsOf, ← nums_intItems, ← e]
  have hl := pl.isList
  rw [e] at hl
  refine sum_intListG (I.ok.hd hc) hl fun h' tk t' hk => ?_
  have es : preSum (numAt ys) ys.size = ns.sum := by rw [preSum_eq, List.take_of_length_le (by simp), hns]
  exact ⟨.int ns.sum, H, I.kept hk, ⟨t', by rw [es]⟩, q⟩

/-! ### xs.extend(t), t a tuple -/

/-! ### the whole of a tuple as a slice of it -/
theorem getItem_tuple_whole {prog : Program} {w : World} {A : Around} {E : Value → Shared → Prop} {s : Shared} {t sl : Addr} {items : Array Value} {vl vu : Value} {lo hi : Option Int} {Q : Value → Shared → Prop}
    (ht : IsTup s.heap t items) (hs : s.heap.IsSliceOf sl vl vu .none) (pl : IsPart vl lo) (pu : IsPart vu hi)
    (h1 : HT.sIx items.size 0 lo = 0) (h2 : HT.sIx items.size items.size hi = items.size) (h : Q (.ref t) s) : wpAny (model prog w) A (getItem (.ref t) (.ref sl)) Q E s := by
  obtain ⟨os, hos, hcs, hds⟩ := id hs
  have hTs : s.TypeIs (.ref sl) "slice" := ⟨os, hos, hcs⟩
  unfold getItem
  try with_reducible refine wpAny_holding ?_
  first | refine wpAny_bind (wpAny_pure ?_) | skip
  refine wpAny_bind (wpAny_sequenceKey ht.typeIs (by decide) ?_)
  refine wpAny_bind (wpAny_callSpecial?_slot (name := Str.ofString "__getitem__") ht.typeIs PyProof.Rows.slot_tuple_getitem
    (wpAny_call_entry PyProof.Rows.slot_tuple_getitem ht.typeIs entry_tuple_getitem ?_ (args_tuple_getitem _ _)))
  show wpAny _ _ (Builtin.Tuple.tupleItemsOf (.ref t) >>= _) _ _ s
  refine wpAny_bind (tupleItemsOf_ ht ?_)
  refine wpAny_bind (wpAny_typeOf hTs ?_)
  rw [if_pos (by decide)]
  refine wpAny_bind (HT.sliceApplied_gen hs pl pu ?_)
  have hyes : (((HT.sIx items.size 0 lo : Nat) : Int) == 0 && (1 : Int) == 1 && (HT.sIx items.size items.size hi - HT.sIx items.size 0 lo) == items.size) = true := by
    rw [h1, h2]
    simp
  show wpAny _ _ (if (((HT.sIx items.size 0 lo : Nat) : Int) == 0 && (1 : Int) == 1 && (HT.sIx items.size items.size hi - HT.sIx items.size 0 lo) == items.size) = true then _ else _) _ _ s
  rw [if_pos hyes]
  unfold Builtin.Tuple.tupleIsExact
  refine wpAny_bind (wpAny_bind (wpAny_typeOf ht.typeIs (wpAny_pure ?_)))
  rw [if_pos (by decide)]
  refine wpAny_bind (wpAny_rule ?_)
  exact wpAny_pure ⟨_, rfl, wpAny_pure h⟩
def rSlTW (K : PySem.W.Frag) : V → Option Int → Option Int → Hp → VK → Prop := fun x lo hi H Q => ∃ a xs, x = .ref a ∧ SqT K H a xs ∧
  HT.sIx xs.length 0 lo = 0 ∧ HT.sIx xs.length xs.length hi = xs.length ∧ Q (.ref a) H
theorem sl_tupW : SlR X (rSlTW X.K) := by
  intro pins s σ H x v vl vu lo hi sl Q I rx hs pl pu h
  obtain ⟨a, xs, rfl, hx, w1, w2, q⟩ := h
  cases rx
  obtain ⟨its, r, ht, hz⟩ := I.tuple hx
  have hlen : its.toArray.size = xs.length := by rw [List.size_toArray]; exact r.length.symm
  refine ⟨"tuple", _, PyProof.Rows.slot_tuple_getitem.lookup, ht.typeIs, ?_⟩
  exact getItem_tuple_whole ht hs pl pu (by rw [hlen]; exact w1) (by rw [hlen]; exact w2) ⟨.ref a, H, I, rfl, q⟩
/-- any slice of a tuple -/
def rSlTA (K : PySem.W.Frag) : V → Option Int → Option Int → Hp → VK → Prop := fun x lo hi H Q => ∃ a xs, x = .ref a ∧ SqT K H a xs ∧ ∀ p H', Same H H' → SqT K H' p (cutV xs lo hi) → Q (.ref p) H'
theorem cutV_whole {xs : List V} {lo hi : Option Int} (h1 : HT.sIx xs.length 0 lo = 0) (h2 : HT.sIx xs.length xs.length hi = xs.length) : cutV xs lo hi = xs := by
  unfold cutV
  rw [h1, h2]
  simp
theorem sl_tupA : SlR X (rSlTA X.K) := by
  intro pins s σ H x v vl vu lo hi sl Q I rx hs pl pu h
  obtain ⟨a, xs, rfl, hx, q⟩ := h
  by_cases hw : HT.sIx xs.length 0 lo = 0 ∧ HT.sIx xs.length xs.length hi = xs.length
  · exact sl_tupW pins s σ H _ v vl vu lo hi sl Q I rx hs pl pu ⟨a, xs, rfl, hx, hw.1, hw.2, q a H (Same.refl H) (by rw [cutV_whole hw.1 hw.2]; exact hx)⟩
  · exact sl_tup pins s σ H _ v vl vu lo hi sl Q I rx hs pl pu ⟨a, xs, rfl, hx, hw, fun p hp => q p _ (same_new hp _) (SqT.of upd_same)⟩

/-! ### isinstance(x, T), T a type of Python's own -/
theorem call_isinst : CallR X (.builtin "isinstance") (fun xs H Q => ∃ x T t b, xs = [x, .ty T] ∧ TyOf X.K H x t ∧ PySem.W.kitOne X.K t (.type T) = some b ∧ Q (.bl b) H) := by
  intro pins s σ H xs us Q I r h
  obtain ⟨x, T, t, b, rfl, ty, e, q⟩ := h
  obtain ⟨u, w', rfl, r1, r2⟩ := vals2 r
  cases r2
  exact isinst_ok I r1 ty e fun tk => ⟨.bl b, H, I.tok tk, rfl, q⟩
end

/-! ### trees in the heap -/
mutual
def TR (K : PySem.W.Frag) (H : Hp) : T → V → Prop
  | .node ts, x => ∃ a xs, x = .ref a ∧ SqT K H a xs ∧ TRs K H ts xs
def TRs (K : PySem.W.Frag) (H : Hp) : List T → List V → Prop
  | [], xs => xs = []
  | t :: ts, xs => ∃ x r, xs = x :: r ∧ TR K H t x ∧ TRs K H ts r
end
section
variable {K : PySem.W.Frag} {H H' : Hp}
theorem TR_node {ts : List T} {x : V} : TR K H (.node ts) x ↔ ∃ a xs, x = .ref a ∧ SqT K H a xs ∧ TRs K H ts xs := by rw [TR]
theorem TRs_nil {xs : List V} : TRs K H [] xs ↔ xs = [] := by rw [TRs]
theorem TRs_cons {t : T} {ts : List T} {xs : List V} : TRs K H (t :: ts) xs ↔ ∃ x r, xs = x :: r ∧ TR K H t x ∧ TRs K H ts r := by rw [TRs]
theorem TR_of {t : T} {x : V} (h : TR K H t x) : ∃ a xs, x = .ref a ∧ SqT K H a xs ∧ TRs K H t.kids xs := by
  cases t with
  | node ts => exact TR_node.mp h
theorem TR_mk {ts : List T} {a : Addr} {xs : List V} (h : SqT K H a xs) (q : TRs K H ts xs) : TR K H (.node ts) (.ref a) := TR_node.mpr ⟨a, xs, rfl, h, q⟩
mutual
theorem TR.mono (S : Kt H H') : ∀ {t : T} {x : V}, TR K H t x → TR K H' t x
  | .node ts, x, h => by
    obtain ⟨a, xs, e, h1, h2⟩ := TR_node.mp h
    exact TR_node.mpr ⟨a, xs, e, sqT_mono S h1, TRs.mono S h2⟩
theorem TRs.mono (S : Kt H H') : ∀ {ts : List T} {xs : List V}, TRs K H ts xs → TRs K H' ts xs
  | [], xs, h => by rw [TRs_nil] at h ⊢; exact h
  | t :: ts, xs, h => by
    obtain ⟨x, r, e, h1, h2⟩ := TRs_cons.mp h
    exact TRs_cons.mpr ⟨x, r, e, TR.mono S h1, TRs.mono S h2⟩
end
theorem TRs.length : ∀ {ts : List T} {xs : List V}, TRs K H ts xs → xs.length = ts.length
  | [], xs, h => by rw [TRs_nil] at h; rw [h]; rfl
  | t :: ts, xs, h => by
    obtain ⟨x, r, e, h1, h2⟩ := TRs_cons.mp h
    rw [e, List.length_cons, List.length_cons, TRs.length h2]
theorem TRs.append : ∀ {ts us : List T} {xs ys : List V}, TRs K H ts xs → TRs K H us ys → TRs K H (ts ++ us) (xs ++ ys)
  | [], us, xs, ys, h, g => by rw [TRs_nil] at h; rw [h]; exact g
  | t :: ts, us, xs, ys, h, g => by
    obtain ⟨x, r, e, h1, h2⟩ := TRs_cons.mp h
    rw [e]
    exact TRs_cons.mpr ⟨x, r ++ ys, rfl, h1, TRs.append h2 g⟩
theorem TRs.get : ∀ {ts : List T} {xs : List V}, TRs K H ts xs → ∀ {i : Nat} {x : V}, xs[i]? = some x → ∃ t, ts[i]? = some t ∧ TR K H t x
  | [], xs, h, i, x, e => by rw [TRs_nil] at h; rw [h] at e; simp at e
  | t :: ts, xs, h, i, x, e => by
    obtain ⟨y, r, rfl, h1, h2⟩ := TRs_cons.mp h
    cases i with
    | zero => exact ⟨t, rfl, by have e' : y = x := by simpa using e
                                rw [← e']; exact h1⟩
    | succ i => exact TRs.get h2 (i := i) (by simpa using e)
theorem TRs.drop : ∀ (n : Nat) {ts : List T} {xs : List V}, TRs K H ts xs → TRs K H (ts.drop n) (xs.drop n)
  | 0, ts, xs, h => h
  | n + 1, [], xs, h => by rw [TRs_nil] at h; rw [h]; exact TRs_nil.mpr rfl
  | n + 1, t :: ts, xs, h => by
    obtain ⟨x, r, rfl, h1, h2⟩ := TRs_cons.mp h
    exact TRs.drop n h2
end

section
variable {X : Cx} {pins : List (Addr × Obj)} {σ : Sg} {H : Hp} {s : Shared}
theorem tr_inj (I : Inv X pins σ H s) : ∀ (n : Nat), (∀ (t u : T) (x : V), t.parts ≤ n → TR X.K H t x → TR X.K H u x → t = u) ∧ (∀ (ts us : List T) (xs : List V), T.partsL ts ≤ n → TRs X.K H ts xs → TRs X.K H us xs → ts = us)
  | 0 => ⟨fun t u x h _ _ => absurd (T.parts_pos t) (by omega), fun ts us xs h q r => by
      have h1 := T.len_le_parts ts
      have h2 := q.length
      have h3 := r.length
      have e1 : ts = [] := List.length_eq_zero_iff.mp (by omega)
      have e2 : us = [] := List.length_eq_zero_iff.mp (by omega)
      rw [e1, e2]⟩
  | n + 1 => by
    have ih := tr_inj I n
    have A : ∀ (t u : T) (x : V), t.parts ≤ n + 1 → TR X.K H t x → TR X.K H u x → t = u := fun t u x h q r => by
      cases t with
      | node ts =>
        cases u with
        | node us =>
          obtain ⟨a, xs, e1, q1, q2⟩ := TR_node.mp q
          obtain ⟨b, ys, e2, r1, r2⟩ := TR_node.mp r
          rw [e1] at e2
          cases e2
          have := I.tuple_inj q1 r1
          subst this
          rw [T.parts_node] at h
          rw [ih.2 ts us xs (by omega) q2 r2]
    refine ⟨A, fun ts us xs h q r => ?_⟩
    cases ts with
    | nil =>
      rw [TRs_nil] at q
      subst q
      have := r.length
      exact (List.length_eq_zero_iff.mp (by simpa using this.symm)).symm
    | cons t ts =>
      obtain ⟨x, r', rfl, q1, q2⟩ := TRs_cons.mp q
      cases us with
      | nil => rw [TRs_nil] at r; cases r
      | cons u us =>
        obtain ⟨x2, r2', e, r1, r2⟩ := TRs_cons.mp r
        cases e
        rw [T.partsL_cons] at h
        have h1 := T.parts_pos t
        rw [A t u x (by omega) q1 r1, ih.2 ts us r' (by omega) q2 r2]

/-- the item's answers -/
def eqsAt (ts us : List T) (j : Nat) : Bool := match ts[j]?, us[j]? with
  | some t, some u => T.beq t u
  | _, _ => false
theorem beqL_range : ∀ ts us : List T, ((List.range (min ts.length us.length)).all (eqsAt ts us) && ts.length == us.length) = T.beqL ts us
  | [], [] => by simp [T.beqL]
  | [], u :: us => by simp [T.beqL]
  | t :: ts, [] => by simp [T.beqL]
  | t :: ts, u :: us => by
    have ih := beqL_range ts us
    have e : min (t :: ts).length (u :: us).length = min ts.length us.length + 1 := by simp only [List.length_cons]; omega
    rw [e, List.range_succ_eq_map, List.all_cons, List.all_map]
    have e2 : (eqsAt (t :: ts) (u :: us) ∘ Nat.succ) = eqsAt ts us := by
      funext j
      simp [eqsAt]
    have e3 : eqsAt (t :: ts) (u :: us) 0 = T.beq t u := rfl
    have e4 : ((t :: ts).length == (u :: us).length) = (ts.length == us.length) := by simp
    rw [e2, e3, e4, Bool.and_assoc, ih]
    rw [T.beqL]

theorem rc_tree (I : Inv X pins σ H s) : ∀ (n : Nat) (t u : T) (A : Around) (a b : Addr), t.deep ≤ n → TR X.K H t (.ref a) → TR X.K H u (.ref b) → A.units + n < cLine → SeqAt.RcAt A s (.ref a) (.ref b) (T.beq t u) := by
  intro n
  induction n with
  | zero =>
    intro t u A a b hd q r hu
    cases t with
    | node ts =>
      cases u with
      | node us =>
        obtain ⟨a', xs, e1, q1, q2⟩ := TR_node.mp q
        cases e1
        obtain ⟨b', ys, e2, r1, r2⟩ := TR_node.mp r
        cases e2
        rw [T.deep_node] at hd
        have hts : ts = [] := by
          cases ts with
          | nil => rfl
          | cons t ts => rw [T.deepL_cons] at hd; omega
        subst hts
        rw [TRs_nil] at q2
        subst q2
        obtain ⟨its, rv, ht, _⟩ := I.tuple q1
        obtain ⟨its2, rv2, ht2, _⟩ := I.tuple r1
        have h0 := rv.length
        have h2 := rv2.length
        have h3 := r2.length
        have key := SeqAt.RcAt.tuples (A := A) (e := fun _ => true) ht ht2 (by omega) (fun j j1 _ => absurd j1 (by rw [List.size_toArray, ← h0]; simp))
        have ev : ((List.range (min its.toArray.size its2.toArray.size)).all (fun _ => true) && its.toArray.size == its2.toArray.size) = T.beq (.node []) (.node us) := by
          rw [List.size_toArray, List.size_toArray, ← h0, ← h2, h3, T.beq, ← beqL_range]
          simp
        rw [ev] at key
        exact key
  | succ n ih =>
    intro t u A a b hd q r hu
    cases t with
    | node ts =>
      cases u with
      | node us =>
        obtain ⟨a', xs, e1, q1, q2⟩ := TR_node.mp q
        cases e1
        obtain ⟨b', ys, e2, r1, r2⟩ := TR_node.mp r
        cases e2
        rw [T.deep_node] at hd
        obtain ⟨its, rv, ht, _⟩ := I.tuple q1
        obtain ⟨its2, rv2, ht2, _⟩ := I.tuple r1
        have l1 := rv.length
        have l2 := rv2.length
        have l3 := q2.length
        have l4 := r2.length
        have key := SeqAt.RcAt.tuples (A := A) (e := eqsAt ts us) ht ht2 (by omega) (fun j j1 j2 => ?_)
        · have ev : ((List.range (min its.toArray.size its2.toArray.size)).all (eqsAt ts us) && its.toArray.size == its2.toArray.size) = T.beq (.node ts) (.node us) := by
            rw [List.size_toArray, List.size_toArray, ← l1, ← l2, l3, l4, T.beq, ← beqL_range]
          rw [ev] at key
          exact key
        · have j1' : j < xs.length := by rw [l1]; simpa using j1
          have j2' : j < ys.length := by rw [l2]; simpa using j2
          obtain ⟨u1, hu1, ru1⟩ := rv.get (List.getElem?_eq_getElem j1')
          obtain ⟨u2, hu2, ru2⟩ := rv2.get (List.getElem?_eq_getElem j2')
          obtain ⟨t1, ht1, tr1⟩ := q2.get (List.getElem?_eq_getElem j1')
          obtain ⟨t2, ht2', tr2⟩ := r2.get (List.getElem?_eq_getElem j2')
          have ee : eqsAt ts us j = T.beq t1 t2 := by unfold eqsAt; rw [ht1, ht2']
          have g1 : its.toArray[j] = u1 := by
            have : its[j]? = some u1 := hu1
            rw [List.getElem?_eq_some_iff] at this
            obtain ⟨_, e⟩ := this
            simpa using e
          have g2 : its2.toArray[j] = u2 := by
            have : its2[j]? = some u2 := hu2
            rw [List.getElem?_eq_some_iff] at this
            obtain ⟨_, e⟩ := this
            simpa using e
          rw [ee, g1, g2]
          obtain ⟨a1, zs1, e1, _⟩ := TR_of tr1
          obtain ⟨a2, zs2, e2, _⟩ := TR_of tr2
          rw [e1] at ru1 tr1
          rw [e2] at ru2 tr2
          obtain rfl : u1 = Value.ref a1 := ru1
          obtain rfl : u2 = Value.ref a2 := ru2
          by_cases hne : a1 = a2
          · subst hne
            have et : t1 = t2 := (tr_inj I t1.parts).1 t1 t2 _ (Nat.le_refl _) tr1 tr2
            rw [et, T.beq_self]
            exact SeqAt.EqAt.same _
          · have hd1 : t1.deep ≤ n := by
              have := T.mem_deep (List.mem_of_getElem? ht1)
              omega
            exact SeqAt.EqAt.of_refs hne (ih t1 t2 A.in1 a1 a2 hd1 tr1 tr2 (by rw [Around.in1_units]; omega))
end

section
variable {X : Cx}
/-- == of two trees -/
def rEqTr (K : PySem.W.Frag) (n : Nat) : R2 := fun x y H Q => ∃ t u, TR K H t x ∧ TR K H u y ∧ t.deep ≤ n ∧ Q (.bl (T.beq t u)) H
theorem op_eqTr {n : Nat} (hu : X.A.units + n < cLine) : OpR X (compareOp .Eq) (rEqTr X.K n) := by
  intro pins s σ H x y v u Q I rx ry h
  obtain ⟨t, t', h1, h2, hd, q⟩ := h
  obtain ⟨a, xs, e1, _⟩ := TR_of h1
  obtain ⟨b, ys, e2, _⟩ := TR_of h2
  subst e1 e2
  cases rx
  cases ry
  exact rc_tree I n t t' X.A a b hd h1 h2 hu _ _ _ _ ⟨.bl _, H, I, rfl, q⟩
end

/-! ### rules by the written part itself (inside a comprehension's block) -/
section
variable {X : Cx} {K : PySem.W.Frag}
theorem ix_listK (h : X.K = K) : IxR X (rIxL K) := by subst h; exact ix_list
theorem ix_tupK (h : X.K = K) : IxR X (rIxT K) := by subst h; exact ix_tup
end

/-! ### comprehensions in use -/
theorem sqL_new {K : PySem.W.Frag} {H : Hp} {a D : Addr} {xs : List V} {o : HO} (h : SqL K H a xs) (hD : H D = none) : SqL K (upd H D o) a xs := (same_new hD o).seq h
/-- over a list; each element's value y has Pr i y, the heap stays -/
theorem lc_list {K : PySem.W.Frag} {H : Hp} {a : Addr} {xs : List V} {σ : Sg} {js : List Nat} {te : TE} {Q : VK} (Pr : Nat → V → Prop) (hl : SqL K H a xs) (hz : xs.length ≤ sizeLine)
    (hte : ∀ (i : Nat) (x : V) (H' : Hp) (R : VK), xs[i]? = some x → Same H H' → (∀ y, Pr i y → R y H') → te (some x :: frv σ js) H' R)
    (q : ∀ (D : Addr) (ys : List V), H D = none → ys.length = xs.length → (∀ i y, ys[i]? = some y → Pr i y) → Q (.ref D) (upd H D (.lst ys))) :
    LcRun (Itl K a) js te σ Q H := by
  intro D hD
  refine ⟨fun i m ys H' => m = xs.length - i ∧ i ≤ xs.length ∧ ys.length = i ∧ (∀ j y, ys[j]? = some y → Pr j y) ∧ H' = upd H D (.lst ys), ⟨xs.length, by omega, Nat.zero_le _, rfl, fun j y e => by simp at e, rfl⟩, ?_⟩
  rintro i m ys H' ⟨rfl, hi, hly, hp, rfl⟩
  refine ⟨upd_same, ?_⟩
  have hl' := sqL_new (o := .lst ys) hl hD
  by_cases hlt : i < xs.length
  · refine .inr ⟨⟨xs, xs[i], hl', List.getElem?_eq_getElem hlt⟩, fun x H2 y => ?_⟩
    obtain ⟨e, y⟩ := y
    subst e
    refine hte i x _ _ (y xs hl') (same_new hD _) fun y py => ⟨upd_same, by omega, xs.length - (i + 1), by omega, rfl, by omega, by simp [hly], fun j z e => ?_, by rw [upd_upd]⟩
    by_cases hj : j < ys.length
    · rw [List.getElem?_append_left hj] at e
      exact hp j z e
    · rw [List.getElem?_append_right (by omega)] at e
      have : j - ys.length = 0 := by
        rcases Nat.eq_zero_or_pos (j - ys.length) with h | h
        · exact h
        · rw [List.getElem?_eq_none (by simp; omega)] at e; cases e
      rw [this] at e
      have e' : y = z := by simpa using e
      have ej : j = i := by omega
      rw [← e', ej]
      exact py
  · have ei : i = xs.length := by omega
    exact .inl ⟨⟨xs, hl', by omega⟩, q D ys hD (by omega) hp⟩
end Sw

/-! ## reversed(t) of a tuple, and the list of it -/
namespace SwR
open PySem PySem.Spec PyProof.Rows L2 Sw


section
variable {prog : Program} {w : World} {A : Around} {E : Value → Shared → Prop} {s : Shared}


end


section
variable {prog : Program} {w : World} {A : Around} {E : Value → Shared → Prop} {s : Shared}


end

section
variable {prog : Program} {w : World} {A : Around} {E : Value → Shared → Prop} {s : Shared}
end

end SwR

/-! ## texts by their codes -/
namespace Sw
open PySem PySem.Spec PyProof.Rows L2
/-- the text of these codes -/
def tx (l : List Nat) : Str := ⟨l.toArray⟩
theorem tx_append (a b : List Nat) : tx a ++ tx b = tx (a ++ b) := by
  show Str.mk (a.toArray ++ b.toArray) = Str.mk (a ++ b).toArray
  simp
theorem tx_len (a : List Nat) : (tx a).length = a.length := rfl
theorem tx_inj {a b : List Nat} : tx a = tx b ↔ a = b := by
  constructor
  · intro h
    have h1 : a.toArray = b.toArray := congrArg Str.cps h
    simpa using congrArg Array.toList h1
  · intro h
    rw [h]
theorem tx_lp : Str.ofString "(" = tx [40] := by decide +kernel
theorem tx_rp : Str.ofString ")" = tx [41] := by decide +kernel
theorem tx_nil : Str.ofString "" = tx [] := by decide +kernel
theorem tx_leaf : Str.ofString "()" = tx [40, 41] := by decide +kernel
theorem dec_tx (a b : List Nat) : decide (V.str (tx a) = V.str (tx b)) = decide (a = b) := by
  by_cases h : a = b
  · subst h; simp
  · rw [decide_eq_false h, decide_eq_false]
    intro e
    exact h (tx_inj.mp (V.str.inj e))

theorem strsAre_of : ∀ {ss : List Str} {us : List Value}, Vals (ss.map V.str) us → StrsAre us ss
  | [], us, r => by rw [List.map_nil] at r; cases r; exact .nil
  | z :: ss, us, r => by
    rw [List.map_cons] at r
    cases r with
    | cons r1 r2 =>
      obtain ⟨t, rfl⟩ := r1
      exact .cons z t (strsAre_of r2)
theorem join_tx (ls : List (List Nat)) : Txt.join (tx []) (ls.map tx) = tx ls.flatten := by
  have key : ∀ (ls : List (List Nat)) (acc : List Nat), (ls.map tx).foldl (fun acc p => acc ++ (tx []).cps ++ p.cps) acc.toArray = (acc ++ ls.flatten).toArray := by
    intro ls
    induction ls with
    | nil => intro acc; simp
    | cons l ls ih =>
      intro acc
      rw [List.map_cons, List.foldl_cons]
      have e : acc.toArray ++ (tx []).cps ++ (tx l).cps = (acc ++ l).toArray := by simp [tx]
      rw [e, ih, List.flatten_cons, List.append_assoc]
  show Str.mk _ = _
  cases ls with
  | nil => rfl
  | cons l ls =>
    have := key ls l
    show Str.mk (((l :: ls).map tx).drop 1 |>.foldl (fun acc p => acc ++ (tx []).cps ++ p.cps) (((l :: ls).map tx).headD Str.empty).cps) = tx (l :: ls).flatten
    rw [List.map_cons, List.drop_one, List.tail_cons, List.headD_cons, List.flatten_cons]
    exact congrArg Str.mk this

section
variable {X : Cx}
/-- ''.join(l) -/
def rJoin (K : PySem.W.Frag) : V → List V → Hp → VK → Prop := fun x vs H Q => ∃ (l : Addr) (ls : List (List Nat)), x = .str (tx []) ∧ vs = [.ref l] ∧ SqL K H l (ls.map fun c => V.str (tx c)) ∧ ls.flatten.length ≤ 16777216 ∧ Q (.str (tx ls.flatten)) H
theorem sum_len : ∀ ls : List (List Nat), ((ls.map tx).map (·.length)).sum = ls.flatten.length
  | [] => rfl
  | l :: ls => by rw [List.map_cons, List.map_cons, List.sum_cons, sum_len ls, List.flatten_cons, List.length_append, tx_len]
theorem mt_join : MtM X "str.join" (rJoin X.K) := by
  intro pins s σ H x vs v us Q I rx rv h
  obtain ⟨l, ls, rfl, rfl, hq, hz, q⟩ := h
  obtain ⟨t, rfl⟩ := rx
  obtain ⟨u, rfl, ru⟩ := rv.one
  cases ru
  obtain ⟨its, r, pl, _⟩ := I.list hq
  have hs : StrsAre its (ls.map tx) := strsAre_of (by rw [List.map_map]; exact r)
  refine join_list (ys := ls.map tx) pl.isList (by simpa using hs) ?_ fun t' k => ?_
  · rw [sum_len, tx_len]
    simp only [List.length_nil, Nat.mul_zero, Nat.add_zero]
    exact hz
  · rw [join_tx]
    exact ⟨.str (tx ls.flatten), H, I.tok _, ⟨_, rfl⟩, q⟩


/-! ### for c in text -/
def Its (z : Str) : It := ⟨fun i _ => i < z.cps.size, fun i H v H' => H' = H ∧ ∃ c, z.cps[i]? = some c ∧ v = .str (tx [c]), fun i _ => z.cps.size ≤ i⟩
theorem turn_str {P : Program} {w : World} {K : PySem.W.Frag} {x : Str} {px : Pos} {ty : String} (hty : ty = "str_ascii_iterator" ∨ ty = "str_iterator") (z : Str) (t : Tok) (it : Addr) :
    Turn P w K (.Name x px) (Its z) [it] it (fun i h => h.IsStrIter it ty z t i) where
  mem := by simp
  obj := fun i h st b hb => by
    have e : b = it := by simpa using hb
    subst e
    obtain ⟨o, e, c, d⟩ := st
    exact ⟨o, e, fun v z => by rw [d] at z; cases z⟩
  keep := fun i h h' st k => by
    obtain ⟨o, e, r⟩ := st
    exact ⟨o, k it (by simp) o e, r⟩
  item := by
    intro X hP hw hK hc i pins s σ H E I hf st hg
    subst hP hw hK
    obtain ⟨f0, f1, f2, f3, f4, f5⟩ := hf it (by simp)
    have hi : z.cps[i]? = some (z.cps[i]'hg) := Array.getElem?_eq_getElem hg
    rcases hty with rfl | rfl
    · refine wpAny_pyNext_ascii_item st hi fun h' st' sb => ?_
      exact ⟨_, rfl, wpAny_pure ⟨.str (tx [z.cps[i]'hg]), H, I.turned (fun b o hb e => (sb.2 b hb).trans e) f0 f1 f3 f4 f5, ⟨_, rfl⟩, ⟨rfl, _, hi, rfl⟩, st', fun b hb => (hf b hb).1⟩⟩
    · refine wpAny_pyNext_wide_item st hi fun h' st' sb => ?_
      exact ⟨_, rfl, wpAny_pure ⟨.str (tx [z.cps[i]'hg]), H, I.turned (fun b o hb e => (sb.2 b hb).trans e) f0 f1 f3 f4 f5, ⟨_, rfl⟩, ⟨rfl, _, hi, rfl⟩, st', fun b hb => (hf b hb).1⟩⟩
  done := by
    intro X hP hw hK hc i pins s σ H E I hf st hg
    subst hP hw hK
    obtain ⟨f0, f1, f2, f3, f4, f5⟩ := hf it (by simp)
    have hi : z.cps[i]? = none := Array.getElem?_eq_none hg
    rcases hty with rfl | rfl
    · exact wpAny_pyNext_ascii_end (I.ok.hd hc) st hi fun h' eb => ⟨rfl, I.turned (t' := s.toks) (fun b o hb e => eb b o hb e) f0 f1 f3 f4 f5⟩
    · exact wpAny_pyNext_wide_end (I.ok.hd hc) st hi fun h' eb => ⟨rfl, I.turned (t' := s.toks) (fun b o hb e => eb b o hb e) f0 f1 f3 f4 f5⟩
  self := fun _ _ _ _ _ st h => by
    rcases hty with rfl | rfl
    · exact wpAny_pyIter_striter_ascii st h
    · exact wpAny_pyIter_striter_wide st h
def iStr (tl : TE) : TI := fun σ H R => tl σ H fun x H1 => ∃ z, x = .str z ∧ R (Its z) H1
theorem pi_str {x : Str} {px : Pos} {l : Expr} {tl : TE} (hl : PE X l tl) : PI X (.Name x px) l (iStr tl) := by
  intro pins s σ H R I h
  refine thn (hl pins s σ H _ I h) fun v s1 ⟨y, H1, I1, r1, q1⟩ => ?_
  obtain ⟨z, rfl, q⟩ := q1
  obtain ⟨t, rfl⟩ := r1
  have fp : ∀ b ∈ [s1.heap.objs.size], FpOk X pins H1 b := fun b hb => by
    have e : b = s1.heap.objs.size := by simpa using hb
    subst e
    exact I1.fpOk (Nat.le_refl _) (I1.hok.fresh (Nat.le_refl _))
  cases ha : z.cps.all (· < 128)
  · refine wpAny_pyIter_wide ha ?_
    exact ⟨s1.heap.objs.size, [s1.heap.objs.size], _, _, H1, rfl, I1.kept (t' := s1.toks) fun b o e => Heap.get?_push_of_some _ e, turn_str (.inr rfl) z t _, ⟨_, Heap.get?_push_size _ rfl, rfl, rfl⟩, fp, q⟩
  · refine wpAny_pyIter_ascii ha ?_
    exact ⟨s1.heap.objs.size, [s1.heap.objs.size], _, _, H1, rfl, I1.kept (t' := s1.toks) fun b o e => Heap.get?_push_of_some _ e, turn_str (.inl rfl) z t _, ⟨_, Heap.get?_push_size _ rfl, rfl, rfl⟩, fp, q⟩
/-- over a text, sign by sign -/
theorem for_str {l : List Nat} {g : TG} {tb : TS} {D : Ends} {σ : Sg} {H : Hp} (Pv : Nat → Sg → Hp → Prop) (h0 : Pv 0 σ H)
    (hs : ∀ i c σ H, l[i]? = some c → Pv i σ H → g (.str (tx [c])) σ H fun σ2 H2 => tb { D with nx := Pv (i + 1), ct := Pv (i + 1), bk := D.nx } σ2 H2) (hd : ∀ σ H, Pv l.length σ H → D.nx σ H) :
    ∃ W : Nat → Nat → Sg → Hp → Prop, (∃ m, W 0 m σ H) ∧ ∀ i m σ H, W i m σ H →
      ((Its (tx l)).stop i H ∧ D.nx σ H) ∨ ((Its (tx l)).go i H ∧ ∃ N : Sg → Hp → Prop, (∀ σ' H', N σ' H' → ∃ m', m' < m ∧ W (i + 1) m' σ' H') ∧ ∀ x H', (Its (tx l)).yld i H x H' → g x σ H' fun σ2 H2 => tb { D with nx := N, ct := N, bk := D.nx } σ2 H2) := by
  refine ⟨fun i m σ H => m = l.length - i ∧ i ≤ l.length ∧ Pv i σ H, ⟨l.length, by simp, Nat.zero_le _, h0⟩, ?_⟩
  rintro i m σ H ⟨rfl, hi, p⟩
  have sz : (tx l).cps.size = l.length := by simp [tx]
  by_cases hlt : i < l.length
  · refine .inr ⟨by show i < (tx l).cps.size; omega, Pv (i + 1), fun σ' H' p' => ⟨l.length - (i + 1), by omega, rfl, hlt, p'⟩, fun x H' y => ?_⟩
    obtain ⟨e, c, hc, rfl⟩ := y
    subst e
    exact hs i c σ _ (by simpa [tx] using hc) p
  · have e : i = l.length := by omega
    subst e
    exact .inl ⟨by show (tx l).cps.size ≤ l.length; omega, hd σ H p⟩

/-! ### != of two trees -/
theorem eq_items {pins : List (Addr × Obj)} {σ : Sg} {H : Hp} {s : Shared} (I : Inv X pins σ H s) {ts us : List T} {xs ys : List V} {its its2 : List Value} (q2 : TRs X.K H ts xs) (r2 : TRs X.K H us ys) (rv : Vals xs its) (rv2 : Vals ys its2) {n : Nat} {A : Around}
    (hd : T.deepL ts ≤ n + 1) (hu : A.units + n < cLine) : ∀ j (h1 : j < its.toArray.size) (h2 : j < its2.toArray.size), SeqAt.EqAt A s its.toArray[j] its2.toArray[j] (eqsAt ts us j) := by
  intro j j1 j2
  have l1 := rv.length
  have l2 := rv2.length
  have j1' : j < xs.length := by rw [l1]; simpa using j1
  have j2' : j < ys.length := by rw [l2]; simpa using j2
  obtain ⟨u1, hu1, ru1⟩ := rv.get (List.getElem?_eq_getElem j1')
  obtain ⟨u2, hu2, ru2⟩ := rv2.get (List.getElem?_eq_getElem j2')
  obtain ⟨t1, ht1, tr1⟩ := q2.get (List.getElem?_eq_getElem j1')
  obtain ⟨t2, ht2', tr2⟩ := r2.get (List.getElem?_eq_getElem j2')
  have ee : eqsAt ts us j = T.beq t1 t2 := by unfold eqsAt; rw [ht1, ht2']
  have g1 : its.toArray[j] = u1 := by
    have : its[j]? = some u1 := hu1
    rw [List.getElem?_eq_some_iff] at this
    obtain ⟨_, e⟩ := this
    simpa using e
  have g2 : its2.toArray[j] = u2 := by
    have : its2[j]? = some u2 := hu2
    rw [List.getElem?_eq_some_iff] at this
    obtain ⟨_, e⟩ := this
    simpa using e
  rw [ee, g1, g2]
  obtain ⟨a1, zs1, e1, _⟩ := TR_of tr1
  obtain ⟨a2, zs2, e2, _⟩ := TR_of tr2
  rw [e1] at ru1 tr1
  rw [e2] at ru2 tr2
  obtain rfl : u1 = Value.ref a1 := ru1
  obtain rfl : u2 = Value.ref a2 := ru2
  by_cases hne : a1 = a2
  · subst hne
    have et : t1 = t2 := (tr_inj I t1.parts).1 t1 t2 _ (Nat.le_refl _) tr1 tr2
    rw [et, T.beq_self]
    exact SeqAt.EqAt.same _
  · have hd1 : t1.deep ≤ n := by
      have := T.mem_deep (List.mem_of_getElem? ht1)
      omega
    exact SeqAt.EqAt.of_refs hne (rc_tree I n t1 t2 A a1 a2 hd1 tr1 tr2 hu)
def rNeTr (K : PySem.W.Frag) (n : Nat) : R2 := fun x y H Q => ∃ t u, TR K H t x ∧ TR K H u y ∧ t.deep ≤ n ∧ Q (.bl (!T.beq t u)) H
theorem op_neTr {n : Nat} (hu : X.A.units + n + 1 < cLine) : OpR X (compareOp .NotEq) (rNeTr X.K n) := by
  intro pins s σ H x y v u Q I rx ry h
  obtain ⟨t, t', h1, h2, hd, q⟩ := h
  cases t with
  | node ts =>
    cases t' with
    | node us =>
      obtain ⟨a, xs, rfl, q1, q2⟩ := TR_node.mp h1
      obtain ⟨b, ys, rfl, r1, r2⟩ := TR_node.mp h2
      cases rx
      cases ry
      rw [T.deep_node] at hd
      obtain ⟨its, rv, ht, _⟩ := I.tuple q1
      obtain ⟨its2, rv2, ht2, _⟩ := I.tuple r1
      have key := SeqAt.RcNeAt.tuples (A := X.A) (e := eqsAt ts us) ht ht2 (by omega) (eq_items I q2 r2 rv rv2 (n := n) (by omega) (by rw [Around.in1_units]; omega))
      have ev : ((List.range (min its.toArray.size its2.toArray.size)).all (eqsAt ts us) && its.toArray.size == its2.toArray.size) = T.beq (.node ts) (.node us) := by
        rw [List.size_toArray, List.size_toArray, ← rv.length, ← rv2.length, q2.length, r2.length, T.beq, ← beqL_range]
      rw [ev] at key
      exact key _ _ _ _ ⟨.bl _, H, I, rfl, q⟩
end
end Sw

/-! ## trees as rows of brackets, apart from any heap -/
namespace Sw
namespace T
mutual
def wr : T → List Nat | .node ts => 40 :: (wrL ts ++ [41])
def wrL : List T → List Nat
  | [] => []
  | t :: ts => wr t ++ wrL ts
end
theorem wr_node (ts : List T) : wr (.node ts) = 40 :: (wrL ts ++ [41]) := by rw [wr]
theorem wrL_nil : wrL [] = [] := by rw [wrL]
theorem wrL_cons (t : T) (ts : List T) : wrL (t :: ts) = wr t ++ wrL ts := by rw [wrL]
theorem wr_kids (t : T) : wr t = 40 :: (wrL t.kids ++ [41]) := by cases t; rw [wr_node]; rfl
theorem wrL_append : ∀ a b : List T, wrL (a ++ b) = wrL a ++ wrL b
  | [], b => by rw [wrL_nil]; rfl
  | t :: a, b => by rw [List.cons_append, wrL_cons, wrL_cons, wrL_append a b, List.append_assoc]
mutual
theorem wr_len : ∀ t : T, (wr t).length = 2 * t.parts
  | .node ts => by
    rw [wr_node, parts_node, List.length_cons, List.length_append, wrL_len ts, List.length_singleton]
    omega
theorem wrL_len : ∀ ts : List T, (wrL ts).length = 2 * partsL ts
  | [] => by rw [wrL_nil, partsL_nil]; rfl
  | t :: ts => by
    rw [wrL_cons, partsL_cons, List.length_append, wr_len t, wrL_len ts]
    omega
end
theorem wrL_flat (ts : List T) : (ts.map wr).flatten = wrL ts := by
  induction ts with
  | nil => rw [wrL_nil]; rfl
  | cons t ts ih => rw [List.map_cons, List.flatten_cons, ih, wrL_cons]

/-! ### reading: the rows that are open, the innermost first -/
def rd1 : List (List T) → Nat → Option (List (List T))
  | r :: rs, c => if c = 40 then some ([] :: r :: rs) else if c = 41 then (match rs with | r' :: rs' => some ((r' ++ [.node r]) :: rs') | [] => none) else none
  | [], _ => none
def rd : List (List T) → List Nat → Option (List (List T))
  | st, [] => some st
  | st, c :: l => (rd1 st c).bind fun st' => rd st' l
theorem rd_nil (st : List (List T)) : rd st [] = some st := rfl
theorem rd_cons (st : List (List T)) (c : Nat) (l : List Nat) : rd st (c :: l) = (rd1 st c).bind fun st' => rd st' l := rfl
theorem rd_append : ∀ (a b : List Nat) (st : List (List T)), rd st (a ++ b) = (rd st a).bind fun st' => rd st' b
  | [], b, st => rfl
  | c :: a, b, st => by
    rw [List.cons_append, rd_cons, rd_cons]
    cases rd1 st c with
    | none => rfl
    | some st' => exact rd_append a b st'
theorem rd1_open (r : List T) (rs : List (List T)) : rd1 (r :: rs) 40 = some ([] :: r :: rs) := rfl
theorem rd1_shut (r r' : List T) (rs : List (List T)) : rd1 (r :: r' :: rs) 41 = some ((r' ++ [.node r]) :: rs) := rfl
mutual
theorem rd_wr : ∀ (t : T) (r : List T) (rs : List (List T)) (l : List Nat), rd (r :: rs) (wr t ++ l) = rd ((r ++ [t]) :: rs) l
  | .node ts, r, rs, l => by
    rw [wr_node, List.cons_append, rd_cons, rd1_open, Option.bind_some, List.append_assoc, rd_wrL ts [] (r :: rs) ([41] ++ l), List.nil_append, List.singleton_append, rd_cons, rd1_shut, Option.bind_some]
theorem rd_wrL : ∀ (ts : List T) (r : List T) (rs : List (List T)) (l : List Nat), rd (r :: rs) (wrL ts ++ l) = rd ((r ++ ts) :: rs) l
  | [], r, rs, l => by rw [wrL_nil, List.nil_append, List.append_nil]
  | t :: ts, r, rs, l => by
    rw [wrL_cons, List.append_assoc, rd_wr t r rs, rd_wrL ts (r ++ [t]) rs l, List.append_assoc, List.singleton_append]
end
theorem rd_whole (t : T) : rd [[]] (wr t) = some [[t]] := by
  have := rd_wr t [] [] []
  rw [List.append_nil] at this
  rw [this]
  rfl
theorem rd1_cases {st st2 : List (List T)} {c : Nat} (h : rd1 st c = some st2) :
    (c = 40 ∧ ∃ r rs, st = r :: rs ∧ st2 = [] :: r :: rs) ∨ (c = 41 ∧ ∃ r r' rs, st = r :: r' :: rs ∧ st2 = (r' ++ [.node r]) :: rs) := by
  cases st with
  | nil => cases h
  | cons r rs =>
    unfold rd1 at h
    dsimp only at h
    by_cases h1 : c = 40
    · rw [if_pos h1] at h
      exact .inl ⟨h1, r, rs, rfl, (Option.some.inj h).symm⟩
    · rw [if_neg h1] at h
      by_cases h2 : c = 41
      · rw [if_pos h2] at h
        cases rs with
        | nil => cases h
        | cons r' rs => exact .inr ⟨h2, r, r', rs, rfl, (Option.some.inj h).symm⟩
      · rw [if_neg h2] at h
        cases h
/-! ### writing: what still waits, the next one last; none is a bracket to be closed -/
/-! ### a chain -/
end T
end Sw

/-! ## which rows of brackets write a tree -/
namespace Sw
namespace T
theorem rd1_bad {st : List (List T)} {c : Nat} (h1 : c ≠ 40) (h2 : c ≠ 41) : rd1 st c = none := by
  cases st with
  | nil => rfl
  | cons r rs => unfold rd1; dsimp only; rw [if_neg h1, if_neg h2]
/-- what is read is written so -/
theorem rd_back : ∀ (l : List Nat) (st st' : List (List T)), rd st l = some st' → ((st.reverse.map fun r => 40 :: wrL r).flatten) ++ l = (st'.reverse.map fun r => 40 :: wrL r).flatten
  | [], st, st', h => by rw [rd_nil] at h; rw [Option.some.inj h, List.append_nil]
  | c :: l, st, st', h => by
    rw [rd_cons] at h
    cases h1 : rd1 st c with
    | none => rw [h1] at h; cases h
    | some st2 =>
      rw [h1, Option.bind_some] at h
      have ih := rd_back l st2 st' h
      rw [← ih]
      rcases rd1_cases h1 with ⟨rfl, r, rs, rfl, rfl⟩ | ⟨rfl, r, r', rs, rfl, rfl⟩
      · simp [wrL_nil]
      · simp [wrL_append, wrL_cons, wrL_nil, wr_node]
theorem rd_wr_eq {l : List Nat} {t : T} (h : rd [[]] l = some [[t]]) : t.wr = l := by
  have := rd_back l [[]] [[t]] h
  simp [wrL_nil, wrL_cons] at this
  exact this.symm
end T
end Sw

/-! ## enumerate(text), xs[::-1], slices of texts -/
namespace Sw
open PySem PySem.Spec PyProof.Rows L2

/-! ### for k, c in enumerate(text) -/
theorem two_inv {X : Cx} {pins : List (Addr × Obj)} {σ : Sg} {H : Hp} {s : Shared} {h2 : Heap} {tk : Nat} {e it : Addr} {xs : List V} (I : Inv X pins σ H s) (fe : FpOk X pins H e) (fi : FpOk X pins H it)
    (k : ∀ b o, b ≠ e → b ≠ it → s.heap.get? b = some o → h2.get? b = some o) (new : ObjOk X.prog X.w (upd H s.heap.objs.size (.tup xs)) h2 s.heap.objs.size (.tup xs)) :
    Inv X pins σ (upd H s.heap.objs.size (.tup xs)) { s with heap := h2, toks := tk } := by
  have hn : H s.heap.objs.size = none := I.hok.fresh (Nat.le_refl _)
  have nt : ∀ b u, H b = some u → b ≠ s.heap.objs.size := fun b u q => ne_of_none q hn
  have ne : ∀ b u, H b = some u → b ≠ e := fun b u q => ne_of_none q fe.1
  have ni : ∀ b u, H b = some u → b ≠ it := fun b u q => ne_of_none q fi.1
  have up : ∀ b u, H b = some u → upd H s.heap.objs.size (.tup xs) b = some u := fun b u q => by rw [upd_ne (nt b u q)]; exact q
  refine I.step (g' := s.gens) (d' := s.drawn) (t' := tk) (ch := [e, it]) (fun b hb => ?_) (fun b o _ _ hb q _ => k b o (fun z => hb (by simp [z])) (fun z => hb (by simp [z])) q)
    (fun b o _ _ hb q _ => ⟨o.slots, k b o (fun z => hb (by simp [z])) (fun z => hb (by simp [z])) q⟩) (fun b o _ q n => by rw [upd_ne (Nat.ne_of_lt (Heap.lt_size q))]; exact n)
    (fun b o hb q => ⟨o, k b o (fun z => hb (by simp [z])) (fun z => hb (by simp [z])) q⟩) (fun b ys q => up _ _ q) (fun b o u q => up _ _ q) (fun b ps q => ⟨#[], by rw [up _ _ q]; simp⟩) (fun m hm => ?_) (fun b u q => ?_) I.bare
  · rcases List.mem_cons.mp hb with z | z
    · rw [z]; exact ⟨fe.2.2.2.1, fe.2.1, fe.2.2.2.2.1, fe.2.2.2.2.2⟩
    · rw [List.mem_singleton.mp z]; exact ⟨fi.2.2.2.1, fi.2.1, fi.2.2.2.2.1, fi.2.2.2.2.2⟩
  · obtain ⟨o, es, ep, ho, r⟩ := hm
    exact ⟨o, es, ep, k _ o (Ne.symm fe.2.1) (Ne.symm fi.2.1) ho, r⟩
  · by_cases hb : b = s.heap.objs.size
    · subst hb
      rw [upd_same] at q
      cases q
      exact new
    · rw [upd_ne hb] at q
      refine (I.hok b u q).stay (fun c v hc q' => k c v ?_ ?_ q') (fun c q' => up _ _ q') fun c ys q' => up _ _ q'
      · rcases hc with z | z
        · rw [z]; exact ne b u q
        · exact ne c _ z
      · rcases hc with z | z
        · rw [z]; exact ni b u q
        · exact ni c _ z
theorem bt_enumerate : bootBuiltins "enumerate" = some (.type "enumerate") := by decide +kernel

/-! ### xs[::-1] -/
end Sw

/-! ## errors of one's own: raise C(), and try: f(e) except B as n -/
namespace Sw
open PySem PySem.Spec PyProof.Rows L2

theorem objOk_there {P : Program} {w : World} {H : Hp} {h : Heap} {a : Addr} {o : HO} (x : ObjOk P w H h a o) : ∃ ob, h.get? a = some ob := by
  cases o with
  | lst xs => obtain ⟨_, _, _, _, e⟩ := x; exact ⟨_, e⟩
  | tup xs => obtain ⟨_, _, _, ob, e, _⟩ := x; exact ⟨ob, e⟩
  | dK kvs => obtain ⟨_, _, _, _, ob, _, _, e, _⟩ := x; exact ⟨ob, e⟩
  | dT kvs => obtain ⟨_, _, _, _, ob, _, _, e, _⟩ := x; exact ⟨ob, e⟩
  | set S n => obtain ⟨ob, _, _, _, e, _⟩ := x; exact ⟨ob, e⟩
  | ins C dx fs => obtain ⟨_, _, _, e, _⟩ := x; exact ⟨_, e⟩
  | own y => exact x
  | xd fs => obtain ⟨_, ⟨ob, _, _, e, _⟩, _⟩ := x; exact ⟨ob, e⟩
  | rng lo hi => obtain ⟨_, _, _, e⟩ := x; exact ⟨_, e⟩
  | frz ob u => exact ⟨_, x.1⟩
  | tbl ps => exact ⟨_, (show h.get? a = some _ from x)⟩
  | met f y => exact ⟨_, (show h.get? a = some _ from x)⟩
  | ext φ => exact x.2.1

/-- the error at a, of the class at C, flies towards the frames outer; B: all that the frames are not, as it lay where it was raised -/
structure Fly (P : Program) (w : World) (outer : List Env) (H : Hp) (s : Shared) (H' : Hp) (B : Heap) (a C : Addr) (s' : Shared) : Prop where
  os : s'.os = s.os
  bare : AllBare s'.gens
  fl : ∃ t, Heap.FlyingW B outer a (.ref C) t s'.heap
  keep : ∀ b o, s.heap.get? b = some o → H b = none → b ∉ frs outer → B.get? b = some o
  slot : ∀ b o, s.heap.get? b = some o → b ∈ frs outer → ∃ sl, s'.heap.get? b = some { o with slots := sl }
  free : ∀ b o, s.heap.get? b = some o → H b = none → H' b = none
  there : ∀ b o, s.heap.get? b = some o → b ∉ frs outer → ∃ o', B.get? b = some o'
  tups : ∀ b xs, H b = some (.tup xs) → H' b = some (.tup xs)
  frzs : ∀ b o u, H b = some (.frz o u) → H' b = some (.frz o u)
  tbls : ∀ b ps, H b = some (.tbl ps) → ∃ more, H' b = some (.tbl (ps ++ more))
  hok : HOk P w H' B
  new : H' a = none
  fresh : s.heap.get? a = none
/-- how an error of one's own lies behind a call -/
def CXE (P : Program) (w : World) : CXT := fun outer H s E e s' => ∃ (a C : Addr) (H' : Hp) (B : Heap), e = .ref a ∧ E (.ref C) none H' ∧ Fly P w outer H s H' B a C s'

/-- how an error class of one's own lies there -/
def ExcAt (h : Heap) (C : Addr) (bmB : List Value) (newId : String) : Prop :=
  ∃ tl Nn nm qq bs hd sn sb ab cl dd k0 k1 k2 k3 k5 mN, h.get? C = some (excClassObj nm qq C Nn bs tl hd sn sb ab cl dd k0 k1 k2 k3 k5 newId) ∧ h.Ns Nn mN ∧ mN "__init__" = none ∧ OwnTail h bmB tl
theorem excAt_of {K : PySem.W.Frag} {h : Heap} {C : Addr} {bmB : List Value} {newId : String} (X : K.In h) (q : PySem.W.excIn K C bmB newId = true) : ExcAt h C bmB newId := by
  unfold PySem.W.excIn at q
  split at q
  · rename_i dd cd sl ho
    split at q
    · rename_i C2 tl k0 k1 k2 k3 nn k5 hmro hsl
      simp only [Bool.and_eq_true, beq_iff_eq, Bool.not_eq_true'] at q
      obtain ⟨⟨⟨⟨⟨e1, e2⟩, e3⟩, e4⟩, e5⟩, e6⟩ := q
      subst e1 e2
      have hs2 : sl = #[k0, k1, k2, k3, some (.builtin nn), k5] := by
        cases sl
        simp only at hsl
        rw [hsl]
      subst hs2
      have ho' := X _ _ ho
      cases cd with
      | mk nm bs mro ns qn hd sn sb ab cl del =>
        dsimp only at hmro e3 e4 e5 e6
        subst hmro e3
        exact ⟨tl, ns, nm, qn, bs, hd, sn, sb, ab, cl, dd, k0, k1, k2, k3, k5, _, ho', .of_isNs (PySem.W.isNs_of_in X e5), PySem.W.nsMap_none_of_in X e5 e6, PySem.W.tail_of_in X e4⟩
    · cases q
  · cases q

section
variable {P : Program} {w : World} {K : PySem.W.Frag} {mg : Str → Option Value} {base : Heap} {N : List Str} {qual : Str} {scope : Scope} {f : Addr} {cd : Value} {A : Around} {outer : List Env} {s₀ : Shared} {H₀ : Hp} {E : XK}

theorem fly_raise {pins : List (Addr × Obj)} {σ : Sg} {H : Hp} {s : Shared} {h' : Heap} {e C : Addr} (I : Inv (cxOf (CXE P w) P w K mg base N qual scope f cd A outer s₀ H₀ E) pins σ H s)
    (hx : Heap.MadeExcOf s.heap h' e (.ref C) []) (hE : E (.ref C) none H) : (cxOf (CXE P w) P w K mg base N qual scope f cd A outer s₀ H₀ E).xe (.ref e) { s with heap := h' } := by
  generalize hX : cxOf (CXE P w) P w K mg base N qual scope f cd A outer s₀ H₀ E = X at I ⊢
  have eS : X.stack = X.env :: outer := by rw [← hX]; rfl
  have eF : X.env.frame = some X.env.locals := by rw [← hX]; rfl
  have e0 : X.s₀ = s₀ := by rw [← hX]; rfl
  have eH : X.H₀ = H₀ := by rw [← hX]; rfl
  have eO : X.outer = outer := by rw [← hX]; rfl
  have eX : X.ex = [] := by rw [← hX]; rfl
  have eP : X.prog = P := by rw [← hX]; rfl
  have eW : X.w = w := by rw [← hX]; rfl
  have exe : X.xe = fun e s' => wpAny (model P w) X.A (leaving X.env e) (fun _ s'' => CXE P w outer H₀ s₀ E e s'') (fun e' s'' => CXE P w outer H₀ s₀ E e' s'') s' := by rw [← hX]; rfl
  rw [exe]
  have notin : ∀ b o, s₀.heap.get? b = some o → b ∉ frs outer → b ∉ frs X.stack := fun b o e1 hb z => by
    rcases List.mem_cons.mp (I.stkSub b z) with e2 | e2
    · have := Nat.lt_of_lt_of_le (Heap.lt_size (e0 ▸ e1)) I.ok.above
      rw [e2] at this
      exact absurd this (Nat.lt_irrefl _)
    · exact hb (by rw [← eO]; exact e2)
  have nex : ∀ b : Addr, b ∉ X.ex := fun b z => by rw [eX] at z; simp at z
  have ub : Un (frs outer) X.ex H₀ H s₀.heap s.heap := by
    have := I.base
    rw [e0, eH] at this
    unfold Cx.fs at this
    rw [eO] at this
    exact this
  have tf : ∀ b u, H b = some u → b ∉ frs X.stack := fun b u e1 z => by
    rw [I.stkFree b z] at e1; cases e1
  refine wpAny_leaves_madeW (base := PySem.W.hideAll s.heap (frs X.stack)) (L := X.env.locals) (outer := outer) (by rw [I.ok.frames, eS]) eF (fun b o z => PySem.W.of_hideAll _ z) ?_ hx fun h'' t F1 _ _ F4 => ?_
  · rw [← eS]
    exact PySem.W.funFrames_hide I.stack fun ev hev a ha => List.mem_filterMap.mpr ⟨ev, hev, ha⟩
  refine ⟨e, C, H, _, rfl, hE, ⟨I.os.trans (by rw [e0]), I.bare, ⟨_, F1⟩, fun b o e1 n hb => ?_, fun b o e1 hb => ?_, fun b o e1 n => ub.free b o e1 n (nex b), fun b o e1 hb => ?_, ub.tups, ub.frzs, ub.tbls, fun b u e1 => ?_, ?_, ?_⟩⟩
  · exact PySem.W.hideAll_get _ (ub.keep b o e1 n hb (nex b)) (notin b o e1 hb)
  · have hb' : b ∈ X.fs := by unfold Cx.fs; rw [eO]; exact hb
    have n : H₀ b = none := by rw [← eH]; exact I.ok.frf b hb'
    obtain ⟨s1, q1⟩ := ub.slot b o e1 n hb (nex b)
    obtain ⟨_, o2, q2, nf⟩ := I.ok.funs.mem hb'
    rw [e0, e1] at q2
    cases q2
    have q3 := hx.keeps b _ q1
    obtain ⟨s2, q4⟩ := F4 b _ q3 nf
    exact ⟨s2, q4⟩
  · obtain ⟨o', q1⟩ := ub.there b o e1 (nex b)
    exact ⟨o', PySem.W.hideAll_get _ q1 (notin b o e1 hb)⟩
  · have q := I.hok b u e1
    rw [eP, eW] at q
    refine q.stay (fun c v hc q1 => PySem.W.hideAll_get _ q1 ?_) (fun _ z => z) fun _ _ z => z
    rcases hc with z | z
    · rw [z]; exact tf b u e1
    · exact tf c _ z
  · cases e1 : H e with
    | none => rfl
    | some u =>
      obtain ⟨ob, q1⟩ := objOk_there (I.hok e u e1)
      rw [hx.new] at q1; cases q1
  · cases e1 : s₀.heap.get? e with
    | none => rfl
    | some o =>
      obtain ⟨o', q1⟩ := ub.there e o e1 (nex e)
      rw [hx.new] at q1; cases q1

/-- raise C() -/
def tRaise (C : Addr) (E : XK) : TS := fun _ _ H => E (.ref C) none H
theorem ps_raise {x : Str} {C : Addr} {B newId initId : String} {bmB : List Value} {np cpos pos : Pos} (FB : ExcBaseFacts B newId initId bmB) (q : PySem.W.excIn K C bmB newId = true)
    (hg : Gl (cxOf (CXE P w) P w K mg base N qual scope f cd A outer s₀ H₀ E) x) (hm : mg x = some (.ref C)) (hd : (x == ("__debug__" : Str)) = false := by decide) :
    PS (cxOf (CXE P w) P w K mg base N qual scope f cd A outer s₀ H₀ E) (.Raise (some (.Call (.Name x np) [] [] cpos)) none pos) (tRaise C E) := by
  intro pins s σ H D I h
  obtain ⟨tl, Nn, nm, qq, bs, hdc, sn, sb, ab, cl, dd, k0, k1, k2, k3, k5, mN, hC, hN, hni, T⟩ := excAt_of I.kIn q
  refine wpAny_Raise_call_subT (C := C) (N := Nn) (nm := nm) (q := qq) (bs := bs) (bm := tl) (sn := sn) (hdct := hdc) (sub := sb) (col := cl) (ab := ab) (dd := dd) (k5 := k5) (k3 := k3) (k2 := k2) (k1 := k1) (k0 := k0) FB (mN := mN) (T.hasType FB.hasBase) (I.ok.hd rfl) rfl hni (ld_glob I hg hm ⟨rfl, ?_⟩ hd)
  exact evalArgs_empty ⟨rfl, Nat.zero_le _, hC, hN, T, fun h' e hx => fly_raise I hx h⟩
end

/-- a def that raises: its body as a term of rules, and the reading of that term; its loops take PassesOwn.leaving -/
theorem okX {P : Program} {w : World} {K : PySem.W.Frag} {mg : Str → Option Value} {base : Heap} {x qual : Str} {st : Stmt} {f : Addr} {fd : FuncData} {N ps : List Str} {k : Nat} {sp : Sp} (F : Fun K x qual st f fd) (S : FnScope N ps (defScope st)) (len : ∀ vs H Q E, sp vs H Q E → vs.length = ps.length)
    (hb : ∀ (cdv : Value) (A : Around) (outer : List Env) (s : Shared) (H : Hp) (vs : List V) (Q : VK) (E : XK), Room k (A.deeper (envOfC qual (defScope st) s.heap.objs.size f cdv)) → sp vs H Q E →
      ∃ t, PSs (cxOf (CXE P w) P w K mg base N qual (defScope st) f cdv A outer s H E) (defBody st) t ∧ t { nx := fun _ H' => Q .non H', rt := Q } (start N vs) H) : FnOk P w K mg base (CXE P w) (k + 1) f fd ps sp := by
  obtain ⟨oc, od, kV, doc, pm, an, cdv, ct, osl, e, lk, hcd⟩ := F.ex
  subst e
  exact fn_of lk hcd S len fun A outer s H vs Q E hr hsp => hb cdv A outer s H vs Q E hr hsp
theorem passE {P : Program} {w : World} {X : Cx} : Passes (CXE P w) X E0 := fun _ _ _ _ _ _ _ ⟨_, _, _, _, _, h, _⟩ => h.elim

/-! ### a handler's suite -/
def hX (X : Cx) (a : Addr) : Cx := { X with A := X.A.mark (some (.ref a)), calm := false, xe := fun _ _ => False }
/-- the error at a, of the class at C -/
def XO (a C : Addr) : HO := .ext fun h => ∃ o vs, h.get? a = some o ∧ o.cls = .ref C ∧ o.data = .fields vs
section
variable {X : Cx} {pins : List (Addr × Obj)} {σ : Sg} {H : Hp} {s : Shared}
theorem hX_ok (ok : X.Ok) (a : Addr) : (hX X a).Ok :=
  ⟨ok.mod, ok.kind, ok.glob, ok.blt, ok.above, ok.inj, ok.has, ok.cab, fun z => absurd (show false = true from z) Bool.false_ne_true, ok.frames, ok.stk, ok.exf, ok.bs, ok.bsz, ok.noex, ok.exfs, ok.funs, ok.frf⟩
theorem inv_hx (I : Inv X pins σ H s) (a : Addr) : Inv (hX X a) pins σ H s := ⟨hX_ok I.ok a, I.os, I.bare, I.base, I.loc, I.cell, I.free, I.freeC, I.pin, I.hok, I.len⟩
theorem inv_unhx {a : Addr} (ok : X.Ok) (I : Inv (hX X a) pins σ H s) : Inv X pins σ H s := ⟨ok, I.os, I.bare, I.base, I.loc, I.cell, I.free, I.freeC, I.pin, I.hok, I.len⟩

/-- the error is held here: the state as the caller sees it -/
theorem Fly.inv {H' : Hp} {B h5 : Heap} {a C : Addr} {t : Value} {s' : Shared} (I : Inv X pins σ H s) (F : Fly X.prog X.w X.stack H s H' B a C s') (fl : Heap.FlyingW B X.stack a (.ref C) t h5) (sl : s'.heap.UpToSlots h5) :
    Inv X pins σ (upd H' a (XO a C)) { s' with heap := h5 } := by
  have st : ∀ b o, B.get? b = some o → h5.get? b = some o := fl.1
  have fr : ∀ b o, s.heap.get? b = some o → b ∈ frs X.stack → ∃ sl, h5.get? b = some { o with slots := sl } := fun b o e hb => by
    obtain ⟨s1, e1⟩ := F.slot b o e hb
    obtain ⟨_, o2, e2, nf⟩ := I.stack.mem hb
    rw [e] at e2
    cases e2
    obtain ⟨s2, e3⟩ := sl b _ e1 nf
    exact ⟨s2, e3⟩
  have na : ∀ b u, H' b = some u → b ≠ a := fun b u e z => by rw [z, F.new] at e; cases e
  have ns : ∀ b o, s.heap.get? b = some o → b ≠ a := fun b o e z => by rw [z, F.fresh] at e; cases e
  refine I.call' (ch := []) F.os ⟨fun b o e n hb _ => st b o (F.keep b o e n hb), fun b o e _ hb _ => fr b o e hb, fun b o e n _ => ?_, fun b o e _ => ?_, fun b xs e => ?_, fun b o u e => ?_, fun b ps e => ?_⟩ (fun b u e => ?_) F.bare (fun b z => absurd z (by simp))
  · rw [upd_ne (ns b o e)]; exact F.free b o e n
  · by_cases hb : b ∈ frs X.stack
    · obtain ⟨s2, e3⟩ := fr b o e hb
      exact ⟨_, e3⟩
    · obtain ⟨o', e'⟩ := F.there b o e hb
      exact ⟨o', st b o' e'⟩
  · have := F.tups b xs e
    rw [upd_ne (na _ _ this)]; exact this
  · have := F.frzs b o u e
    rw [upd_ne (na _ _ this)]; exact this
  · obtain ⟨more, this⟩ := F.tbls b ps e
    exact ⟨more, by rw [upd_ne (na _ _ this)]; exact this⟩
  · by_cases hb : b = a
    · subst hb
      rw [upd_same] at e
      cases e
      obtain ⟨oe, vs, g1, g2, g3, _⟩ := fl.first
      refine ⟨⟨oe, vs, g1, g2, g3⟩, ⟨oe, g1⟩, fun h1 h2 p k => ?_⟩
      obtain ⟨o, vs', q1, q2⟩ := p
      exact ⟨o, vs', k o q1, q2⟩
    · rw [upd_ne hb] at e
      refine (F.hok b u e).stay (fun c v _ q => st c v q) (fun c q => ?_) fun c xs q => ?_
      · rw [upd_ne (na _ _ q)]; exact q
      · rw [upd_ne (na _ _ q)]; exact q

/-- a handler's name goes -/
theorem name_goes {M : Model} {A : Around} {E : Value → Shared → Prop} {i : Nat} {n : Str} {pos : Pos} {Q : Unit → Shared → Prop} (I : Inv X pins σ H s) (hN : X.N.Nodup) (hi : X.N[i]? = some n) (hl : X.env.scope.names.lookup n = some .local)
    (h : ∀ s', Inv X pins (σ.set i none) H s' → Q () s') : wpAny M A (do bindName X.env n .none; unbindBehindTheSuite X.env n pos) Q E s := by
  have hcls : (X.env.scope.kind == .class || (X.env.scope.kind == .module && X.env.locals != X.env.globals)) = false := by rw [I.ok.kind]; rfl
  have hk : X.env.kindOf n = some .local := hl
  refine wpAny_bind (wpAny_bindName (store_ok (v := .non) I hN hi (.inl hl) rfl (fun s1 I1 => ?_) (.inr hl)))
  obtain ⟨m, hn, hlk⟩ := I1.loc
  have hiσ : i < σ.length := by rw [I.len]; exact (List.getElem?_eq_some_iff.mp hi).1
  have hmn : (m n).isSome = true := by
    obtain ⟨u, _, lk⟩ := hlk i n .non hi (by rw [List.getElem?_set_self hiσ]) (.inl hl)
    rcases lk with ⟨_, e⟩ | ⟨k, _⟩
    · rw [e]; rfl
    · rw [hk] at k
      rcases k with k | k <;> cases k
  unfold unbindBehindTheSuite
  refine wpAny_onRaise ?_
  unfold unbindName
  refine wpAny_bind (wpAny_point (wpAny_bind ?_))
  unfold deleteName
  simp only [hk, hcls]
  rw [if_neg (by decide)]
  refine wpAny_bind (wpAny_nsDel_keeps hn fun h2 v hn2 hs => ?_)
  rw [hmn]
  simp only [if_true, Bool.not_true, Bool.false_eq_true, if_false]
  have I2 : Inv X pins (σ.set i none) H { s1 with heap := h2 } := by
    obtain ⟨oL, _, _, hoL, _⟩ := id hn
    refine ⟨I1.ok, I1.os, I1.bare, ⟨fun b o e n hb hx => ?_, fun b o e n hb hx => ?_, I1.base.free, fun b o e hx => ?_, I1.base.tups, I1.base.frzs, I1.base.tbls⟩, ⟨_, hn2, fun j y v' e1 e2 e3 => ?_⟩, fun y c e => ?_, I1.free, I1.freeC, fun p hp => ?_, fun b ob e => ?_, by simpa using I.len⟩
    · exact (hs.2 b (Nat.ne_of_lt (Nat.lt_of_lt_of_le (Heap.lt_size e) I1.ok.above))).trans (I1.base.keep b o e n hb hx)
    · obtain ⟨sl, e1⟩ := I1.base.slot b o e n hb hx
      exact ⟨sl, (hs.2 b (Nat.ne_of_lt (Nat.lt_of_lt_of_le (Heap.lt_size e) I1.ok.above))).trans e1⟩
    · obtain ⟨o', e1⟩ := I1.base.there b o e hx
      exact ⟨o', (hs.2 b (Nat.ne_of_lt (Nat.lt_of_lt_of_le (Heap.lt_size e) I1.ok.above))).trans e1⟩
    · by_cases hj : j = i
      · subst hj
        rw [List.getElem?_set_self hiσ] at e2
        cases e2
      · rw [List.getElem?_set_ne (Ne.symm hj)] at e2
        obtain ⟨u', r', q⟩ := hlk j y v' e1 (by rw [List.getElem?_set_ne (Ne.symm hj)]; exact e2) e3
        refine ⟨u', r', ?_⟩
        rcases q with ⟨k, e⟩ | ⟨k, c, e, z⟩
        · refine .inl ⟨k, ?_⟩
          have : y ≠ n := fun e => hj (nodup_ix hN e1 (e ▸ hi))
          simp [this, e]
        · exact .inr ⟨k, c, e, z.sameBut hs (I1.cne y c e)⟩
    · obtain ⟨w', z⟩ := I1.cell y c e
      exact ⟨w', z.sameBut hs (I1.cne y c e)⟩
    · obtain ⟨e, n, ne, nf, d⟩ := I1.pin p hp
      exact ⟨(hs.2 p.1 ne).trans e, n, ne, nf, d⟩
    · refine (I1.hok b ob e).stay (fun c w' hc q => (hs.2 c ?_).trans q) (fun _ q => q) fun _ _ q => q
      rintro rfl
      have hf := I1.free
      rcases hc with rfl | hc
      · rw [hf] at e; cases e
      · rw [hf] at hc; cases hc
  exact wpAny_pure (wpAny_point (h _ I2))

/-- the error's class stands beneath the handler's -/
theorem exc_match {M : Model} {A : Around} {E : Value → Shared → Prop} {e C D : Addr} {oe : Obj} {Q : Bool → Shared → Prop} {K : PySem.W.Frag} (XI : K.In s.heap) (he : s.heap.get? e = some oe) (hcls : oe.cls = .ref C)
    (h1 : PySem.W.typeIn K (.ref D) = some (.type "type")) (h2 : PySem.W.subIn K (.ref D) (.type "BaseException") = some true) (h3 : PySem.W.subIn K (.ref C) (.ref D) = some true) (hD : ∃ cd, PySem.W.clsIn K D = some cd)
    (hq : Q true s) : wpAny M A (excMatches (.ref e) (.ref D)) Q E s := by
  obtain ⟨hh, g, d, t, os⟩ := s
  have L1 := PySem.W.looks_typeIn (M := M) XI h1
  have L2 := PySem.W.looks_subIn (M := M) XI h2
  have L3 := PySem.W.looks_subIn (M := M) XI h3
  have f := tc_notTuple
  obtain ⟨cd, hcd⟩ := hD
  unfold PySem.W.clsIn at hcd
  split at hcd
  · rename_i c' d' cd' sl' ho
    have hoD := XI _ _ ho
    unfold excMatches
    repeat (first | (with_reducible refine wpAny_loadPart_at he ?_; rw [hcls]) | with_reducible refine wpAny_loadPart_at hoD ?_ | refine L1.at ?_ | refine L2.at ?_ | refine L3.at ?_ | wp_step)
    exact hq
  · cases hcd

/-! ### try: f(e, ..) except B as n: .. -/
def tTryCall (i : Nat) (sp : Sp) (t : TA) (sub : Addr → Prop) (ts : TS) : TS := fun D σ H => t σ H fun vs H1 => sp vs H1 (fun _ H2 => D.nx σ H2)
  (fun cls _ H2 => ∃ C, cls = .ref C ∧ sub C ∧ ∀ a, H2 a = none → ts { nx := fun σ3 H3 => D.nx (σ3.set i none) H3, rt := fun _ _ => False } (σ.set i (some (.ref a))) (upd H2 a (XO a C)))
theorem ps_tryCall {k i : Nat} {g D0 : Addr} {gd : FuncData} {ps : List Str} {sp : Sp} {x xB n : Str} {e : Expr} {es : List Expr} {t : TA} {ts : TS} {b0 : Stmt} {suite : List Stmt} {p pos pos' np hp pos3 : Pos}
    (hfr : X.stack = X.env :: X.outer) (hf : X.env.frame = some X.env.locals)
    (F : FnOk X.prog X.w X.K X.mg X.base (CXE X.prog X.w) k g gd ps sp) (hr : Room k X.A) (hg : Gl X x) (hm : X.mg x = some (.ref g)) (hk : PySem.W.keepIn X.K (.ref g) = true) (hb : Binds X.K gd ps [])
    (ha : ∀ E, PA (X.wish E) (e :: es) t)
    (hgB : Gl X xB) (hmB : X.mg xB = some (.ref D0)) (h1 : PySem.W.typeIn X.K (.ref D0) = some (.type "type")) (h2 : PySem.W.subIn X.K (.ref D0) (.type "BaseException") = some true) (hD : ∃ cd, PySem.W.clsIn X.K D0 = some cd)
    (hN : X.N.Nodup) (hi : X.N[i]? = some n) (hl : X.env.scope.names.lookup n = some .local)
    (hs : ∀ a, PSs (hX X a) (b0 :: suite) ts)
    (hdb : (x == ("__debug__" : Str)) = false := by decide) (hdB : (xB == ("__debug__" : Str)) = false := by decide)
    (he : starEach (e :: es) X.env = (false, eval e X.env) :: starEach es X.env := by rfl) (hpl : (backTo pos (starEach es X.env)).any (·.1) = false := by rfl)
    (hsw : swapsWith (.Call (.Name x p) (e :: es) [] pos) none pos'.line X.env = pure false := by rfl) :
    PS X (.Try [.Expr (.Call (.Name x p) (e :: es) [] pos) pos'] [.ExceptHandler (some (.Name xB np)) (some n) (b0 :: suite) hp] [] [] pos3)
      (tTryCall i sp t (fun C => PySem.W.subIn X.K (.ref C) (.ref D0) = some true) ts) := by
  intro pins s σ H D I h
  refine wpAny_Try_except (wpAny_execs_cons (wpAny_Expr_any (wpAny_Call_Name_kw (ld_glob I hg hm ?_ hdb)) I.quiet hsw))
  generalize hEE : (fun (ev : Value) (s₁ : Shared) => wpAny (model X.prog X.w) X.A (noteFrame ev X.env) (fun _ s₂ => wpAny (model X.prog X.w) X.A (setFlight ev none) (fun _ s₃ => wpAny (model X.prog X.w) X.A (handleBy ev X.env [.ExceptHandler (some (.Name xB np)) (some n) (b0 :: suite) hp]) (SP X pins D) X.xe s₃) X.xe s₂) X.xe s₁) = EE
  refine PySem.W.callWith_K (h₀ := X.base) I.ok.mod.kin hk (thn (ha EE pos pins s σ H _ (I.wish EE) h) fun us s1 ⟨vs, H1, I1, r, q⟩ => ⟨I1.unwish.kIn, ?_⟩) he hpl
  have I1 := I1.unwish
  have hlen : (us ++ []).length = ps.length := by rw [List.append_nil, ← r.length]; exact F.len _ _ _ _ q
  have bd := hb s1 us I1.kIn hlen
  rw [List.append_nil] at bd
  refine wpAny_call (codeAny_mono (F.run X.A X.stack s1 H1 ⟨us, []⟩ us vs _ _ hr I1.env0 bd r q) fun r s' hq => ?_)
  cases r with
  | ok fl =>
    cases fl with
    | ret u =>
      obtain ⟨v, H2, I2, rv, q2⟩ := I1.after hq
      exact wpAny_execs_nil (wpAny_execs_nil ⟨σ, H2, I2, q2⟩)
    | next => exact False.elim hq
    | brk => exact False.elim hq
    | cont => exact False.elim hq
  | error ev =>
    rw [← hEE]
    obtain ⟨a, C, H2, B, rfl, ⟨C', eC, hsub, ht⟩, Fl⟩ := hq
    cases eC
    obtain ⟨t0, fl⟩ := Fl.fl
    have fl' : Heap.FlyingW B (X.env :: X.outer) a (.ref C) t0 s'.heap := hfr ▸ fl
    refine wpAny_looks_onW (by rw [I.ok.frames, hfr]) hf fl' fun h4 held4 up4 => ?_
    refine wpAny_landsW held4 fun h5 fl5 up5 => ?_
    have fl5' : Heap.FlyingW B X.stack a (.ref C) t0 h5 := hfr ▸ fl5
    have I5 := Fl.inv I1 fl5' (up4.trans up5)
    obtain ⟨oe, q1, q2⟩ := fl5.there
    refine wpAny_handleBy_cons (codeAny_handlers_test (ld_glob (X := hX X a) (inv_hx I5 a) hgB hmB ?_ hdB)) (by intro z; cases z)
    refine exc_match I5.kIn q1 q2 h1 h2 hsub hD (codeAny_handlers_suite_as ?_)
    refine lands_againW fl5 fun h6 fl6 up6 => ?_
    have fl6' : Heap.FlyingW B X.stack a (.ref C) t0 h6 := hfr ▸ fl6
    have I6 := Fl.inv I1 fl6' (up4.trans (up5.trans up6))
    refine store_ok (v := .ref a) I6 hN hi (.inl hl) rfl (fun s7 I7 => ?_) (.inr hl)
    refine wpAny_mono (hs a pins s7 _ _ _ (inv_hx I7 a) (ht a Fl.new)) (fun fw s8 q8 => ?_) (fun _ _ z => z.elim)
    cases fw with
    | next =>
      obtain ⟨σ8, H8, I8, q8⟩ := q8
      exact name_goes (inv_unhx I.ok I8) hN hi hl fun s9 I9 => ⟨_, _, I9, q8⟩
    | ret u =>
      obtain ⟨_, _, _, _, _, z⟩ := q8
      exact z.elim
    | brk =>
      obtain ⟨_, _, _, z⟩ := q8
      exact z.elim
    | cont =>
      obtain ⟨_, _, _, z⟩ := q8
      exact z.elim
end
end Sw

namespace Sw
open PySem PySem.Spec PyProof.Rows L2
/-! ### text[lo:hi] -/
def cutL (l : List Nat) (lo hi : Option Int) : List Nat := (l.drop (HT.sIx l.length 0 lo)).take (HT.sIx l.length l.length hi - HT.sIx l.length 0 lo)
theorem cutL_len (l : List Nat) (lo hi : Option Int) : (cutL l lo hi).length ≤ l.length := by
  unfold cutL
  rw [List.length_take, List.length_drop]
  omega
theorem idx_eq (lo hi : Option Int) (n : Nat) : Builtin.Str.strSliceIndices lo hi 1 n = (List.range (HT.sIx n n hi - HT.sIx n 0 lo)).map (fun k => HT.sIx n 0 lo + k) := by
  obtain ⟨e1, e2, e3⟩ := slice_bounds lo hi n
  have e : Builtin.Str.strSliceIndices lo hi 1 n = sliceRange (sliceBounds lo hi none n).1 (sliceBounds lo hi none n).2.1 1 := rfl
  rw [e, e1, e2]
  generalize HT.sIx n 0 lo = a
  generalize HT.sIx n n hi = b
  have e4 : (if (a : Int) < b then ((b : Int) - a + 1 - 1) / 1 else 0).toNat = b - a := by
    split
    · simp
    · omega
  show List.map _ (List.range (if (a : Int) < b then ((b : Int) - a + 1 - 1) / 1 else 0).toNat) = _
  rw [e4]
  refine List.map_congr_left fun k _ => ?_
  omega
theorem pick_eq (l : List Nat) (lo hi : Option Int) : (Builtin.Str.strSliceIndices lo hi 1 (tx l).length).filterMap ((tx l).cps[·]?) = cutL l lo hi := by
  have hl : (tx l).length = l.length := tx_len l
  rw [hl, idx_eq]
  unfold cutL
  have h2 := HT.sIx_le l.length l.length (Nat.le_refl _) hi
  generalize HT.sIx l.length 0 lo = a
  generalize HT.sIx l.length l.length hi = b at h2
  have key : ∀ n, a + n ≤ l.length ∨ n = 0 → ((List.range n).map fun k => a + k).filterMap ((tx l).cps[·]?) = (l.drop a).take n := by
    intro n
    induction n with
    | zero => intro _; simp
    | succ n ih =>
      intro h
      have h' : a + n < l.length := by omega
      rw [List.range_succ, List.map_append, List.filterMap_append, ih (by omega), List.take_add_one, List.getElem?_drop]
      congr 1
      simp [tx, h']
  exact key (b - a) (by omega)
theorem get_strSlice {prog : Program} {w : World} {A : Around} {E : Value → Shared → Prop} {s : Shared} {l : List Nat} {t : Tok} {sl : Addr} {vl vu : Value} {lo hi : Option Int} {Q : Value → Shared → Prop}
    (hs : s.heap.IsSliceOf sl vl vu .none) (pl : IsPart vl lo) (pu : IsPart vu hi) (hz : l.length ≤ sizeLine) (h : ∀ t' k, Q (.str (tx (cutL l lo hi)) t') { s with toks := k }) : wpAny (model prog w) A (getItem (.str (tx l) t) (.ref sl)) Q E s := by
  have hT := typeIs_str s (tx l) t
  obtain ⟨pl', el, fl⟩ : ∃ p : Option (Int × Tok), partValue p = vl ∧ p.map (·.1) = lo := by
    cases pl with
    | none => exact ⟨none, rfl, rfl⟩
    | int i t => exact ⟨some (i, t), rfl, rfl⟩
  obtain ⟨pu', eu, fu⟩ : ∃ p : Option (Int × Tok), partValue p = vu ∧ p.map (·.1) = hi := by
    cases pu with
    | none => exact ⟨none, rfl, rfl⟩
    | int i t => exact ⟨some (i, t), rfl, rfl⟩
  have hs' : s.heap.IsSlice sl pl' pu' none := by
    obtain ⟨o, h1, h2, h3⟩ := hs
    exact ⟨o, h1, h2, by rw [el, eu]; exact h3⟩
  have ep : slicePicked (tx l) pl' pu' none = Builtin.Str.strSliceIndices lo hi 1 (tx l).length := by
    unfold slicePicked
    rw [fl, fu]
    rfl
  have m := meets_str_getitem_slice (tx l) t sl pl' pu' none rfl
  unfold getItem
  try with_reducible refine wpAny_holding ?_
  first | refine wpAny_bind (wpAny_pure ?_) | skip
  refine wpAny_bind (wpAny_callSpecial?_slot (name := Str.ofString "__getitem__") hT PyProof.Rows.slot_str_getitem ?_)
  refine call_meets PyProof.Rows.slot_str_getitem hT PyProof.Rows.entry_str_getitem (PyProof.Rows.args_str_getitem _ _) m ⟨hs', ?_⟩
  unfold sliceMade
  rw [ep]
  split
  · rename_i hc
    have hlen : (Builtin.Str.strSliceIndices lo hi 1 (tx l).length).length = l.length := by
      simp at hc
      rw [hc]
      exact tx_len l
    have ecut : cutL l lo hi = l := by
      have h2 := HT.sIx_le l.length l.length (Nat.le_refl _) hi
      rw [tx_len, idx_eq, List.length_map, List.length_range] at hlen
      unfold cutL
      by_cases h0 : l.length = 0
      · have : l = [] := List.length_eq_zero_iff.mp h0
        subst this
        simp
      · have e0 : HT.sIx l.length 0 lo = 0 := by omega
        rw [e0, List.drop_zero, List.take_of_length_le (by omega)]
    have := h t s.toks
    rw [ecut] at this
    exact wpAny_pure this
  · rw [pick_eq]
    refine ⟨?_, ?_⟩
    · show (tx (cutL l lo hi)).length ≤ sizeLine
      rw [tx_len]
      exact Nat.le_trans (cutL_len l lo hi) hz
    · exact wpAny_pure (h _ _)
def rSlS : V → Option Int → Option Int → Hp → VK → Prop := fun x lo hi H Q => ∃ l, x = .str (tx l) ∧ l.length ≤ sizeLine ∧ Q (.str (tx (cutL l lo hi))) H
theorem sl_str {X : Cx} : SlR X rSlS := by
  intro pins s σ H x v vl vu lo hi sl Q I rx hs pl pu h
  obtain ⟨l, rfl, hz, q⟩ := h
  obtain ⟨t, rfl⟩ := rx
  exact ⟨"str", _, PyProof.Rows.slot_str_getitem.lookup, typeIs_str _ _ _, get_strSlice hs pl pu hz fun t' k => ⟨.str _, H, I.tok _, ⟨_, rfl⟩, q⟩⟩
end Sw

/-! ## errors of one's own as values -/
namespace Sw
open PySem PySem.Spec PyProof.Rows L2

/-! ### isinstance of an error -/
/-- what an error class of one's own is found to have -/
structure XCls (K : PySem.W.Frag) (C : Addr) : Prop where
  cls : ∃ cd, PySem.W.clsIn K C = some cd
  ga : PySem.W.findIn K (.ref C) "__getattribute__" = some (some (.builtin "BaseException.__getattribute__"))
  gt : PySem.W.findIn K (.ref C) "__getattr__" = some none
  cl : PySem.W.findIn K (.ref C) "__class__" = some (some (.builtin "object.__class__"))
  ob : PySem.W.mroIn K C (.type "object") = some true
  be : PySem.W.subIn K (.ref C) (.type "BaseException") = some true
section
variable {K : PySem.W.Frag} {C a : Addr} {prog : Program} {w : World} {A : Around}
theorem x_class {R : Result → Shared → Prop} {s : Shared} {tp : Value} (X : K.In s.heap) (L0 : PySem.W.Looks (model prog w) s.heap (typeOf (.ref a)) (.ref C)) (hm : PySem.W.mroIn K C (.type "object") = some true) (h : R (.ok (.ret (.ref C))) s) :
    codeAny (model prog w) A (.call (.builtin "getset_descriptor.__get__") ⟨[.builtin "object.__class__", .ref a, tp], []⟩) R s := by
  obtain ⟨hh, g, dr, t, os⟩ := s
  have L1 := PySem.W.looks_mroIn (M := model prog w) X hm
  refine codeAny_call_builtin PySem.W.KF.slot_gs.plain PySem.W.KF.entry_gs
    (PySem.W.KF.slot_gs.check _ _ _ _ _ _ _ _ PySem.W.KF.type_class (PySem.W.KF.args_gs _ _ _) ?_)
  unfold Builtin.«getset_descriptor.__get__» Builtin.Getset_descriptor.descrGet
  rw [PySem.W.dga_obj]
  refine wpAny_bind (wpAny_pure ?_)
  unfold Builtin.Getset_descriptor.descrGetter Builtin.Getset_descriptor.descrCheckInstance Builtin.Getset_descriptor.descrNameAndClass isInstance
  simp only [PySem.W.KF.owner_class]
  repeat lk
  refine ⟨Code.quiet_builtin _ (by decide +kernel), codeAny_builtin PySem.W.KF.entry_class ?_⟩
  unfold Builtin.«object.__class__» PySem.shownTypeOf
  repeat lk
  exact h
end
theorem xca {K : PySem.W.Frag} {C a : Addr} (Z : XCls K C) {prog : Program} {w : World} {A : Around} {E : Value → Shared → Prop} {Q : Option Value → Shared → Prop} {s : Shared} (X : K.In s.heap)
    (p : ∃ o vs, s.heap.get? a = some o ∧ o.cls = .ref C ∧ o.data = .fields vs) (k : Q (some (.ref C)) { s with toks := s.toks + 1 }) : wpAny (model prog w) A (getAttr? (.ref a) "__class__") Q E s := by
  obtain ⟨hh, g, d, t, os⟩ := s
  obtain ⟨o, vs, h1, h2, h3⟩ := p
  have L0 : PySem.W.Looks (model prog w) hh (typeOf (.ref a)) (.ref C) := h2 ▸ (PySem.W.Looks.ld h1).andThen .now
  have L1 := PySem.W.looks_findIn (M := model prog w) X Z.ga
  unfold getAttr? getAttrBy? getAttrBy
  refine wpAny_bind (wpAny_mkText (wpAny_bind (wpAny_attempt (wpAny_holding (wpAny_bind (L0.at (wpAny_bind (L1.at ?_))))))))
  have L2 := PySem.W.looks_findIn (M := model prog w) X Z.gt
  have L3 := PySem.W.looks_findIn (M := model prog w) X Z.cl
  have L4 := PySem.W.looks_subIn (M := model prog w) X Z.be
  have hx2 : (Value.builtin "BaseException.__getattribute__" == Value.builtin "object.__getattribute__") = false := by decide +kernel
  dsimp only
  rw [if_neg (by rw [hx2, Bool.and_false]; decide)]
  unfold getAttrByItsOwn hookBefore callGetattribute boundAndCalled
  refine wpAny_bind (L2.at (wpAny_bind (wpAny_attempt (wpAny_holding ?_))))
  rw [if_neg (by decide)]
  refine wpAny_bind (wpAny_of_eq (F.attr_ValueError.ga.bind (.ref a)) ?_)
  refine wpAny_call (codeAny_call_builtin F.attr_ValueError.ga.plain F.entry_bexc_ga ?_)
  have hk : builtinKind "BaseException.__getattribute__" = some .slot := by decide +kernel
  have hsp : splitId "BaseException.__getattribute__" = some ("BaseException", "__getattribute__") := by decide +kernel
  have hargs := F.args_bexc_ga (.ref a) (.str (Str.ofString "__class__") t)
  simp only [checkBuiltinCall, hk, hsp]
  refine wpAny_bind ?_
  unfold isInstance
  have f5 := PySem.W.KF.type_class
  have f6 := F.slot_gs_get.lookup
  have f7 := F.slot_gs_set.lookup
  repeat (any_goals (first | assumption | with_reducible refine L0.at ?_ | with_reducible refine L4.at ?_ | with_reducible refine L3.at ?_ | wp_step))
  refine x_class X L0 Z.ob ?_
  exact wpAny_pure (PySem.W.handed_on rfl (wpAny_pure k))
theorem kitx_exc {K : PySem.W.Frag} {C a : Addr} (Z : XCls K C) : PySem.W.KitX K (.ref a) (.ref C) (fun h => ∃ o vs, h.get? a = some o ∧ o.cls = .ref C ∧ o.data = .fields vs) where
  ty := fun M h _ p => by
    obtain ⟨o, vs, h1, h2, _⟩ := p
    exact h2 ▸ (PySem.W.Looks.ld h1).andThen .now
  it := fun M h X _ => by
    obtain ⟨cd, hcd⟩ := Z.cls
    unfold PySem.W.clsIn at hcd
    split at hcd
    · rename_i c1 d1 cd1 sl1 hol
      intro A1 Q1 E1 s1 k1 q1
      unfold isType loadHead
      exact wpAny_bind (wpAny_loadPart (k1 _ _ (X _ _ hol)) (wpAny_pure q1))
    · cases hcd
  ne := fun h tp dd its n sl X htp => by
    obtain ⟨cd, hcd⟩ := Z.cls
    refine Bool.eq_false_iff.mpr fun z => ?_
    have e : C = tp := Value.ref.inj (beq_iff_eq.mp z)
    subst e
    unfold PySem.W.clsIn at hcd
    split at hcd
    · rename_i c1 d1 cd1 sl1 hol
      have z2 := (X _ _ hol).symm.trans htp
      cases z2
    · cases hcd
  ca := fun X p k => xca Z X p k
def clsV : V → Value
  | .ref D => .ref D
  | .ty T => .type T
  | _ => .none
theorem call_isinstX {X : Cx} : CallR X (.builtin "isinstance") (fun xs H Q => ∃ a C y b, xs = [.ref a, y] ∧ ((∃ D, y = .ref D) ∨ ∃ T, y = .ty T) ∧ H a = some (XO a C) ∧ XCls X.K C ∧ PySem.W.kitOne X.K (.ref C) (clsV y) = some b ∧ Q (.bl b) H) := by
  intro pins s σ H xs us Q I r h
  obtain ⟨a, C, y, b, rfl, hy, ha, Z, e, q⟩ := h
  obtain ⟨u, w', rfl, r1, r2⟩ := vals2 r
  cases r1
  have ew : w' = clsV y := by
    rcases hy with ⟨D, rfl⟩ | ⟨T, rfl⟩
    · exact r2
    · exact r2
  subst ew
  obtain ⟨p, _⟩ := (show ObjOk X.prog X.w H s.heap a (XO a C) from I.hok a _ ha)
  exact PySem.W.kia_one (kitx_exc Z) I.kIn p e (fun z => nomatch z) fun tk => ⟨.bl b, H, I.tok tk, rfl, q⟩
end Sw

/-! ## the judgements, shut: their rules under other names -/
namespace Sw
open PySem PySem.Spec PyProof.Rows L2
structure QE (X : Cx) (e : Expr) (t : TE) : Prop where
  run : PE X e t
structure QT (X : Cx) (e : Expr) (t : TT) : Prop where
  run : PT X e t
structure QW (X : Cx) (e : Expr) (t : TT) : Prop where
  run : PW X e t
structure QA (X : Cx) (es : List Expr) (t : TA) : Prop where
  run : PA X es t
structure QS (X : Cx) (st : Stmt) (t : TS) : Prop where
  run : PS X st t
structure QSs (X : Cx) (st : List Stmt) (t : TS) : Prop where
  run : PSs X st t
structure QI (X : Cx) (tg iter : Expr) (wi : TI) : Prop where
  run : PI X tg iter wi
structure QG (X : Cx) (tg : Expr) (t : TG) : Prop where
  run : PG X tg t
structure QGs (X : Cx) (ts : List Expr) (t : TGs) : Prop where
  run : PGs X ts t
structure QO (X : Cx) (o : Option Expr) (t : TO) : Prop where
  run : PO X o t
theorem QW.pt {X : Cx} {e : Expr} {t : TT} (h : QW X e t) : QT X e t := ⟨h.run.pt⟩
theorem qv {X : Cx} (i : Nat) {x : Str} {pos : Pos} (hN : X.N[i]? = some x := by rfl) (hv : Vis X.env.scope x := by first | exact Or.inl rfl | exact Or.inr (Or.inl rfl) | exact Or.inr (Or.inr rfl)) (hd : (x == ("__debug__" : Str)) = false := by decide) (hcd : (x == ("__classdict__" : Str)) = false := by decide) : QE X (.Name x pos) (tVar i) := ⟨L2.pv (i := i) (hN := hN) (hv := hv) (hd := hd) (hcd := hcd)⟩
theorem qe_int {X : Cx} {i j pos} : QE X (.Constant (.int i) j pos) (tC (.int i)) := ⟨L2.pe_int ⟩
theorem qe_bl {X : Cx} {b j pos} : QE X (.Constant (.bool b) j pos) (tC (.bl b)) := ⟨L2.pe_bl ⟩
theorem qe_non {X : Cx} {j pos} : QE X (.Constant .none j pos) (tC .non) := ⟨L2.pe_non ⟩
theorem qe_str {X : Cx} {x j pos} : QE X (.Constant (.str x) j pos) (tC (.str x)) := ⟨L2.pe_str ⟩
theorem qe_bltn {X : Cx} {x : Str} {v : V} {u : Value} {pos : Pos} (hg : Gl X x) (hm : X.mg x = none) (hv : bootBuiltins x = some u) (r : RelV v u) (hn : x ≠ "__name__" := by decide) (hd : (x == ("__debug__" : Str)) = false := by decide) : QE X (.Name x pos) (tC v) := ⟨L2.pe_bltn (hg := hg) (hm := hm) (hv := hv) (r := r) (hn := hn) (hd := hd)⟩
theorem qe_glob {X : Cx} {x : Str} {v : V} {u : Value} {pos : Pos} (hg : Gl X x) (hm : X.mg x = some u) (r : RelV v u) (hd : (x == ("__debug__" : Str)) = false := by decide) : QE X (.Name x pos) (tC v) := ⟨L2.pe_glob (hg := hg) (hm := hm) (r := r) (hd := hd)⟩
theorem qe_op {X : Cx} {a b : Expr} {ta tb : TE} {pos : Pos} {op : Operator} {r : R2} (ho : OpR X (binaryOp op) r) (ha : QE X a ta) (hb : QE X b tb) : QE X (.BinOp a op b pos) (tOp r ta tb) := ⟨L2.pe_op (ho := ho) (ha := ha.run) (hb := hb.run)⟩
theorem qe_un {X : Cx} {a : Expr} {ta : TE} {pos : Pos} {op : UnaryOp} {r : V → Hp → VK → Prop} (ho : UnR X (unaryOp op) r) (ha : QE X a ta) : QE X (.UnaryOp op a pos) (tUn r ta) := ⟨L2.pe_un (ho := ho) (ha := ha.run)⟩
theorem qe_cmpR {X : Cx} {a b : Expr} {ta tb : TE} {pos : Pos} {op : CmpOp} {r : R2} (ho : OpR X (compareOp op) r) (ha : QE X a ta) (hb : QE X b tb) (hm : behindInMarks op b = false) : QE X (.Compare a [op] [b] pos) (tOp r ta tb) := ⟨L2.pe_cmpR (ho := ho) (ha := ha.run) (hb := hb.run) (hm := hm)⟩
theorem qe_and {X : Cx} {a b : Expr} {ta tb : TE} {pos : Pos} {rest : List Expr} (ha : QE X a ta) (hb : QE X (.BoolOp .And (b :: rest) pos) tb) : QE X (.BoolOp .And (a :: b :: rest) pos) (tAndV ta tb) := ⟨L2.pe_and (ha := ha.run) (hb := hb.run)⟩
theorem qe_or {X : Cx} {a b : Expr} {ta tb : TE} {pos : Pos} {rest : List Expr} (ha : QE X a ta) (hb : QE X (.BoolOp .Or (b :: rest) pos) tb) : QE X (.BoolOp .Or (a :: b :: rest) pos) (tOrV ta tb) := ⟨L2.pe_or (ha := ha.run) (hb := hb.run)⟩
theorem qe_one {X : Cx} {a : Expr} {pos : Pos} {op} {t : TE} (h : QE X a t) : QE X (.BoolOp op [a] pos) t := ⟨L2.pe_one (h := h.run)⟩
theorem qe_lst {X : Cx} {es : List Expr} {t : TA} {pos : Pos} (h : QA X es t) : QE X (.List es pos) (tLst t) := ⟨L2.pe_lst (h := h.run)⟩
theorem qe_tup {X : Cx} {es : List Expr} {t : TA} {pos : Pos} {x1} (h : QA X es t) : QE X (.Tuple es x1 pos) (tTup t) := ⟨L2.pe_tup (h := h.run)⟩
theorem qe_ifExp {X : Cx} {a b : Expr} {ta tb : TE} {pos : Pos} {tA : TT} {c : Expr} (hc : QT X c tA) (ha : QE X a ta) (hb : QE X b tb) : QE X (.IfExp c a b pos) (tIf tA ta tb) := ⟨L2.pe_ifExp (hc := hc.run) (ha := ha.run) (hb := hb.run)⟩
theorem qe_slice {X : Cx} {e : Expr} {te : TE} {lo hi : Option Expr} {tl th : TO} {pos p2 : Pos} {r : V → Option Int → Option Int → Hp → VK → Prop} (hr : SlR X r) (he : QE X e te) (hl : QO X lo tl) (hu : QO X hi th) : QE X (.Subscript e (.Slice lo hi none p2) pos) (tSl r te tl th) := ⟨L2.pe_slice (hr := hr) (he := he.run) (hl := hl.run) (hu := hu.run)⟩
theorem qe_ix {X : Cx} {a b : Expr} {ta tb : TE} {pos : Pos} {r : R2} (hr : IxR X r) (ha : QE X a ta) (hb : QE X b tb) (hs : PlainIx b) : QE X (.Subscript a b pos) (tOp r ta tb) := ⟨L2.pe_ix (hr := hr) (ha := ha.run) (hb := hb.run) (hs := hs)⟩
theorem qe_lc {X : Cx} {scope : Scope} {cl : List (Str × Addr)} {x : Str} {fr : List Str} {js : List Nat} {elt iter : Expr} {px pos : Pos} {wi : TI} {te : TE} (hc : X.calm = true) (L : LcOk X scope x fr js cl) (hi : QI X (.Name x px) iter wi) (he : ∀ C s H fp pins, QE (blk X scope cl C (x :: fr) s H fp pins) elt te) (hs : ∀ v, foldedSetIterable iter X.env v = pure v := by intro _; rfl) : QE X (.ListComp elt [⟨.Name x px, iter, [], 0⟩] scope pos) (tLC wi js te) := ⟨Sw.pe_lc (hc := hc) (L := L) (hi := hi.run) (he := fun C s H fp pins => (he C s H fp pins).run) (hs := hs)⟩
theorem qe_call {X : Cx} {CX : CXT} {k : Nat} {f : Addr} {fd : FuncData} {ps : List Str} {sp : Sp} {dvs : List V} {ds : List Value} {E : XK} {x : Str} {p pos : Pos} {e : Expr} {es : List Expr} {t : TA} (F : FnOk X.prog X.w X.K X.mg X.base CX k f fd ps sp) (hr : Room k X.A) (hg : Gl X x) (hm : X.mg x = some (.ref f)) (hk : PySem.W.keepIn X.K (.ref f) = true) (hb : Binds X.K fd ps ds) (hd : Vals dvs ds) (hx : Passes CX X E) (ha : QA X (e :: es) t) (hdb : (x == ("__debug__" : Str)) = false := by decide) (he : starEach (e :: es) X.env = (false, eval e X.env) :: starEach es X.env := by rfl) (hpl : (backTo pos (starEach es X.env)).any (·.1) = false := by rfl) : QE X (.Call (.Name x p) (e :: es) [] pos) (tCall sp dvs E t) := ⟨L2.pe_call (F := F) (hr := hr) (hg := hg) (hm := hm) (hk := hk) (hb := hb) (hd := hd) (hx := hx) (ha := ha.run) (hdb := hdb) (he := he) (hpl := hpl)⟩
theorem qe_callTy {X : Cx} {x : Str} {p pos : Pos} {e : Expr} {es : List Expr} {t : TA} {T : String} {r : List V → Hp → VK → Prop} (hc : CallR X (.type T) r) (hg : Gl X x) (hm : X.mg x = none) (hv : bootBuiltins x = some (.type T)) (ha : QA X (e :: es) t) (hn : x ≠ "__name__" := by decide) (hdb : (x == ("__debug__" : Str)) = false := by decide) (he : starEach (e :: es) X.env = (false, eval e X.env) :: starEach es X.env := by rfl) (hpl : (backTo pos (starEach es X.env)).any (·.1) = false := by rfl) : QE X (.Call (.Name x p) (e :: es) [] pos) (tCB r t) := ⟨L2.pe_callTy (hc := hc) (hg := hg) (hm := hm) (hv := hv) (ha := ha.run) (hn := hn) (hdb := hdb) (he := he) (hpl := hpl)⟩
theorem qe_callB {X : Cx} {x : Str} {p pos : Pos} {e : Expr} {es : List Expr} {t : TA} {id : String} {r : List V → Hp → VK → Prop} (hc : CallR X (.builtin id) r) (hg : Gl X x) (hm : X.mg x = none) (hv : bootBuiltins x = some (.builtin id)) (ha : QA X (e :: es) t) (hn : x ≠ "__name__" := by decide) (hdb : (x == ("__debug__" : Str)) = false := by decide) (he : starEach (e :: es) X.env = (false, eval e X.env) :: starEach es X.env := by rfl) (hpl : (backTo pos (starEach es X.env)).any (·.1) = false := by rfl) : QE X (.Call (.Name x p) (e :: es) [] pos) (tCB r t) := ⟨L2.pe_callB (hc := hc) (hg := hg) (hm := hm) (hv := hv) (ha := ha.run) (hn := hn) (hdb := hdb) (he := he) (hpl := hpl)⟩
theorem qe_bm {X : Cx} {o e : Expr} {es : List Expr} {to : TE} {t : TA} {name : Str} {apos cpos : Pos} {T id : String} {r : V → List V → Hp → VK → Prop} (pa : PlainAttrs T) (slot : Slot T name id) (hty : typeOf (.builtin id) = pure (.type "method_descriptor")) (hm : MtR X id r) (ho : QE X o to) (ha : QA X (e :: es) t) (hbase : attributeBase o name X.env (eval o X.env) = eval o X.env := by rfl) (hfew : ((backTo cpos (starEach (e :: es) X.env)).all (fun x => !x.1) && (backToKw cpos (keywordEach [] X.env)).all (fun x => x.1.isSome)
      && decide ((e :: es).length + ([] : List Keyword).length + (if ([] : List Keyword).isEmpty then 0 else 1) < 30)) = true := by rfl) (hline : (apos.endLine == cpos.line) = true := by rfl) (hs : starEach (e :: es) X.env = (false, eval e X.env) :: starEach es X.env := by rfl) (hplain : (backTo cpos (starEach es X.env)).any (·.1) = false := by rfl) : QE X (.Call (.Attribute o name apos) (e :: es) [] cpos) (tBM X.K T r to t) := ⟨L2.pe_bm (pa := pa) (slot := slot) (hty := hty) (hm := hm) (ho := ho.run) (ha := ha.run) (hbase := hbase) (hfew := hfew) (hline := hline) (hs := hs) (hplain := hplain)⟩
theorem qe_bm0 {X : Cx} {o : Expr} {to : TE} {name : Str} {apos cpos : Pos} {T id : String} {r : V → List V → Hp → VK → Prop} (pa : PlainAttrs T) (slot : Slot T name id) (hty : typeOf (.builtin id) = pure (.type "method_descriptor")) (hm : MtR X id r) (ho : QE X o to) (hbase : attributeBase o name X.env (eval o X.env) = eval o X.env := by rfl) (hline : (apos.endLine == cpos.line) = true := by rfl) : QE X (.Call (.Attribute o name apos) [] [] cpos) (tBM0 X.K T r to) := ⟨L2.pe_bm0 (pa := pa) (slot := slot) (hty := hty) (hm := hm) (ho := ho.run) (hbase := hbase) (hline := hline)⟩
theorem qt_val {X : Cx} {e : Expr} {t : TE} (h : QE X e t) (he : ∀ whole, isTrue e X.env whole = (do let v ← whole; standAt e.pos; holding [v] (truthy v)) := by intro _; rfl) : QT X e (tB t) := ⟨L2.pt_val (h := h.run) (he := he)⟩
theorem qt_cmpR {X : Cx} {a b : Expr} {ta tb : TE} {pos : Pos} {op : CmpOp} {r : R2} (ho : OpR X (compareOp op) r) (ha : QE X a ta) (hb : QE X b tb) (hm : behindInMarks op b = false) : QT X (.Compare a [op] [b] pos) (tTest (tOp r ta tb)) := ⟨L2.pt_cmpR (ho := ho) (ha := ha.run) (hb := hb.run) (hm := hm)⟩
theorem qt_not {X : Cx} {a : Expr} {pos : Pos} {tA : TT} (ha : QT X a tA) : QT X (.UnaryOp .Not a pos) (tNot tA) := ⟨L2.pt_not (ha := ha.run)⟩
theorem qt_chain {X : Cx} {a b c : Expr} {ta tb tc : TE} {pos : Pos} {op op' : CmpOp} {r r' : R2} (ho : OpR X (compareOp op) r) (ho' : OpR X (compareOp op') r') (ha : QE X a ta) (hb : QE X b tb) (hc : QE X c tc) (hm : lastMarks [op, op'] [b, c] = false := by with_unfolding_all rfl) : QT X (.Compare a [op, op'] [b, c] pos) (tTest (tChain r r' ta tb tc)) := ⟨L2.pt_chain (ho := ho) (ho' := ho') (ha := ha.run) (hb := hb.run) (hc := hc.run) (hm := hm)⟩
theorem qw_and {X : Cx} {a b : Expr} {pos : Pos} {tA tB' : TT} {rest : List Expr} (ha : QT X a tA) (hb : QW X (.BoolOp .And (b :: rest) pos) tB') : QW X (.BoolOp .And (a :: b :: rest) pos) (tAnd tA tB') := ⟨L2.pw_and (ha := ha.run) (hb := hb.run)⟩
theorem qw_and1 {X : Cx} {a : Expr} {pos : Pos} {tA : TT} (ha : QT X a tA) : QW X (.BoolOp .And [a] pos) tA := ⟨L2.pw_and1 (ha := ha.run)⟩
theorem qw_or {X : Cx} {a b : Expr} {pos : Pos} {tA tB' : TT} {rest : List Expr} (ha : QT X a tA) (hb : QW X (.BoolOp .Or (b :: rest) pos) tB') : QW X (.BoolOp .Or (a :: b :: rest) pos) (tOr tA tB') := ⟨L2.pw_or (ha := ha.run) (hb := hb.run)⟩
theorem qw_or1 {X : Cx} {a : Expr} {pos : Pos} {tA : TT} (ha : QT X a tA) : QW X (.BoolOp .Or [a] pos) tA := ⟨L2.pw_or1 (ha := ha.run)⟩
theorem qa_nil {X : Cx} : QA X [] tNil := ⟨L2.pa_nil ⟩
theorem qa_cons {X : Cx} {e : Expr} {es : List Expr} {te : TE} {t : TA} (ha : QE X e te) (hr : QA X es t) (hs : starEach (e :: es) X.env = (false, eval e X.env) :: starEach es X.env := by rfl) : QA X (e :: es) (tCons te t) := ⟨L2.pa_cons (ha := ha.run) (hr := hr.run) (hs := hs)⟩
theorem qs_ret {X : Cx} {e : Expr} {te : TE} {pos : Pos} (he : QE X e te) : QS X (.Return (some e) pos) (tRet te) := ⟨L2.ps_ret (he := he.run)⟩
theorem qs_set {X : Cx} {pos : Pos} {i : Nat} {x : Str} {e : Expr} {te : TE} {pos' : Pos} (hN : X.N.Nodup) (hi : X.N[i]? = some x) (hx : Loc X.env.scope x) (he : QE X e te) (hs : swapsWith e (some (.Name x pos')) pos.line X.env = pure false := by rfl) (hf : X.fn x = true ∨ X.env.scope.names.lookup x = some .local := by first | exact .inl rfl | exact .inr rfl | assumption) : QS X (.Assign [.Name x pos'] e pos) (tAsg te (gName i)) := ⟨L2.ps_set (hN := hN) (hi := hi) (hx := hx) (he := he.run) (hs := hs) (hf := hf)⟩
theorem qs_if {X : Cx} {t u : TS} {pos : Pos} {c : Expr} {a b : List Stmt} {tc : TT} (hc : QT X c tc) (ha : QSs X a t) (hb : QSs X b u) : QS X (.If c a b pos) (tIfS tc t u) := ⟨L2.ps_if (hc := hc.run) (ha := ha.run) (hb := hb.run)⟩
theorem qs_for {X : Cx} {tg : Expr} {iter : Expr} {body : List Stmt} {wi : TI} {g : TG} {tb : TS} {pos : Pos} (hp : PassesOwn (model X.prog X.w) X.A X.env X.xe) (hc : X.calm = true) (hi : QI X tg iter wi) (hg : QG X tg g) (hb : QSs X body tb) (hs : ∀ x, foldedSetIterable iter X.env x = pure x := by intro _; rfl) : QS X (.For tg iter body [] pos) (tFor wi g tb) := ⟨L2.ps_for (hp := hp) (hc := hc) (hi := hi.run) (hg := hg.run) (hb := hb.run) (hs := hs)⟩
theorem qs_expr {X : Cx} {e : Expr} {te : TE} {pos : Pos} (he : QE X e te) (hs : swapsWith e none pos.line X.env = pure false := by rfl) : QS X (.Expr e pos) (tDrop te) := ⟨L2.ps_expr (he := he.run) (hs := hs)⟩
theorem qs_raise {P : Program} {w : World} {K : PySem.W.Frag} {mg : Str → Option Value} {base : Heap} {N : List Str} {qual : Str} {scope : Scope} {f : Addr} {cd : Value} {A : Around} {outer : List Env} {s₀ : Shared} {H₀ : Hp} {E : XK} {x : Str} {C : Addr} {B newId initId : String} {bmB : List Value} {np cpos pos : Pos} (FB : ExcBaseFacts B newId initId bmB) (q : PySem.W.excIn K C bmB newId = true) (hg : Gl (cxOf (CXE P w) P w K mg base N qual scope f cd A outer s₀ H₀ E) x) (hm : mg x = some (.ref C)) (hd : (x == ("__debug__" : Str)) = false := by decide) : QS (cxOf (CXE P w) P w K mg base N qual scope f cd A outer s₀ H₀ E) (.Raise (some (.Call (.Name x np) [] [] cpos)) none pos) (tRaise C E) := ⟨Sw.ps_raise (FB := FB) (q := q) (hg := hg) (hm := hm) (hd := hd)⟩
theorem qs_tryCall {X : Cx} {k i : Nat} {g D0 : Addr} {gd : FuncData} {ps : List Str} {sp : Sp} {x xB n : Str} {e : Expr} {es : List Expr} {t : TA} {ts : TS} {b0 : Stmt} {suite : List Stmt} {p pos pos' np hp pos3 : Pos} (hfr : X.stack = X.env :: X.outer) (hf : X.env.frame = some X.env.locals) (F : FnOk X.prog X.w X.K X.mg X.base (CXE X.prog X.w) k g gd ps sp) (hr : Room k X.A) (hg : Gl X x) (hm : X.mg x = some (.ref g)) (hk : PySem.W.keepIn X.K (.ref g) = true) (hb : Binds X.K gd ps []) (ha : ∀ E, QA (X.wish E) (e :: es) t) (hgB : Gl X xB) (hmB : X.mg xB = some (.ref D0)) (h1 : PySem.W.typeIn X.K (.ref D0) = some (.type "type")) (h2 : PySem.W.subIn X.K (.ref D0) (.type "BaseException") = some true) (hD : ∃ cd, PySem.W.clsIn X.K D0 = some cd) (hN : X.N.Nodup) (hi : X.N[i]? = some n) (hl : X.env.scope.names.lookup n = some .local) (hs : ∀ a, QSs (hX X a) (b0 :: suite) ts) (hdb : (x == ("__debug__" : Str)) = false := by decide) (hdB : (xB == ("__debug__" : Str)) = false := by decide) (he : starEach (e :: es) X.env = (false, eval e X.env) :: starEach es X.env := by rfl) (hpl : (backTo pos (starEach es X.env)).any (·.1) = false := by rfl) (hsw : swapsWith (.Call (.Name x p) (e :: es) [] pos) none pos'.line X.env = pure false := by rfl) : QS X (.Try [.Expr (.Call (.Name x p) (e :: es) [] pos) pos'] [.ExceptHandler (some (.Name xB np)) (some n) (b0 :: suite) hp] [] [] pos3)
      (tTryCall i sp t (fun C => PySem.W.subIn X.K (.ref C) (.ref D0) = some true) ts) := ⟨Sw.ps_tryCall (hfr := hfr) (hf := hf) (F := F) (hr := hr) (hg := hg) (hm := hm) (hk := hk) (hb := hb) (ha := fun E => (ha E).run) (hgB := hgB) (hmB := hmB) (h1 := h1) (h2 := h2) (hD := hD) (hN := hN) (hi := hi) (hl := hl) (hs := fun a => (hs a).run) (hdb := hdb) (hdB := hdB) (he := he) (hpl := hpl) (hsw := hsw)⟩
theorem qss_nil {X : Cx} : QSs X [] tNext := ⟨L2.pss_nil ⟩
theorem qss_cons {X : Cx} {st : Stmt} {rest : List Stmt} {t u : TS} (h1 : QS X st t) (h2 : QSs X rest u) : QSs X (st :: rest) (tSeq t u) := ⟨L2.pss_cons (h1 := h1.run) (h2 := h2.run)⟩
theorem qss_one {X : Cx} {st : Stmt} {t : TS} (h1 : QS X st t) : QSs X [st] t := ⟨L2.pss_one (h1 := h1.run)⟩
theorem qi_range1 {X : Cx} {tg : Expr} {a : Expr} {ta : TA} {p pos : Pos} (hg : Gl X "range") (hm : X.mg "range" = none) (ha : QA X [a] ta) (hs : starEach [a] X.env = [(false, eval a X.env)] := by rfl) : QI X tg (.Call (.Name "range" p) [a] [] pos) (iRng1 ta) := ⟨L2.pi_range1 (hg := hg) (hm := hm) (ha := ha.run) (hs := hs)⟩
theorem qi_list {X : Cx} {tg : Expr} {l : Expr} {tl : TE} (hl : QE X l tl) : QI X tg l (iList X.K tl) := ⟨L2.pi_list (hl := hl.run)⟩
theorem qi_tup {X : Cx} {tg : Expr} {l : Expr} {tl : TE} (hl : QE X l tl) : QI X tg l (iTup X.K tl) := ⟨L2.pi_tup (hl := hl.run)⟩
theorem qg_name {X : Cx} {pos : Pos} {i : Nat} {x : Str} (hN : X.N.Nodup) (hi : X.N[i]? = some x) (hx : Loc X.env.scope x) (hf : X.fn x = true ∨ X.env.scope.names.lookup x = some .local := by first | exact .inl rfl | exact .inr rfl | assumption) : QG X (.Name x pos) (gName i) := ⟨L2.pg_name (hN := hN) (hi := hi) (hx := hx) (hf := hf)⟩
theorem qg_tup {X : Cx} {pos : Pos} {es : List Expr} {k : Nat} {t : TGs} {n : Nat} (hc : X.calm = true) (h : QGs X es t) (hn : (assignEach es X.env).length = n := by rfl) (hst : (assignEach es X.env).findIdx? (·.1) = none := by rfl) : QG X (.Tuple es k pos) (gTup X.K n t) := ⟨L2.pg_tup (hc := hc) (h := h.run) (hn := hn) (hst := hst)⟩
theorem qgs_nil {X : Cx} : QGs X [] gNil := ⟨L2.pgs_nil ⟩
theorem qgs_cons {X : Cx} {e : Expr} {es : List Expr} {t : TG} {u : TGs} (h1 : QG X e t) (h2 : QGs X es u) (hs : (assignEach (e :: es) X.env).map (·.2) = assign e X.env :: (assignEach es X.env).map (·.2) := by rfl) : QGs X (e :: es) (gCons t u) := ⟨L2.pgs_cons (h1 := h1.run) (h2 := h2.run) (hs := hs)⟩
theorem qo_none {X : Cx} : QO X none tNoPart := ⟨L2.po_none ⟩
theorem qo_some {X : Cx} {e : Expr} {te : TE} (h : QE X e te) : QO X (some e) (tPart te) := ⟨L2.po_some (h := h.run)⟩
/-- a def's body, shut -/
theorem okQ {P : Program} {w : World} {K : PySem.W.Frag} {mg : Str → Option Value} {base : Heap} {x qual : Str} {st : Stmt} {f : Addr} {fd : FuncData} {N ps : List Str} {k : Nat} {sp : Sp} (F : Fun K x qual st f fd) (S : FnScope N ps (defScope st)) (len : ∀ vs H Q E, sp vs H Q E → vs.length = ps.length)
    (hb : ∀ (cdv : Value) (A : Around) (outer : List Env) (s : Shared) (H : Hp) (vs : List V) (Q : VK) (E : XK), Room k (A.deeper (envOfC qual (defScope st) s.heap.objs.size f cdv)) → sp vs H Q E →
      ∃ t, QSs (cxOf CX0 P w K mg base N qual (defScope st) f cdv A outer s H E).nox (defBody st) t ∧ t { nx := fun _ H' => Q .non H', rt := Q } (start N vs) H) : FnOk P w K mg base CX0 (k + 1) f fd ps sp :=
  F.ok S len fun cdv A outer s H vs Q E hr h => let ⟨t, q, r⟩ := hb cdv A outer s H vs Q E hr h; ⟨t, q.run, r⟩
theorem okXQ {P : Program} {w : World} {K : PySem.W.Frag} {mg : Str → Option Value} {base : Heap} {x qual : Str} {st : Stmt} {f : Addr} {fd : FuncData} {N ps : List Str} {k : Nat} {sp : Sp} (F : Fun K x qual st f fd) (S : FnScope N ps (defScope st)) (len : ∀ vs H Q E, sp vs H Q E → vs.length = ps.length)
    (hb : ∀ (cdv : Value) (A : Around) (outer : List Env) (s : Shared) (H : Hp) (vs : List V) (Q : VK) (E : XK), Room k (A.deeper (envOfC qual (defScope st) s.heap.objs.size f cdv)) → sp vs H Q E →
      ∃ t, QSs (cxOf (CXE P w) P w K mg base N qual (defScope st) f cdv A outer s H E) (defBody st) t ∧ t { nx := fun _ H' => Q .non H', rt := Q } (start N vs) H) : FnOk P w K mg base (CXE P w) (k + 1) f fd ps sp :=
  okX F S len fun cdv A outer s H vs Q E hr h => let ⟨t, q, r⟩ := hb cdv A outer s H vs Q E hr h; ⟨t, q.run, r⟩
end Sw

/-! ## small things in use by many laws -/
namespace Sw
open PySem PySem.Spec PyProof.Rows L2
theorem bt_len : bootBuiltins "len" = some (.builtin "len") := by decide +kernel
theorem bt_sum : bootBuiltins "sum" = some (.builtin "sum") := by decide +kernel
theorem bt_min : bootBuiltins "min" = some (.builtin "min") := by decide +kernel
theorem bt_isinstance : bootBuiltins "isinstance" = some (.builtin "isinstance") := by decide +kernel
theorem bt_int : bootBuiltins "int" = some (.type "int") := by decide +kernel
theorem bt_str : bootBuiltins "str" = some (.type "str") := by decide +kernel
theorem bt_tuple : bootBuiltins "tuple" = some (.type "tuple") := by decide +kernel
theorem small {n : Nat} (h : n ≤ 1000000) : n ≤ sizeLine := Nat.le_trans h (by decide)
theorem smallL {n : Nat} (h : n ≤ 1000000) : n < sizeLine := Nat.lt_of_le_of_lt h (by decide)
theorem cut_from (xs : List V) (k : Nat) : cutV xs (some (k : Int)) none = xs.drop k := by
  unfold cutV
  rw [HT.sIx_nat, HT.sIx_none]
  by_cases h : k ≤ xs.length
  · rw [Nat.min_eq_left h, List.take_of_length_le (by rw [List.length_drop]; omega)]
  · rw [Nat.min_eq_right (by omega), List.drop_eq_nil_of_le (by omega), List.drop_eq_nil_of_le (by omega), List.take_nil]
theorem cut_to (xs : List V) (k : Nat) : cutV xs none (some (k : Int)) = xs.take k := by
  unfold cutV
  rw [HT.sIx_nat, HT.sIx_none, List.drop_zero, Nat.sub_zero]
  by_cases h : k ≤ xs.length
  · rw [Nat.min_eq_left h]
  · rw [Nat.min_eq_right (by omega), List.take_of_length_le (Nat.le_refl _), List.take_of_length_le (by omega)]
section
variable {K : PySem.W.Frag}
/-- an open row: a list of its own that holds these trees -/
def RowAt (K : PySem.W.Frag) (H₀ H : Hp) (ts : List T) (x : V) : Prop := ∃ a xs, x = .ref a ∧ H₀ a = none ∧ H a = some (.lst xs) ∧ TRs K H ts xs
/-- the rows at p, the innermost last -/
structure RowsR (K : PySem.W.Frag) (H₀ H : Hp) (p : Addr) (st : List (List T)) (ys : List V) : Prop where
  new : H₀ p = none
  same : Same H₀ H
  at_ : H p = some (.lst ys)
  rows : All2 (RowAt K H₀ H) st.reverse ys
  nd : ((.ref p : V) :: ys).Nodup
theorem RowAt.upd {H₀ H : Hp} {p : Addr} {o : HO} {ts : List T} {x : V} (h : RowAt K H₀ H ts x) (hne : x ≠ .ref p) (k : Kt H (upd H p o)) : RowAt K H₀ (upd H p o) ts x := by
  obtain ⟨a, xs, rfl, h1, h2, h3⟩ := h
  exact ⟨a, xs, rfl, h1, by rw [upd_ne (fun z => hne (by rw [z]))]; exact h2, h3.mono k⟩
theorem rows_upd {H₀ H : Hp} {p : Addr} {o : HO} (k : Kt H (upd H p o)) : ∀ {ss : List (List T)} {ys : List V}, All2 (RowAt K H₀ H) ss ys → (.ref p : V) ∉ ys → All2 (RowAt K H₀ (upd H p o)) ss ys := by
  intro ss ys h
  induction h with
  | nil => intro _; exact .nil
  | cons r _ ih => intro hn; exact .cons (r.upd (fun z => hn (by rw [z]; exact List.mem_cons_self)) k) (ih fun z => hn (List.mem_cons_of_mem _ z))
theorem rows_open {H₀ H : Hp} {p q : Addr} {st : List (List T)} {ys : List V} (R : RowsR K H₀ H p st ys) (hq : H q = none) : RowsR K H₀ (upd (upd H q (.lst [])) p (.lst (ys ++ [.ref q]))) p ([] :: st) (ys ++ [.ref q]) := by
  have npq : p ≠ q := ne_of_none R.at_ hq
  have hq0 : H₀ q = none := R.same.free hq
  have nin : (.ref q : V) ∉ ys := fun hm => by
    obtain ⟨i, hi⟩ := List.mem_iff_getElem?.mp hm
    obtain ⟨ts, _, a, xs, e, _, h2, _⟩ := R.rows.get hi
    cases e
    rw [hq] at h2
    cases h2
  have nd := List.nodup_cons.mp R.nd
  have k1 : Kt H (upd H q (.lst [])) := Kt.new hq
  have h1 : upd H q (.lst []) p = some (.lst ys) := by rw [upd_ne npq]; exact R.at_
  have k2 : Kt (upd H q (.lst [])) (upd (upd H q (.lst [])) p (.lst (ys ++ [.ref q]))) := Kt.lst h1
  refine ⟨R.new, same_upd (same_upd R.same hq0) R.new, upd_same, ?_, ?_⟩
  · rw [List.reverse_cons]
    refine All2.append (rows_upd k2 (rows_upd k1 R.rows nin) nd.1) (All2.one ⟨q, [], rfl, hq0, ?_, TRs_nil.mpr rfl⟩)
    rw [upd_ne (Ne.symm npq)]
    exact upd_same
  · rw [← List.cons_append]
    refine List.nodup_append.mpr ⟨R.nd, by simp, fun x hx y hy e => ?_⟩
    have ey : y = .ref q := by simpa using hy
    rw [ey] at e
    subst e
    rcases List.mem_cons.mp hx with z | z
    · exact npq (V.ref.inj z).symm
    · exact nin z
theorem All2.snoc {α β : Type} {R : α → β → Prop} {as : List α} {a : α} {bs : List β} (h : All2 R (as ++ [a]) bs) : ∃ bs' b, bs = bs' ++ [b] ∧ All2 R as bs' ∧ R a b := by
  induction as generalizing bs with
  | nil =>
    cases h with
    | cons r h => cases h; exact ⟨[], _, rfl, .nil, r⟩
  | cons c as ih =>
    cases h with
    | cons r h =>
      obtain ⟨bs', b, rfl, h1, h2⟩ := ih h
      exact ⟨_ :: bs', b, rfl, .cons r h1, h2⟩
theorem rows_shut {H₀ H : Hp} {p : Addr} {r r' : List T} {rs : List (List T)} {ys : List V} (R : RowsR K H₀ H p (r :: r' :: rs) ys) :
    ∃ (ys0 : List V) (a' a : Addr) (xs' xs : List V), ys = ys0 ++ [.ref a'] ++ [.ref a] ∧ H a = some (.lst xs) ∧ H a' = some (.lst xs') ∧ p ≠ a ∧ p ≠ a' ∧ xs.length = r.length ∧ xs'.length = r'.length ∧
      ∀ b, upd H p (.lst (ys0 ++ [.ref a'])) b = none → RowsR K H₀ (upd (upd (upd H p (.lst (ys0 ++ [.ref a']))) b (.tup xs)) a' (.lst (xs' ++ [.ref b]))) p ((r' ++ [.node r]) :: rs) (ys0 ++ [.ref a']) := by
  have hr := R.rows
  rw [List.reverse_cons, List.reverse_cons] at hr
  obtain ⟨ys1, y, rfl, h1, a, xs, rfl, ha0, ha, hta⟩ := All2.snoc hr
  obtain ⟨ys0, y', rfl, h2, a', xs', rfl, ha0', ha', hta'⟩ := All2.snoc h1
  have nd := R.nd
  have ndp : (.ref p : V) ∉ ys0 ++ [.ref a'] ++ [.ref a] := (List.nodup_cons.mp nd).1
  have ndy := (List.nodup_cons.mp nd).2
  have npa : p ≠ a := fun z => ndp (by rw [z]; simp)
  have npa' : p ≠ a' := fun z => ndp (by rw [z]; simp)
  have nd1 : (ys0 ++ [V.ref a']).Nodup := (List.nodup_append.mp ndy).1
  have na' : (.ref a' : V) ∉ ys0 := fun z => (List.nodup_append.mp nd1).2.2 _ z _ (by simp) rfl
  refine ⟨ys0, a', a, xs', xs, rfl, ha, ha', npa, npa', hta.length, hta'.length, fun b hb => ?_⟩
  have k1 : Kt H (upd H p (.lst (ys0 ++ [.ref a']))) := Kt.lst R.at_
  have k2 : Kt (upd H p (.lst (ys0 ++ [.ref a']))) (upd (upd H p (.lst (ys0 ++ [.ref a']))) b (.tup xs)) := Kt.new hb
  have npb : p ≠ b := fun z => by rw [← z, upd_same] at hb; cases hb
  have nab : a' ≠ b := fun z => by
    rw [← z, upd_ne (Ne.symm npa'), ha'] at hb
    cases hb
  have hbH : H b = none := by rw [upd_ne (Ne.symm npb)] at hb; exact hb
  have hb0 : H₀ b = none := R.same.free hbH
  have h3 : upd (upd H p (.lst (ys0 ++ [.ref a']))) b (.tup xs) a' = some (.lst xs') := by rw [upd_ne nab, upd_ne (Ne.symm npa')]; exact ha'
  have k3 : Kt (upd (upd H p (.lst (ys0 ++ [.ref a']))) b (.tup xs)) (upd (upd (upd H p (.lst (ys0 ++ [.ref a']))) b (.tup xs)) a' (.lst (xs' ++ [.ref b]))) := Kt.lst h3
  have nb0 : (.ref b : V) ∉ ys0 := fun hm => by
    obtain ⟨i, hi⟩ := List.mem_iff_getElem?.mp hm
    obtain ⟨ts, _, c, zs, e, _, g2, _⟩ := h2.get hi
    cases e
    rw [hbH] at g2
    cases g2
  have np0 : (.ref p : V) ∉ ys0 := fun z => ndp (by simp [z])
  refine ⟨R.new, same_upd (same_upd (same_upd R.same R.new) hb0) ha0', ?_, ?_, ?_⟩
  · rw [upd_ne npa', upd_ne npb]
    exact upd_same
  · rw [List.reverse_cons]
    refine All2.append (rows_upd k3 (rows_upd k2 (rows_upd k1 h2 np0) nb0) na') (All2.one ⟨a', xs' ++ [.ref b], rfl, ha0', upd_same, ?_⟩)
    have kk := k1.trans (k2.trans k3)
    refine TRs.append (hta'.mono kk) (TRs_cons.mpr ⟨_, [], rfl, TR_mk (xs := xs) (SqT.of ?_) (hta.mono kk), TRs_nil.mpr rfl⟩)
    rw [upd_ne (Ne.symm nab)]
    exact upd_same
  · exact List.nodup_cons.mpr ⟨fun z => ndp (by rcases List.mem_append.mp z with z | z <;> simp [z] <;> simp_all), nd1⟩
theorem at_last {ys : List V} {v : V} : atI (ys ++ [v]) (-1) = some v := by
  unfold atI ixN
  have hl : (ys ++ [v]).length = ys.length + 1 := by simp
  rw [if_neg (by decide), if_pos (by rw [hl]; omega), hl, show ((-1 : Int) + ((ys.length + 1 : Nat) : Int)).toNat = ys.length by omega, Option.bind_some]
  simp
/-- the block of a comprehension that looks at its own name alone -/
theorem lc_own {X : Cx} {scope : Scope} {x : Str} (hk : scope.kind = .function) (hn : scope.names = [(Str.ofString ".0", NameKind.local), (x, NameKind.local)]) (hx : (x == (".0" : Str)) = false) : LcOk X scope x [] [] [] where
  kind := hk
  clos := closureFor_none fun y hy z => by
    rw [hn] at hy
    rcases List.mem_cons.mp hy with e | e
    · rw [e] at z; cases z
    · rw [List.mem_singleton.mp e] at z; cases z
  cell := fun y hy z => by
    rw [hn] at hy
    rcases List.mem_cons.mp hy with e | e
    · rw [e] at z; cases z
    · rw [List.mem_singleton.mp e] at z; cases z
  loc := fun y hy _ => by
    rw [hn] at hy ⊢
    rcases List.mem_cons.mp hy with e | e
    · rw [e]; rfl
    · rw [List.mem_singleton.mp e]
      simp [List.lookup_cons, hx]
  var := by rw [hn]; simp [List.lookup_cons, hx]
  sub := fun y c e => by simp at e
  has := fun y hy => by
    exfalso
    have key : ∀ k, (relabel scope X.env).names.lookup y = some k → k = .local := fun k e => by
      have hr : (relabel scope X.env).names = [(Str.ofString ".0", NameKind.local), (x, NameKind.local)] := by
        unfold relabel
        simp only [hn, List.map_cons, List.map_nil]
        rfl
      rw [hr] at e
      have := PySem.mem_of_lookup e
      rcases List.mem_cons.mp this with e | e
      · cases e; rfl
      · have := List.mem_singleton.mp e
        cases this; rfl
    rcases hy with h | h
    · exact absurd (key _ h) (by decide)
    · exact absurd (key _ h) (by decide)
  frk := trivial
  nd := by simp

theorem trs_of {K : PySem.W.Frag} {H : Hp} {ts : List T} {ys : List V} (h : All2 (fun t y => TR K H t y) ts ys) : TRs K H ts ys := by
  induction h with
  | nil => exact TRs_nil.mpr rfl
  | cons r _ ih => exact TRs_cons.mpr ⟨_, _, rfl, r, ih⟩
/-! ### tests, evaluated -/
end
end Sw

/-! ## tuples added and repeated, comprehensions whose elements change the heap, decks -/
namespace Sw
open PySem PySem.Spec PyProof.Rows L2
section
variable {X : Cx}
/-- t + u, any tuples -/
def rCatTA (K : PySem.W.Frag) : R2 := fun x y H Q => ∃ a b xs ys, x = .ref a ∧ y = .ref b ∧ SqT K H a xs ∧ SqT K H b ys ∧ xs.length + ys.length ≤ sizeLine ∧ ∀ p H', Same H H' → SqT K H' p (xs ++ ys) → Q (.ref p) H'
theorem op_catTA : OpR X (binaryOp .Add) (rCatTA X.K) := by
  intro pins s σ H x y v u Q I rx ry h
  obtain ⟨a, b, xs, ys, rfl, rfl, ha, hb, hz, q⟩ := h
  by_cases hx : xs = []
  · subst hx
    cases rx
    cases ry
    obtain ⟨its, r1, p1, _⟩ := I.tuple ha
    obtain ⟨its2, r2, p2, _⟩ := I.tuple hb
    have e1 : its = [] := r1.nil_iff.mpr rfl
    subst e1
    obtain ⟨⟨cls, dd, data, sl⟩, ho, hc, n, hd⟩ := id p1
    obtain ⟨⟨cls2, dd2, data2, sl2⟩, ho2, hc2, n2, hd2⟩ := id p2
    simp only at hc hd hc2 hd2
    subst hc hd hc2 hd2
    exact concat_meets ⟨_, ho, rfl⟩ ⟨_, ho2, rfl⟩ noFill_tuple_add seq_tuple_add PySem.F.slot_tuple_add PySem.F.entry_tuple_add (PySem.F.args_tuple_add_2 _ _)
      (tuple_addW0 a b ([] : List Value).toArray its2.toArray n n2 dd dd2 sl sl2 rfl) ⟨ho, ho2, ⟨.ref b, H, I, rfl, q b H (Same.refl H) hb⟩⟩
  · refine op_catT pins s σ H _ _ v u Q I rx ry ⟨a, b, xs, ys, rfl, rfl, ha, hb, hx, hz, fun e => ?_, fun _ p hp => q p _ (same_new hp _) (SqT.of upd_same)⟩
    subst e
    exact q a H (Same.refl H) (by rw [List.append_nil]; exact ha)

/-! ### t * n -/
theorem noFill_tuple_mul : fillsNumberSlot (.type "tuple") "mul" = pure false := by
  first | kernel_rfl | (unfold fillsNumberSlot; kernel_rfl)
theorem repeat_tuple : seqRepeat? (.type "tuple") = pure (some (.builtin "tuple.__mul__")) := by
  unfold seqRepeat?
  first | kernel_rfl | (simp only [typeLookup_type, builtinLookup_eq_fast]; kernel_rfl) | rfl
theorem rmul_tuple (a : Int) (t : Tok) (l : Addr) (items : Array Value) (n : Nat) (dd : Option Addr) (sl : Array (Option Value)) :
    Meets (Builtin.«int.__rmul__» ⟨[.int a t, .ref l], []⟩) (fun _ R s => s.heap.get? l = some { cls := .type "tuple", dict := dd, data := .seq items n, slots := sl } ∧ R (.ok (.ret Value.notImplemented)) s) :=
  .of_wp fun prog w A R s h => by
    obtain ⟨hp, g, d, tk, os⟩ := s
    obtain ⟨hl, h⟩ := h
    wp_walk
    exact ⟨_, rfl, h⟩
theorem tmul_same (l : Addr) (items : Array Value) (n : Nat) (dd : Option Addr) (sl : Array (Option Value)) (k : Int) (t : Tok) (h0 : (items.isEmpty || k == 1) = true) (h1 : ¬ (decide (k < -(2 ^ 63)) || decide (k ≥ 2 ^ 63)) = true) :
    Meets (Builtin.«tuple.__mul__» ⟨[.ref l, .int k t], []⟩) (fun _ R s => s.heap.get? l = some { cls := .type "tuple", dict := dd, data := .seq items n, slots := sl } ∧ R (.ok (.ret (.ref l))) s) :=
  .of_wp fun prog w A R s h => by
    obtain ⟨hp, g, d, tk, os⟩ := s
    obtain ⟨hl, h⟩ := h
    have f1 := AutoSeq1.idx_int
    have f2 := AutoSeq1.sub_tuple_tuple
    wp_walk using AutoSeq1.wpAny_loadPart' hl
    rw [if_neg h1]
    wp_walk using AutoSeq1.wpAny_loadPart' hl
    exact ⟨_, rfl, h⟩
theorem tmul_zero (l : Addr) (items : Array Value) (n : Nat) (dd : Option Addr) (sl : Array (Option Value)) (k : Int) (t : Tok) (h0 : ¬ (items.isEmpty || k == 1) = true) (h1 : ¬ (decide (k < -(2 ^ 63)) || decide (k ≥ 2 ^ 63)) = true) (h2 : (decide (k ≤ 0) || items.isEmpty) = true) :
    Meets (Builtin.«tuple.__mul__» ⟨[.ref l, .int k t], []⟩) (fun _ R s => s.heap.get? l = some { cls := .type "tuple", dict := dd, data := .seq items n, slots := sl } ∧ R (.ok (.ret (.ref s.heap.objs.size))) { s with heap := s.heap.push { cls := .type "tuple", data := .seq #[] } }) :=
  .of_wp fun prog w A R s h => by
    obtain ⟨hp, g, d, tk, os⟩ := s
    obtain ⟨hl, h⟩ := h
    have f1 := AutoSeq1.idx_int
    have f2 := AutoSeq1.sub_tuple_tuple
    wp_walk using AutoSeq1.wpAny_loadPart' hl
    rw [if_neg h1]
    wp_walk using AutoSeq1.wpAny_loadPart' hl
    exact ⟨_, rfl, h⟩
theorem tmul_more (l : Addr) (items : Array Value) (n : Nat) (dd : Option Addr) (sl : Array (Option Value)) (k : Int) (t : Tok) (h0 : ¬ (items.isEmpty || k == 1) = true) (h1 : ¬ (decide (k < -(2 ^ 63)) || decide (k ≥ 2 ^ 63)) = true) (h2 : ¬ (decide (k ≤ 0) || items.isEmpty) = true)
    (h3 : ¬ (items.size : Int) * k > (2 ^ 63 - 1) / 8) (h4 : ¬ Builtin.Tuple.tupleTooMany ((items.size : Int) * k) = true) (h5 : ((List.replicate k.toNat items).foldl (· ++ ·) #[]).size ≤ sizeLine) :
    Meets (Builtin.«tuple.__mul__» ⟨[.ref l, .int k t], []⟩) (fun _ R s => s.heap.get? l = some { cls := .type "tuple", dict := dd, data := .seq items n, slots := sl } ∧ R (.ok (.ret (.ref s.heap.objs.size))) { s with heap := s.heap.push { cls := .type "tuple", data := .seq ((List.replicate k.toNat items).foldl (· ++ ·) #[]) } }) :=
  .of_wp fun prog w A R s h => by
    obtain ⟨hp, g, d, tk, os⟩ := s
    obtain ⟨hl, h⟩ := h
    have f1 := AutoSeq1.idx_int
    have f2 := AutoSeq1.sub_tuple_tuple
    wp_walk using AutoSeq1.wpAny_loadPart' hl
    rw [if_neg h1]
    wp_walk using AutoSeq1.wpAny_loadPart' hl
    rw [if_neg h3]
    wp_walk using AutoSeq1.wpAny_loadPart' hl
    exact ⟨_, rfl, h⟩
def repV (xs : List V) (k : Int) : List V := (List.replicate k.toNat xs).flatten
/-- t * k -/
def rRepTA (K : PySem.W.Frag) : R2 := fun x y H Q => ∃ a k xs, x = .ref a ∧ y = .int k ∧ SqT K H a xs ∧ -(2 ^ 62) ≤ k ∧ k < 2 ^ 62 ∧ xs.length * k.toNat ≤ sizeLine ∧ ∀ p H', Same H H' → SqT K H' p (repV xs k) → Q (.ref p) H'
theorem op_repTA : OpR X (binaryOp .Mult) (rRepTA X.K) := by
  intro pins s σ H x y v u Q I rx ry h
  obtain ⟨a, k, xs, rfl, rfl, ha, h1, h2, hz, q⟩ := h
  cases rx
  obtain ⟨t, rfl⟩ := ry
  obtain ⟨its, r, p1, hzx⟩ := I.tuple ha
  have hlen := r.length
  obtain ⟨⟨cls, dd, data, sl⟩, ho, hc, n, hd⟩ := id p1
  simp only at hc hd
  subst hc hd
  have b1 : ¬ (decide (k < -(2 ^ 63)) || decide (k ≥ 2 ^ 63)) = true := by
    rw [decide_eq_false (by omega), decide_eq_false (by omega)]
    decide
  refine wpAny_binaryOp_repeat_ref (T := "tuple") (U := "int") (by decide) ⟨_, ho, rfl⟩ (fun s' => typeIs_int s' k t) noFill_tuple_mul F.fills_int_mul F.slot_int_rmul repeat_tuple F.slot_int_index.lookup
    (call_meets F.slot_int_rmul (typeIs_int s k t) F.entry_int_rmul (F.args_int_rmul_2 _ _) (rmul_tuple k t a its.toArray n dd sl) ⟨ho, rfl, ⟨_, ho, rfl⟩, ?_⟩)
  by_cases c0 : (its.toArray.isEmpty || k == 1) = true
  · refine call_meets F.slot_tuple_mul ⟨_, ho, rfl⟩ F.entry_tuple_mul (F.args_tuple_mul_2 _ _) (tmul_same a its.toArray n dd sl k t c0 b1) ⟨ho, ⟨.ref a, H, I, rfl, q a H (Same.refl H) ?_⟩⟩
    rcases Bool.or_eq_true_iff.mp c0 with z | z
    · have : its = [] := by simpa using z
      have hx : xs = [] := r.nil_iff.mp this
      subst hx
      have : repV ([] : List V) k = [] := by unfold repV; simp
      rw [this]
      exact ha
    · have : k = 1 := by simpa using z
      subst this
      have : repV xs 1 = xs := by unfold repV; simp
      rw [this]
      exact ha
  · by_cases c2 : (decide (k ≤ 0) || its.toArray.isEmpty) = true
    · refine call_meets F.slot_tuple_mul ⟨_, ho, rfl⟩ F.entry_tuple_mul (F.args_tuple_mul_2 _ _) (tmul_zero a its.toArray n dd sl k t c0 b1 c2) ⟨ho, ?_⟩
      have hk : k ≤ 0 := by
        rcases Bool.or_eq_true_iff.mp c2 with z | z
        · exact of_decide_eq_true z
        · rw [z] at c0
          exact absurd rfl c0
      have e0 : repV xs k = [] := by
        unfold repV
        rw [show k.toNat = 0 by omega]
        rfl
      refine ⟨.ref s.heap.objs.size, _, I.laid (t' := s.toks) (o := .tup []) (fun b ob z => Heap.get?_push_of_some _ z) (Nat.le_refl _) ?_, rfl, q _ _ (same_new (I.hok.fresh (Nat.le_refl _)) _) (by rw [e0]; exact SqT.of upd_same)⟩
      exact ⟨Nat.zero_le _, [], .nil, IsTup.new _ _⟩
    · have hk : 0 < k := by
        by_cases hk : k ≤ 0
        · rw [decide_eq_true hk] at c2
          exact absurd rfl c2
        · omega
      have hsz : its.toArray.size * k.toNat ≤ sizeLine := by rw [List.size_toArray, ← hlen]; exact hz
      have hsl : (sizeLine : Nat) = 16777216 := sizeLine_eq
      have hpr : (its.toArray.size : Int) * k = ((its.toArray.size * k.toNat : Nat) : Int) := by
        rw [Int.natCast_mul, show ((k.toNat : Nat) : Int) = k by omega]
      have hnew : (List.replicate k.toNat its.toArray).foldl (· ++ ·) #[] = (List.replicate k.toNat its).flatten.toArray := by
        have := foldl_rep its k.toNat []
        rw [List.nil_append] at this
        exact this
      have hrl : (List.replicate k.toNat its).flatten.length ≤ sizeLine := by
        rw [len_rep, Nat.mul_comm]
        simpa using hsz
      refine call_meets F.slot_tuple_mul ⟨_, ho, rfl⟩ F.entry_tuple_mul (F.args_tuple_mul_2 _ _) (tmul_more a its.toArray n dd sl k t c0 b1 c2 ?_ ?_ ?_) ⟨ho, ?_⟩
      · rw [hpr]
        have : ((2 : Int) ^ 63 - 1) / 8 = 1152921504606846975 := by decide
        rw [this]
        omega
      · unfold Builtin.Tuple.tupleTooMany
        rw [hpr, decide_eq_false (by omega)]
        decide
      · rw [hnew, List.size_toArray]
        exact hrl
      · rw [hnew]
        have rr := r.rep k.toNat
        refine ⟨.ref s.heap.objs.size, _, I.laid (t' := s.toks) (o := .tup (repV xs k)) (fun b ob z => Heap.get?_push_of_some _ z) (Nat.le_refl _) ?_, rfl, q _ _ (same_new (I.hok.fresh (Nat.le_refl _)) _) (SqT.of upd_same)⟩
        exact ⟨by unfold repV; rw [rr.length]; exact hrl, _, rr, IsTup.new _ _⟩
end

/-! ### a comprehension whose elements change the heap -/
theorem lc_rangeI {H : Hp} {lo : Int} {n : Nat} {σ : Sg} {js : List Nat} {te : TE} {Q : VK} (J : Addr → Nat → List V → Hp → Prop) (hz : n ≤ sizeLine) (h0 : ∀ D, H D = none → J D 0 [] (upd H D (.lst [])))
    (hD : ∀ D i ys H', J D i ys H' → H' D = some (.lst ys) ∧ ys.length = i)
    (hte : ∀ D i ys H' (R : VK), i < n → J D i ys H' → (∀ y H3, H3 D = some (.lst ys) → J D (i + 1) (ys ++ [y]) (upd H3 D (.lst (ys ++ [y]))) → R y H3) → te (some (.int (lo + i)) :: frv σ js) H' R)
    (q : ∀ D ys H', J D n ys H' → Q (.ref D) H') : LcRun (Itr lo n) js te σ Q H := by
  intro D hDn
  refine ⟨fun i m ys H' => m = n - i ∧ i ≤ n ∧ J D i ys H', ⟨n, by omega, Nat.zero_le _, h0 D hDn⟩, ?_⟩
  rintro i m ys H' ⟨rfl, hi, hj⟩
  obtain ⟨h1, h2⟩ := hD D i ys H' hj
  refine ⟨h1, ?_⟩
  by_cases hlt : i < n
  · refine .inr ⟨hlt, fun x H2 y => ?_⟩
    obtain ⟨e, y⟩ := y
    subst e
    subst y
    exact hte D i ys _ _ hlt hj fun y H3 g1 g2 => ⟨g1, by omega, n - (i + 1), by omega, rfl, hlt, g2⟩
  · have e : i = n := by omega
    subst e
    exact .inl ⟨Nat.le_refl _, q D ys H' hj⟩
theorem lc_tupI {K : PySem.W.Frag} {H : Hp} {a : Addr} {xs : List V} {σ : Sg} {js : List Nat} {te : TE} {Q : VK} (J : Addr → Nat → List V → Hp → Prop) (hz : xs.length ≤ sizeLine) (h0 : ∀ D, H D = none → J D 0 [] (upd H D (.lst [])))
    (hD : ∀ D i ys H', J D i ys H' → H' D = some (.lst ys) ∧ ys.length = i ∧ SqT K H' a xs)
    (hte : ∀ D i x ys H' (R : VK), xs[i]? = some x → J D i ys H' → (∀ y H3, H3 D = some (.lst ys) → J D (i + 1) (ys ++ [y]) (upd H3 D (.lst (ys ++ [y]))) → R y H3) → te (some x :: frv σ js) H' R)
    (q : ∀ D ys H', J D xs.length ys H' → Q (.ref D) H') : LcRun (Itt K a) js te σ Q H := by
  intro D hDn
  refine ⟨fun i m ys H' => m = xs.length - i ∧ i ≤ xs.length ∧ J D i ys H', ⟨xs.length, by omega, Nat.zero_le _, h0 D hDn⟩, ?_⟩
  rintro i m ys H' ⟨rfl, hi, hj⟩
  obtain ⟨h1, h2, h3⟩ := hD D i ys H' hj
  refine ⟨h1, ?_⟩
  by_cases hlt : i < xs.length
  · refine .inr ⟨⟨xs, xs[i], h3, List.getElem?_eq_getElem hlt⟩, fun x H2 y => ?_⟩
    obtain ⟨e, y⟩ := y
    subst e
    exact hte D i x ys _ _ (y xs h3) hj fun y H3 g1 g2 => ⟨g1, by omega, xs.length - (i + 1), by omega, rfl, hlt, g2⟩
  · have e : i = xs.length := by omega
    subst e
    exact .inl ⟨⟨xs, h3, Nat.le_refl _⟩, q D ys H' hj⟩

/-! ### a deck: a list of ints that is drawn from -/
end Sw

/-! ## a comprehension whose list goes straight into a name -/
namespace Sw
open PySem PySem.Spec PyProof.Rows L2
section
variable {X : Cx} {scope : Scope} {cl : List (Str × Addr)} {x : Str} {fr : List Str} {js : List Nat} {elt iter : Expr} {px pos : Pos} {wi : TI} {te : TE} {pins : List (Addr × Obj)} {s : Shared} {σ : Sg} {H : Hp}
/-- as pe_lc, with the list handed on to `use` while the block still stands -/
theorem lc_core {Q : VK} (use : Option (Value → Sem Unit)) (QQ : Value → Shared → Prop) (hc : X.calm = true) (L : LcOk X scope x fr js cl) (hi : PI X (.Name x px) iter wi)
    (he : ∀ C s H fp pins, PE (blk X scope cl C (x :: fr) s H fp pins) elt te)
    (hs : ∀ v, foldedSetIterable iter X.env v = pure v) (I : Inv X pins σ H s) (h : tLC wi js te σ H Q)
    (fin : ∀ (D C : Addr) (s6 : Shared) (H5 : Hp) (m6 : Str → Option Value), s6.heap.Ns C m6 → H5 C = none → (∀ h', Heap.SameBut C s6.heap h' → Inv X pins σ H5 { s6 with heap := h' }) → X.env.locals ≠ C → X.s₀.heap.objs.size ≤ C →
      (∀ y c, X.env.cells.lookup y = some c → c ≠ C) → (∀ p ∈ X.pn ++ pins, p.1 ≠ C) → Q (.ref D) H5 → compPost (model X.prog X.w) X.A X.xe use QQ (.ref D) C (.ok .next) s6) :
    wpAny (model X.prog X.w) X.A (comprehension (.ListComp elt [⟨.Name x px, iter, [], 0⟩] scope pos) scope X.env (firstIterPos [⟨.Name x px, iter, [], 0⟩] pos) (newList []) false (eval iter X.env) use) QQ X.xe s := by
  refine wpAny_comprehension_free rfl hs L.clos L.kind L.loc (thn (hi pins s σ H _ I h) fun v s1 h1 => thn h1 fun itv s2 h2 => ?_)
  obtain ⟨it, fp, tn, J, H2, e, I2, T, st2, f2, rd⟩ := h2
  subst e
  obtain ⟨W, ⟨m0, w0⟩, turn⟩ := rd _ I2.fresh
  have I3 := I2.lnew (ys := []) (its := []) (t' := s2.toks) .nil (Nat.zero_le _)
  refine wpAny_newObj_type ?_
  have fsz2 : ∀ b ∈ fp, b < s2.heap.objs.size := fun b hb => by
    obtain ⟨o, ho, _⟩ := T.obj 0 _ st2 b hb
    exact Heap.lt_size ho
  generalize hs3 : ({ s2 with heap := s2.heap.push { cls := .type "list", dict := none, data := .seq ([] : List Value).toArray } } : Shared) = s3
  have I3' : Inv X pins σ (upd H2 s2.heap.objs.size (.lst [])) s3 := by rw [← hs3]; exact I3
  have sz3 : s3.heap.objs.size = s2.heap.objs.size + 1 := by rw [← hs3]; exact Heap.size_push ..
  have k23 : ∀ b o, s2.heap.get? b = some o → s3.heap.get? b = some o := fun b o e => by rw [← hs3]; exact Heap.get?_push_of_some _ e
  have fsz : ∀ b ∈ fp, b < s3.heap.objs.size := fun b hb => by rw [sz3]; exact Nat.lt_succ_of_lt (fsz2 b hb)
  have f3 : ∀ b ∈ fp, FpOk X pins (upd H2 s2.heap.objs.size (.lst [])) b := fun b hb => ⟨by rw [upd_ne (Nat.ne_of_lt (fsz2 b hb))]; exact (f2 b hb).1, (f2 b hb).2⟩
  refine wpAny_newFunctionEnv L.cell (by intro y hy; simp at hy) (fun h4 hn4 hsb4 => ?_) L.kind
  have k34 : ∀ b o, s3.heap.get? b = some o → h4.get? b = some o := fun b o e => (hsb4.2 b (Nat.ne_of_lt (Heap.lt_size e))).trans (Heap.get?_push_of_some _ e)
  generalize hX' : blk X scope cl s3.heap.objs.size (x :: fr) s3 (upd H2 s2.heap.objs.size (.lst [])) fp pins = X'
  have I4 : Inv X' [] (none :: frv σ js) (upd H2 s2.heap.objs.size (.lst [])) { s3 with heap := h4, toks := s3.toks + ([] : List (Str × Value)).length } := by
    rw [← hX']; exact blk_inv I3' L hc f3 fsz hn4 k34
  have st4 : tn 0 h4 := T.keep _ _ _ st2 fun b _ o e => k34 b o (k23 b o e)
  have he' : PE X' elt te := by rw [← hX']; exact he _ _ _ _ _
  have xp : X'.prog = X.prog := by rw [← hX']; rfl
  have xw : X'.w = X.w := by rw [← hX']; rfl
  have xK : X'.K = X.K := by rw [← hX']; rfl
  have xA : X'.A = X.A := by rw [← hX']; rfl
  have xc : X'.calm = true := by rw [← hX']; rfl
  have xe : X'.xe = fun _ _ => False := by rw [← hX']; rfl
  have xn : X'.N = x :: fr := by rw [← hX']; rfl
  have xv : X'.env = compEnvC scope cl s3.heap.objs.size X.env := by rw [← hX']; rfl
  have xpn : X'.pn = X.pn ++ pins := by rw [← hX']; rfl
  have xex : X'.ex = fp := by rw [← hX']; rfl
  have xfs : X'.fs = frs X.stack := by rw [← hX']; rfl
  have back : ∀ {H' : Hp} {s' : Shared} {h' : Heap} {σ' : Sg}, Inv X' [] σ' H' s' → Heap.SameBut s3.heap.objs.size s'.heap h' → Inv X pins σ H' { s' with heap := h' } := fun {H' s' h' σ'} J' hsb => by
    rw [← hX'] at J'; exact blk_back I3' J' f3 hsb
  have frame : ∀ b ∈ fp, b ∉ frs X.stack := fun b hb z => by
    rcases List.mem_cons.mp (I3'.stkSub b z) with e | e
    · exact (f3 b hb).2.1 e
    · exact (f3 b hb).2.2.1 e
  have stat : ∀ {H' : Hp}, (∀ b ∈ fp, H' b = none) → ∀ b ∈ fp, FpOk X' [] H' b := fun {H'} hn b hb => by
    refine ⟨hn b hb, ?_, ?_, .inl (by rw [xex]; exact hb), ?_, ?_⟩
    · rw [xv]; exact Nat.ne_of_lt (fsz b hb)
    · rw [xfs]; exact frame b hb
    · rw [xv]; exact fun y c e => (f3 b hb).2.2.2.2.1 y c (L.sub y c e)
    · rw [xpn, List.append_nil]; exact (f3 b hb).2.2.2.2.2
  have loop : codeAny (model X.prog X.w) X.A (.compLoop (.ListComp elt [⟨.Name x px, iter, [], 0⟩] scope pos) 0 (.ref it) (.ref s2.heap.objs.size) (compEnvC scope cl s3.heap.objs.size X.env))
      (compPost (model X.prog X.w) X.A X.xe use QQ (.ref s2.heap.objs.size) s3.heap.objs.size) { s3 with heap := h4, toks := s3.toks + ([] : List (Str × Value)).length } := by
    refine lc_loop (fun n s' => ∃ i ys o H', Inv X' [] (o :: frv σ js) H' s' ∧ tn i s'.heap ∧ (∀ b ∈ fp, H' b = none) ∧ W i n ys H') ?_ m0 ⟨0, [], none, _, I4, st4, fun b hb => (f3 b hb).1, w0⟩
    rintro n s5 ⟨i, ys, o, H5, I5, st5, fr5, w5⟩
    obtain ⟨hD, hstep⟩ := turn i n ys H5 w5
    rcases hstep with ⟨stop, qn⟩ | ⟨go, step⟩
    · have q := T.done X' xp xw xK xc i [] s5 _ H5 (fun _ _ => False) I5 (stat fr5) st5 stop
      rw [xA] at q
      refine thn q fun r s6 ⟨hr, I6⟩ => ?_
      subst hr
      obtain ⟨m6, hn6, _⟩ := I6.loc
      rw [xv] at hn6
      have nC : H5 s3.heap.objs.size = none := by
        have q := I6.free
        rw [xv] at q
        exact q
      exact fin s2.heap.objs.size s3.heap.objs.size s6 H5 m6 hn6 nC (fun h' hsb => back I6 hsb) (Nat.ne_of_lt I3'.lt) I3'.sz (fun y c e => Nat.ne_of_lt (by
        obtain ⟨v, hv⟩ := I3'.cell y c e
        obtain ⟨o, ho, _⟩ := hv
        exact Heap.lt_size ho)) (fun p hp => Nat.ne_of_lt (Heap.lt_size (I3'.pin p hp).1)) qn
    · have q := T.item X' xp xw xK xc i [] s5 _ H5 (fun _ _ => False) I5 (stat fr5) st5 go
      rw [xA] at q
      refine thn q fun r s6 ⟨u, hr, h6⟩ => ?_
      subst hr
      refine thn h6 fun _ s7 ⟨xx, H7, I7, r7, y7, st7, fr7⟩ => ?_
      have I7' := I7.pinned (stat fr7) (T.obj _ _ st7)
      have hg : PG X' (.Name x px) (gName 0) := by
        refine pg_name (i := 0) (x := x) (by rw [xn]; exact L.nd) (by rw [xn]; rfl) ?_ ?_
        · rw [xv]; exact .inl (lookup_relabel_local L.var)
        · rw [xv]; exact .inr (lookup_relabel_local L.var)
      have q7 := hg _ s7 _ H7 xx u (fun σ8 H8 => σ8 = some xx :: frv σ js ∧ H8 = H7) I7' r7 ⟨rfl, rfl⟩
      rw [xp, xw, xA, xe, xv] at q7
      refine thn q7 fun _ s8 ⟨σ8, H8, I8, e8, e8'⟩ => ?_
      subst e8 e8'
      have q8 := he' _ s8 _ _ _ I8 (step xx _ y7)
      rw [xp, xw, xA, xe, xv] at q8
      refine thn q8 fun yv s9 ⟨y, H9, I9, r9, d9, z9, m9, hm9, w9⟩ => ?_
      have q9 := mt_append (X := X') _ s9 _ H9 (.ref s2.heap.objs.size) [y] (.ref s2.heap.objs.size) [yv] (fun z H' => H' = upd H9 s2.heap.objs.size (.lst (ys ++ [y]))) I9 rfl (.cons r9 .nil) ⟨_, ys, y, rfl, rfl, d9, z9, rfl⟩
      rw [xp, xw, xA, xe] at q9
      refine thn q9 fun _ s10 ⟨_, H10, I10, _, e10⟩ => ?_
      subst e10
      refine ⟨m9, hm9, i + 1, ys ++ [y], some xx, _, I10.unpinned, T.keep _ _ _ st7 fun b hb ob e => (I10.pin (b, ob) (List.mem_append_right _ (List.mem_append_right _ (mem_pinsAt hb e)))).1, fun b hb => ?_, w9⟩
      obtain ⟨ob, e, _⟩ := T.obj _ _ st7 b hb
      exact (I10.pin (b, ob) (List.mem_append_right _ (List.mem_append_right _ (mem_pinsAt hb e)))).2.1
  exact codeAny_compStart_list loop (T.self _ 0 _ _ _ st4 loop)

theorem ps_setLC {i : Nat} {y : Str} {py spos : Pos} (hN : X.N.Nodup) (hy : X.N[i]? = some y) (hx : Loc X.env.scope y) (hc : X.calm = true) (L : LcOk X scope x fr js cl) (hi : PI X (.Name x px) iter wi)
    (he : ∀ C s H fp pins, PE (blk X scope cl C (x :: fr) s H fp pins) elt te)
    (hs : ∀ v, foldedSetIterable iter X.env v = pure v := by intro _; rfl)
    (hsw : swapsWith (.ListComp elt [⟨.Name x px, iter, [], 0⟩] scope pos) (some (.Name y py)) spos.line X.env = pure true := by rfl)
    (hf : X.fn y = true ∨ X.env.scope.names.lookup y = some .local := by first | exact .inl rfl | exact .inr rfl | assumption) :
    PS X (.Assign [.Name y py] (.ListComp elt [⟨.Name x px, iter, [], 0⟩] scope pos) spos) (tAsg (tLC wi js te) (gName i)) := by
  intro pins s σ H D I h
  rw [exec_Assign_Name_used _ _ _ _ hsw]
  refine wpAny_bind (wpAny_standAt (wpAny_bind ?_))
  show wpAny _ X.A (do let _ ← comprehension (.ListComp elt [⟨.Name x px, iter, [], 0⟩] scope pos) scope X.env (firstIterPos [⟨.Name x px, iter, [], 0⟩] pos) (newList []) false (eval iter X.env) (some (assign (.Name y py) X.env))) _ _ s
  refine wpAny_bind (wpAny_mono (lc_core (some (assign (.Name y py) X.env)) (fun _ s' => SP X pins D .next s') hc L hi he hs I h ?_) (fun _ s' hq => wpAny_pure (wpAny_pure hq)) fun _ _ e => e)
  intro Dd C s6 H5 m6 hn nC back hLC hsz hcell hpin q
  have J : Inv X pins σ H5 s6 := back s6.heap (Heap.SameBut.refl _ _)
  show wpAny _ X.A (assign (.Name y py) X.env (.ref Dd)) _ _ _
  refine wpAny_assign_Name (store_ok2 (v := .ref Dd) J hN hy hx rfl (fun s7 I7 hsb => ?_) hf)
  obtain ⟨a, hsb, ha⟩ := hsb
  have haC : C ≠ a := by
    rcases ha with e | e
    · rw [e]; exact Ne.symm hLC
    · exact Ne.symm (hcell _ _ e)
  refine ⟨m6, hn.sameBut hsb haC, fun h' hs' => ?_⟩
  have k : ∀ b o, b ≠ C → s7.heap.get? b = some o → h'.get? b = some o := fun b o n e => hs'.extBut b o n e
  have J' := I7.turned (t' := s7.toks) k nC (Ne.symm hLC) (.inr hsz) hcell hpin
  exact ⟨_, _, J', q⟩
end
theorem qs_setLC {X : Cx} {scope : Scope} {cl : List (Str × Addr)} {x : Str} {fr : List Str} {js : List Nat} {elt iter : Expr} {px pos : Pos} {wi : TI} {te : TE} {i : Nat} {y : Str} {py spos : Pos} (hN : X.N.Nodup) (hy : X.N[i]? = some y) (hx : Loc X.env.scope y) (hc : X.calm = true) (L : LcOk X scope x fr js cl) (hi : QI X (.Name x px) iter wi)
    (he : ∀ C s H fp pins, QE (blk X scope cl C (x :: fr) s H fp pins) elt te)
    (hs : ∀ v, foldedSetIterable iter X.env v = pure v := by intro _; rfl)
    (hsw : swapsWith (.ListComp elt [⟨.Name x px, iter, [], 0⟩] scope pos) (some (.Name y py)) spos.line X.env = pure true := by rfl)
    (hf : X.fn y = true ∨ X.env.scope.names.lookup y = some .local := by first | exact .inl rfl | exact .inr rfl | assumption) :
    QS X (.Assign [.Name y py] (.ListComp elt [⟨.Name x px, iter, [], 0⟩] scope pos) spos) (tAsg (tLC wi js te) (gName i)) :=
  ⟨ps_setLC hN hy hx hc L hi.run (fun C s H fp pins => (he C s H fp pins).run) hs hsw hf⟩
end Sw

/-! ## what is done with trees, read as trees -/
namespace Sw
open PySem PySem.Spec PyProof.Rows L2
section
variable {K : PySem.W.Frag} {H : Hp} {Q : VK}
theorem nCat {ts us : List T} {x y : V} (hx : TR K H (.node ts) x) (hy : TR K H (.node us) y) (hz : ts.length + us.length ≤ sizeLine) (q : ∀ z H', Same H H' → TR K H' (.node (ts ++ us)) z → Q z H') : rCatTA K x y H Q := by
  obtain ⟨a, xs, rfl, ha, ra⟩ := TR_node.mp hx
  obtain ⟨b, ys, rfl, hb, rb⟩ := TR_node.mp hy
  refine ⟨a, b, xs, ys, rfl, rfl, ha, hb, by rw [ra.length, rb.length]; exact hz, fun p H' S h => q _ _ S (TR_mk h ((ra.append rb).mono (.of S)))⟩
theorem TRs.at {ts : List T} {xs : List V} (h : TRs K H ts xs) {i : Nat} {t : T} (e : ts[i]? = some t) : ∃ x, xs[i]? = some x ∧ TR K H t x := by
  have hl := h.length
  have hi : i < ts.length := (List.getElem?_eq_some_iff.mp e).1
  have e2 : xs[i]? = some (xs[i]'(by omega)) := List.getElem?_eq_getElem _
  obtain ⟨t', e3, h3⟩ := h.get e2
  rw [e] at e3
  cases e3
  exact ⟨_, e2, h3⟩
theorem nIx {ts : List T} {x y : V} {t : T} (hx : TR K H (.node ts) x) (i : Nat) (e : ts[i]? = some t) (q : ∀ z, TR K H t z → Q z H) (hy : y = .int ((i : Nat) : Int) := by rfl) : rIxT K x y H Q := by
  obtain ⟨a, xs, rfl, ha, ra⟩ := TR_node.mp hx
  obtain ⟨v, e2, h2⟩ := ra.at e
  exact ⟨a, xs, _, v, rfl, hy, ha, atI_nat e2, q v h2⟩
theorem nFrom {ts : List T} {x : V} (hx : TR K H (.node ts) x) (k : Nat) {j : Option Int} (q : ∀ z H', Same H H' → TR K H' (.node (ts.drop k)) z → Q z H') (hj : j = some ((k : Nat) : Int) := by rfl) : rSlTA K x j none H Q := by
  obtain ⟨a, xs, rfl, ha, ra⟩ := TR_node.mp hx
  subst hj
  refine ⟨a, xs, rfl, ha, fun p H' S h => q _ _ S (TR_mk h ?_)⟩
  rw [cut_from]
  exact (ra.drop k).mono (.of S)
theorem trs1 {t : T} {x : V} (h : TR K H t x) : TRs K H [t] [x] := TRs_cons.mpr ⟨x, [], rfl, h, TRs_nil.mpr rfl⟩
theorem trs2 {t u : T} {x y : V} (h : TR K H t x) (g : TR K H u y) : TRs K H [t, u] [x, y] := TRs_cons.mpr ⟨x, [y], rfl, h, trs1 g⟩
end
section
variable {X : Cx} {K : PySem.W.Frag}
end
/-! ### all([..]) of a list of truths; the same of trees -/
section
variable {X : Cx}
theorem bools_at : ∀ {bs : List Bool} {its : List Value}, Vals (bs.map V.bl) its → its = bs.map Value.bool
  | [], _, h => by cases h; rfl
  | b :: bs, _, h => by
    cases h with
    | cons r q =>
      rw [bools_at q]
      exact congrArg (· :: _) r
end
/-! ### bounds of trees -/
/-- at most a deep, of at most b parts -/
def B (a b : Nat) (t : T) : Prop := t.deep ≤ a ∧ t.parts ≤ b
theorem B.le {a b a' b' : Nat} {t : T} (h : B a b t) (h1 : a ≤ a') (h2 : b ≤ b') : B a' b' t := ⟨Nat.le_trans h.1 h1, Nat.le_trans h.2 h2⟩
theorem B_nil : B 0 1 (.node []) := ⟨by rw [T.deep_node, T.deepL_nil]; omega, by rw [T.parts_node, T.partsL_nil]; omega⟩
theorem B_cons {a b a' b' : Nat} {t : T} {ts : List T} (h : B a b t) (g : B a' b' (.node ts)) : B (max (a + 1) a') (b + b') (.node (t :: ts)) := by
  obtain ⟨h1, h2⟩ := h
  obtain ⟨g1, g2⟩ := g
  rw [T.deep_node] at g1
  rw [T.parts_node] at g2
  refine ⟨?_, ?_⟩
  · rw [T.deep_node, T.deepL_cons]; omega
  · rw [T.parts_node, T.partsL_cons]; omega
theorem B_cat {a b a' b' : Nat} {us : List T} (g : B a' b' (.node us)) : ∀ {ts : List T}, B a b (.node ts) → B (max a a') (b + b') (.node (ts ++ us))
  | [], _ => g.le (by omega) (by omega)
  | t :: ts, h => by
    obtain ⟨h1, h2⟩ := h
    rw [T.deep_node, T.deepL_cons] at h1
    rw [T.parts_node, T.partsL_cons] at h2
    have q := B_cat g (ts := ts) (a := a) (b := b - t.parts) ⟨by rw [T.deep_node]; omega, by rw [T.parts_node]; omega⟩
    have q1 := q.1
    have q2 := q.2
    rw [T.deep_node] at q1
    rw [T.parts_node] at q2
    refine ⟨?_, ?_⟩
    · rw [List.cons_append, T.deep_node, T.deepL_cons]; omega
    · rw [List.cons_append, T.parts_node, T.partsL_cons]; omega
theorem B_tup1 {a b : Nat} {t : T} (h : B a b t) : B (a + 1) (b + 1) (.node [t]) := (B_cons h B_nil).le (by omega) (by omega)
theorem B_row {a b n : Nat} : ∀ {ts : List T}, (∀ t ∈ ts, B a b t) → ts.length ≤ n → B (a + 1) (1 + n * b) (.node ts)
  | [], _, _ => B_nil.le (by omega) (by omega)
  | t :: ts, h, hl => by
    rw [List.length_cons] at hl
    obtain ⟨m, rfl⟩ : ∃ m, n = m + 1 := ⟨n - 1, by omega⟩
    refine (B_cons (h t List.mem_cons_self) (B_row (n := m) (fun u hu => h u (List.mem_cons_of_mem _ hu)) (by omega))).le (by omega) ?_
    rw [Nat.succ_mul]; omega
theorem B.len {a b : Nat} {ts : List T} (h : B a b (.node ts)) : ts.length < b := by
  have h2 := h.2
  rw [T.parts_node] at h2
  have : ∀ us : List T, us.length ≤ T.partsL us := fun us => by
    induction us with
    | nil => exact Nat.zero_le _
    | cons u us ih =>
      rw [List.length_cons, T.partsL_cons]
      have : 1 ≤ u.parts := by cases u; rw [T.parts_node]; omega
      omega
  have := this ts
  omega
/-- a tuple laid down, as a tree -/
theorem tupN {K : PySem.W.Frag} {H : Hp} {p : Addr} {xs : List V} {ts : List T} (hp : H p = none) (h : TRs K H ts xs) : Same H (upd H p (.tup xs)) ∧ TR K (upd H p (.tup xs)) (.node ts) (.ref p) :=
  ⟨same_new hp _, TR_mk (SqT.of upd_same) (h.mono (.new hp))⟩
theorem leaf_tr {K : PySem.W.Frag} {H : Hp} {p : Addr} (h : H p = some (.tup [])) : TR K H (.node []) (.ref p) := TR_mk (xs := []) (SqT.of h) (TRs_nil.mpr rfl)
theorem trs_rep {K : PySem.W.Frag} {H : Hp} {t : T} {x : V} (h : TR K H t x) : ∀ n : Nat, TRs K H (List.replicate n t) (List.replicate n x)
  | 0 => TRs_nil.mpr rfl
  | n + 1 => by
    rw [List.replicate_succ, List.replicate_succ]
    exact TRs_cons.mpr ⟨x, _, rfl, h, trs_rep h n⟩

/-! ### drawing -/
def leavesT (n : Nat) : T := .node (List.replicate n (.node []))

theorem B_leaves (n : Nat) : B 1 (1 + n) (leavesT n) := (B_row (n := n) (fun t ht => by rw [List.eq_of_mem_replicate ht]; exact B_nil) (by rw [List.length_replicate]; exact Nat.le_refl _)).le (by omega) (by omega)
/-- a comprehension over a range, each turn making a tree -/
theorem lc_grow {K : PySem.W.Frag} {H1 : Hp} {n : Nat} {lo : Int} {σ : Sg} {js : List Nat} {te : TE} {Q : VK} (Sh : T → Prop) (hn : n ≤ sizeLine)
    (hte : ∀ (i : Nat) H' (R : VK), i < n → Same H1 H' → (∀ y t H3, Same H' H3 → TR K H3 t y → Sh t → R y H3) → te (some (.int (lo + i)) :: frv σ js) H' R)
    (q : ∀ D ys ts H', Same H1 H' → H' D = some (.lst ys) → ts.length = n → TRs K H' ts ys → (∀ t ∈ ts, Sh t) → Q (.ref D) H') : LcRun (Itr lo n) js te σ Q H1 := by
  refine lc_rangeI (fun D i ys H' => H1 D = none ∧ Same H1 H' ∧ H' D = some (.lst ys) ∧ ys.length = i ∧ ∃ ts, TRs K H' ts ys ∧ ∀ t ∈ ts, Sh t) hn (fun D hD => ?_) (fun D i ys H' j => ⟨j.2.2.1, j.2.2.2.1⟩) (fun D i ys H' R hi j hR => ?_) (fun D ys H' j => ?_)
  · exact ⟨hD, same_new hD _, upd_same, rfl, [], TRs_nil.mpr rfl, fun _ h => by simp at h⟩
  · obtain ⟨hD, S, h1, hl, ts, htr, hsh⟩ := j
    refine hte i H' R hi S fun y t H3 S3 ht hs => ?_
    have h3 := S3 _ _ h1
    refine hR y H3 h3 ⟨hD, same_upd (S.trans S3) hD, upd_same, by rw [List.length_append, hl]; rfl, ts ++ [t], ?_, fun u hu => ?_⟩
    · exact TRs.append ((htr.mono (.of S3)).mono (Kt.lst h3)) (trs1 (ht.mono (Kt.lst h3)))
    · rcases List.mem_append.mp hu with z | z
      · exact hsh u z
      · rw [List.mem_singleton.mp z]; exact hs
  · obtain ⟨hD, S, h1, hl, ts, htr, hsh⟩ := j
    exact q D ys ts H' S h1 (by rw [← htr.length]; exact hl) htr hsh
theorem at_int {ns : List Int} {k : Int} (h0 : 0 ≤ k) (h : k < ((ns.map V.int).length : Int)) : ∃ i, atI (ns.map V.int) k = some (.int i) := by
  have hk : k.toNat < ns.length := by rw [List.length_map] at h; omega
  have e : (ns.map V.int)[k.toNat]? = some (.int ns[k.toNat]) := by rw [List.getElem?_map, List.getElem?_eq_getElem hk]; rfl
  have := atI_nat e
  rw [show ((k.toNat : Nat) : Int) = k by omega] at this
  exact ⟨_, this⟩
def spAt (K : PySem.W.Frag) : Sp := fun vs H Q _ => ∃ (l : Addr) (k : Int) (ns : List Int), vs = [.ref l, .int k] ∧ SqL K H l (ns.map V.int) ∧ 0 ≤ k ∧ ∀ i H', Same H H' → Q (.int i) H'
def spPick : Sp := fun vs H Q _ => ∃ c t m : Int, vs = [.int c, .int t, .int m] ∧ 0 < m ∧ ∀ i, 0 ≤ i → i < m → Q (.int i) H
def spLaw (K : PySem.W.Frag) : Sp := fun vs H Q _ => ∃ (a : Addr) (ns : List Int), vs = [.ref a] ∧ SqL K H a (ns.map V.int) ∧ ns.length ≤ 63 ∧ ∀ H', Q (.bl true) H'
/-! ### words -/
/-- a word's sort -/
def sortT (t : T) : Nat := match t.kids with
  | [] => 0
  | f :: _ => min 9 f.kids.length
def loadT (t : T) : T := .node (t.kids.drop 1)
theorem flat_rep {α : Type} (x : α) (n : Nat) : (List.replicate n [x]).flatten = List.replicate n x := by
  induction n with
  | zero => rfl
  | succ n ih => rw [List.replicate_succ, List.flatten_cons, ih, List.replicate_succ]; rfl
theorem cut_mid (xs : List V) (i j : Nat) : ∃ k, cutV xs (some (i : Int)) (some (j : Int)) = (xs.drop (min i xs.length)).take k := ⟨_, by unfold cutV; rw [HT.sIx_nat, HT.sIx_nat]⟩
/-- a word of so many leaves in its first -/
def wordT (n : Nat) (us : List T) : T := .node (leavesT n :: us)
def spLay (K : PySem.W.Frag) : Sp := fun vs H Q _ => ∃ x t, vs = [x] ∧ TR K H t x ∧ t.deep ≤ 400 ∧ t.parts ≤ 1000000 ∧ ∀ y H', Same H H' → TR K H' (wordT 0 t.kids) y → Q y H'
def spLoop (K : PySem.W.Frag) : Sp := fun vs H Q _ => ∃ x t, vs = [x] ∧ TR K H t x ∧ t.deep ≤ 400 ∧ t.parts ≤ 1000000 ∧ ∀ y H', Same H H' → TR K H' (wordT 8 t.kids) y → Q y H'
def spPlain (K : PySem.W.Frag) : Sp := fun vs H Q _ => ∃ n : Nat, vs = [.int (n : Int)] ∧ 1 ≤ n ∧ n ≤ 6 ∧ ∀ y H', Same H H' → TR K H' (wordT n []) y → Q y H'
def spFork (K : PySem.W.Frag) : Sp := fun vs H Q _ => ∃ x t y u, vs = [x, y] ∧ TR K H t x ∧ TR K H u y ∧ (t.deep ≤ 400 ∧ t.parts ≤ 1000000) ∧ (u.deep ≤ 400 ∧ u.parts ≤ 1000000) ∧ ∀ z H', Same H H' → TR K H' (wordT 7 (t :: u.kids)) z → Q z H'
end Sw

/-! ## a step, apart from any heap -/
namespace Sw
open PySem PySem.Spec PyProof.Rows L2
theorem nFromP {K : PySem.W.Frag} {H : Hp} {Q : VK} {σ : L2.St} {ts : List T} {x : V} (hx : TR K H (.node ts) x) (k : Nat) {j : Option Int} (q : ∀ z H', Same H H' → TR K H' (.node (ts.drop k)) z → Q z H') (hj : j = some ((k : Nat) : Int) := by rfl) : tNoPart σ H (fun u H3 => rSlTA K x j u H3 Q) := nFrom hx k q hj
theorem nIxP {K : PySem.W.Frag} {H : Hp} {Q : VK} {σ : L2.St} {ts : List T} {x y : V} {t : T} (hx : TR K H (.node ts) x) (i : Nat) (e : ts[i]? = some t) (q : ∀ z, TR K H t z → Q z H) (hy : y = .int ((i : Nat) : Int) := by rfl) : tC y σ H (fun y H2 => rIxT K x y H2 Q) := nIx hx i e q hy
def leaf : T := .node []
def ats (s : List T) (k : Nat) : T := (s[k]?).getD leaf
def spSortL (K : PySem.W.Frag) : Sp := fun vs H Q _ => ∃ x t, vs = [x] ∧ TR K H t x ∧ t.deep ≤ 400 ∧ ∀ H', Same H H' → Q (.int (sortT t : Nat)) H'
theorem ats_mem {s : List T} {k : Nat} (h : k < s.length) : s[k]? = some (ats s k) := by
  unfold ats
  rw [List.getElem?_eq_getElem h]
  rfl
theorem kids_node (t : T) : T.node t.kids = t := by cases t; rfl
section
variable {w : T} {s : List T}
end
theorem ats_in {s : List T} {k : Nat} (h : k < s.length) : ats s k ∈ s := List.mem_of_getElem? (ats_mem h)
section
variable {X : Cx}
end
/-- if c: x = e; both ways on as one -/
theorem ifSet {tc : TT} {te : TE} {i : Nat} {u : TS} {D : Ends} {σ : L2.St} {H : Hp} (P : V → Hp → Prop) (v0 : V) (hv0 : σ.set i (some v0) = σ) (k : ∀ v H', P v H' → u D (σ.set i (some v)) H')
    (h : ∀ A B : Hp → Prop, (∀ H1, (∀ R : VK, (∀ v H', P v H' → R v H') → te σ H1 R) → A H1) → (∀ H1, P v0 H1 → B H1) → tc σ H (fun b H1 => if b = true then A H1 else B H1)) :
    tSeq (tIfS tc (tAsg te (gName i)) tNext) u D σ H := by
  refine h (fun H1 => tAsg te (gName i) { D with nx := u D } σ H1) (fun H1 => tNext { D with nx := u D } σ H1) (fun H1 r => r _ fun v H' p => k v H' p) (fun H1 p => ?_)
  have q := k v0 H1 p
  rw [hv0] at q
  exact q
/-! ### bounds behind a step -/
theorem B.pos {a b : Nat} {t : T} (h : B a b t) : 1 ≤ b := Nat.le_trans (T.parts_pos t) h.2
theorem B_mem {a b : Nat} {ts : List T} {t : T} (h : B a b (.node ts)) (ht : t ∈ ts) : B a b t := by
  have h1 := h.1
  have h2 := h.2
  rw [T.deep_node] at h1
  rw [T.parts_node] at h2
  have := T.mem_deep ht
  have := T.mem_parts ht
  exact ⟨by omega, by omega⟩
theorem B_ats {a b : Nat} {ts : List T} (h : B a b (.node ts)) (k : Nat) : B a b (ats ts k) := by
  by_cases hk : k < ts.length
  · exact B_mem h (ats_in hk)
  · unfold ats
    rw [List.getElem?_eq_none (by omega)]
    exact B_nil.le (by omega) h.pos
theorem B_kids {a b : Nat} {t : T} (h : B a b t) : B a b (.node t.kids) := by rw [kids_node]; exact h
/-! ### stands -/
/-- x = e, on with what is known of it -/
theorem setP {te : TE} {i : Nat} {u : TS} {D : Ends} {σ : L2.St} {H : Hp} (P : V → Hp → Prop) (h : ∀ R : VK, (∀ v H', P v H' → R v H') → te σ H R) (k : ∀ v H', P v H' → u D (σ.set i (some v)) H') : tSeq (tAsg te (gName i)) u D σ H := h _ k
/-- the same, with the state behind it written out: else each look at a name goes through all that was set before -/
theorem setQ {te : TE} {i : Nat} {u : TS} {D : Ends} {σ : L2.St} {H : Hp} (σ' : V → L2.St) (hσ : ∀ v, σ.set i (some v) = σ' v) (P : V → Hp → Prop) (h : ∀ R : VK, (∀ v H', P v H' → R v H') → te σ H R) (k : ∀ v H', P v H' → u D (σ' v) H') : tSeq (tAsg te (gName i)) u D σ H :=
  setP P h fun v H' p => by rw [hσ]; exact k v H' p
theorem ifSetQ {tc : TT} {te : TE} {i : Nat} {u : TS} {D : Ends} {σ : L2.St} {H : Hp} (σ' : V → L2.St) (hσ : ∀ v, σ.set i (some v) = σ' v) (P : V → Hp → Prop) (v0 : V) (hv0 : σ.set i (some v0) = σ) (k : ∀ v H', P v H' → u D (σ' v) H')
    (h : ∀ A B : Hp → Prop, (∀ H1, (∀ R : VK, (∀ v H', P v H' → R v H') → te σ H1 R) → A H1) → (∀ H1, P v0 H1 → B H1) → tc σ H (fun b H1 => if b = true then A H1 else B H1)) :
    tSeq (tIfS tc (tAsg te (gName i)) tNext) u D σ H := ifSet P v0 hv0 (fun v H' p => by rw [hσ]; exact k v H' p) h
end Sw

/-! ## the program's own defs over trees: first, rest, words, stands -/
namespace Sw
open PySem PySem.Spec PyProof.Rows L2
/-- a tuple of the module -/
def TupO (o : Obj) (xs : List V) : Prop := ∃ (its : Array Value) (n : Nat), o.cls = .type "tuple" ∧ o.data = .seq its n ∧ its.size ≤ sizeLine ∧ Vals xs its.toList
theorem TupO.sq {K : PySem.W.Frag} {o : Obj} {xs : List V} {a : Addr} {H : Hp} (h : TupO o xs) (l : K.lookup a = some o) : SqT K H a xs := by
  obtain ⟨its, n, h1, h2, h3, h4⟩ := h
  exact .inr ⟨o, its, n, l, h1, h2, h3, h4⟩
def spFirst (K : PySem.W.Frag) : Sp := fun vs H Q _ => ∃ x t, vs = [x] ∧ TR K H t x ∧ t.deep ≤ 400 ∧ ∀ y H', Same H H' → TR K H' (ats t.kids 0) y → Q y H'
def spRest (K : PySem.W.Frag) : Sp := fun vs H Q _ => ∃ x t, vs = [x] ∧ TR K H t x ∧ ∀ y H', Same H H' → TR K H' (loadT t) y → Q y H'
theorem sort_ats (t : T) : sortT t = min 9 (ats t.kids 0).kids.length := by
  cases t with
  | node ts => cases ts <;> rfl
theorem TR_kids {K : PySem.W.Frag} {H : Hp} {t : T} {x : V} (h : TR K H t x) : TR K H (.node t.kids) x := by rw [kids_node]; exact h
theorem smallM {n : Nat} (h : n ≤ 16000000) : n ≤ sizeLine := Nat.le_trans h (by decide)
theorem two62 : (2 : Int) ^ 62 = 4611686018427387904 := by decide
/-- so many leaves, in a tuple -/
theorem nRep {K : PySem.W.Frag} {H : Hp} {Q : VK} {x y : V} {k : Int} (n : Nat) (hx : TR K H (.node [.node []]) x) (hy : y = .int k) (hk : k.toNat = n) (h0 : -16000000 ≤ k) (hn : n ≤ 16000000) (q : ∀ z H', Same H H' → TR K H' (leavesT n) z → Q z H') : rRepTA K x y H Q := by
  obtain ⟨a, xs, rfl, ha, ra⟩ := TR_node.mp hx
  obtain ⟨v, r, rfl, hv, hr⟩ := TRs_cons.mp ra
  rw [TRs_nil] at hr
  subst hr
  subst hk
  have h2 := two62
  refine ⟨a, k, [v], rfl, hy, ha, by omega, by omega, by show 1 * k.toNat ≤ sizeLine; exact smallM (by omega), fun p H' S h => q _ _ S ?_⟩
  have e : repV [v] k = List.replicate k.toNat v := by
    unfold repV
    exact flat_rep v _
  rw [e] at h
  exact TR_mk h (trs_rep (hv.mono (.of S)) _)
theorem nRepP {K : PySem.W.Frag} {H : Hp} {Q : VK} {σ : L2.St} {x y : V} {k : Int} (n : Nat) (hx : TR K H (.node [.node []]) x) (hy : y = .int k) (hk : k.toNat = n) (h0 : -16000000 ≤ k) (hn : n ≤ 16000000) (q : ∀ z H', Same H H' → TR K H' (leavesT n) z → Q z H') : tC y σ H (fun y H2 => rRepTA K x y H2 Q) := nRep n hx hy hk h0 hn q
section
variable {tx s : List T} {w : T} {ws : List T}
end
section
variable {tx s : List T}
variable {w : T} {ws : List T}
end
end Sw

/-! ## events and costs: xs[i] = v, sum of a tuple -/
namespace Sw
open PySem PySem.Spec PyProof.Rows L2
section
variable {X : Cx}
end
end Sw

/-! ## two texts, one behind the other -/
namespace Sw
open PySem PySem.Spec PyProof.Rows L2
/-! ### how large it gets -/
end Sw

/-! ## zip of two tuples; a comprehension with two names -/
namespace PySem
section
variable {prog : Program} {w : World} {A : Around} {E : Value → Shared → Prop} {s : Shared}
end
end PySem

namespace Sw
open PySem PySem.Spec PyProof.Rows L2
section
variable {X : Cx} {pins : List (Addr × Obj)} {σ : Sg} {H : Hp} {s : Shared} {scope : Scope} {cl : List (Str × Addr)} {x y : Str} {fr : List Str} {js : List Nat} {fp : List Addr}

end
section
variable {X : Cx} {scope : Scope} {cl : List (Str × Addr)} {x y : Str} {fr : List Str} {js : List Nat} {elt iter : Expr} {px py pt pos : Pos} {kt : Nat} {wi : TI} {te : TE}
end
end Sw

/-! ## tuples of numbers: == and !=; isinstance of a number or a tuple; tallies drawn -/
namespace Sw
open PySem PySem.Spec PyProof.Rows L2
section
variable {X : Cx} {pins : List (Addr × Obj)} {σ : Sg} {H : Hp} {s : Shared}
end
section
variable {X : Cx}
end
end Sw

/-! ## numbers, texts and tuples of them, as they are compared -/
namespace Sw
open PySem PySem.Spec PyProof.Rows L2
namespace Dt
end Dt
section
variable {K : PySem.W.Frag} {H H' : Hp}
end
section
variable {X : Cx} {pins : List (Addr × Obj)} {σ : Sg} {H : Hp} {s : Shared}
end
section
variable {X : Cx} {pins : List (Addr × Obj)} {σ : Sg} {H : Hp} {s : Shared}
end
section
variable {X : Cx}
end
end Sw

/-! ## runs, apart from any heap -/
namespace Sw
open PySem PySem.Spec PyProof.Rows L2
section
variable {b : Nat} {tx s : List T}
end
/-! ### how deep and how large it gets -/
theorem drop_deep (s : List T) (k : Nat) : T.deepL (s.drop k) ≤ T.deepL s := by
  have e := congrArg T.deepL (List.take_append_drop k s)
  rw [T.deepL_append] at e
  omega
theorem deep_eq (t : T) : t.deep = T.deepL t.kids := by cases t; rw [T.deep_node]; rfl
theorem load_deep (t : T) : (loadT t).deep ≤ t.deep := by
  unfold loadT
  rw [T.deep_node, deep_eq t]
  exact drop_deep _ _
theorem first_deep (t : T) : (ats t.kids 0).deep ≤ t.deep := by
  rw [deep_eq t]
  cases t.kids with
  | nil => show T.deep (.node []) ≤ _; rw [T.deep_node, T.deepL_nil]; omega
  | cons u us => show u.deep ≤ _; rw [T.deepL_cons]; omega
/-! ### plain data: numbers, and tuples of such -/
/-! ### what the program's own defs promise -/
end Sw

/-! ## putting a tree into a text -/
namespace Sw
open PySem PySem.Spec PyProof.Rows L2
section
variable (p : List T) (d x : T) (Y : List T)
end
end Sw

/-! ## texts of signs: parted, joined, looked at -/
namespace PySem
open Builtin Builtin.Str
section
variable {prog : Program} {w : World} {A : Around} {E : Value → Shared → Prop} {s : Shared} {x : Str} {t : Tok} {Q : Value → Shared → Prop}
/-- a list of the parts, newly laid -/
theorem split_laid {y : Str} {u : Tok} (hy : (y.length == 0) = false)
    (q : ∀ (l : List (Str × Tok)) (k : Nat), l.map (·.1) = Txt.split x y → Q (.ref s.heap.objs.size) { s with toks := k, heap := s.heap.push { cls := .type "list", data := .seq (strValues l).toArray } })
    (z1 : x.length ≤ sizeLine) (z2 : (partsBetween x (occurrences x y 0 x.length (x.length + 1)) y.length).length ≤ sizeLine) : wpAny (model prog w) A (call (.builtin "str.split") [.str x t, .str y u]) Q E s := by
  cases c1 : (decide (x.length < y.length) || decide (Builtin.Str.strKind x < Builtin.Str.strKind y))
  · cases c2 : (occurrences x y 0 x.length (x.length + 1)).isEmpty
    · refine call_meets F.slot_str_split (typeIs_str _ _ _) F.entry_str_split (F.args_str_split_2 _ _) (meets_str_split_sep x y t u c1 hy c2 z1 z2) ?_
      show wants Q E _ { s with toks := _, heap := s.heap.push { cls := .type "list", data := .seq (strsFrom s.toks (partsBetween x (occurrences x y 0 x.length (x.length + 1)) y.length)).toArray } }; rw [strsFrom_eq]
      exact q (numbered s.toks _) _ ((numbered_texts _ _).trans ((if_neg (ne_true_of_eq_false c1)).trans (if_neg (ne_true_of_eq_false c2))).symm)
    · exact call_meets F.slot_str_split (typeIs_str _ _ _) F.entry_str_split (F.args_str_split_2 _ _) (meets_str_split_not_found x y t u c1 hy c2) (q [(x, t)] s.toks ((if_neg (ne_true_of_eq_false c1)).trans (if_pos c2)).symm)
  · exact call_meets F.slot_str_split (typeIs_str _ _ _) F.entry_str_split (F.args_str_split_2 _ _) (meets_str_split_cannot_occur x y t u c1) (q [(x, t)] s.toks (if_pos c1).symm)
end
end PySem
namespace Sw
open PySem PySem.Spec PyProof.Rows L2
/-- parts with a row of signs between any two -/
def joinL (sep : List Nat) : List (List Nat) → List Nat
  | [] => []
  | [l] => l
  | l :: r => l ++ sep ++ joinL sep r
theorem joinL_cons (sep l : List Nat) {r : List (List Nat)} (h : r ≠ []) : joinL sep (l :: r) = l ++ sep ++ joinL sep r := by
  cases r with
  | nil => exact absurd rfl h
  | cons _ _ => rfl
theorem sjoin_tx (sep : List Nat) : ∀ ls : List (List Nat), PySem.Str.join (tx sep) (ls.map tx) = tx (joinL sep ls)
  | [] => rfl
  | [l] => rfl
  | l :: m :: r => by
    have ih := sjoin_tx sep (m :: r)
    show tx l ++ tx sep ++ PySem.Str.join (tx sep) ((m :: r).map tx) = _
    rw [ih, tx_append, tx_append]
    rfl
theorem tjoin_tx (sep : List Nat) (ls : List (List Nat)) : Txt.join (tx sep) (ls.map tx) = tx (joinL sep ls) := by
  have key : ∀ (ls : List (List Nat)) (acc : List Nat), (ls.map tx).foldl (fun acc p => acc ++ (tx sep).cps ++ p.cps) acc.toArray = (joinL sep (acc :: ls)).toArray := by
    intro ls
    induction ls with
    | nil => intro acc; rfl
    | cons l ls ih =>
      intro acc
      rw [List.map_cons, List.foldl_cons]
      have e : acc.toArray ++ (tx sep).cps ++ (tx l).cps = (acc ++ sep ++ l).toArray := by simp [tx]
      rw [e, ih]
      cases ls with
      | nil => rfl
      | cons m r =>
        show (acc ++ sep ++ l ++ sep ++ joinL sep (m :: r)).toArray = (acc ++ sep ++ (l ++ sep ++ joinL sep (m :: r))).toArray
        simp only [List.append_assoc]
  show Str.mk _ = _
  cases ls with
  | nil => rfl
  | cons l ls =>
    have := key ls l
    show Str.mk (((l :: ls).map tx).drop 1 |>.foldl (fun acc p => acc ++ (tx sep).cps ++ p.cps) (((l :: ls).map tx).headD Str.empty).cps) = tx (joinL sep (l :: ls))
    rw [List.map_cons, List.drop_one, List.tail_cons, List.headD_cons]
    exact congrArg Str.mk this
theorem joinL_len (sep : List Nat) : ∀ ls : List (List Nat), (joinL sep ls).length ≤ ls.flatten.length + ls.length * sep.length
  | [] => by simp [joinL]
  | [l] => by simp [joinL]
  | l :: m :: r => by
    have ih := joinL_len sep (m :: r)
    show (l ++ sep ++ joinL sep (m :: r)).length ≤ _
    rw [List.length_append, List.length_append, List.flatten_cons, List.length_append, List.length_cons (a := l), Nat.add_mul]
    omega
section
variable {X : Cx}
theorem call_any (hc : X.calm = true) : CallR X (.builtin "any") (fun xs H Q => ∃ (p : Addr) (bs : List Bool), xs = [.ref p] ∧ SqL X.K H p (bs.map V.bl) ∧ Q (.bl (bs.any id)) H) := by
  intro pins s σ H xs us Q I r h
  obtain ⟨p, bs, rfl, hq, q⟩ := h
  obtain ⟨u, rfl, rx⟩ := vals1 r
  cases rx
  obtain ⟨its, r', pl, hz⟩ := I.list hq
  have hit := bools_at r'
  subst hit
  have hl := pl.isList
  have hlt : p < s.heap.objs.size := by obtain ⟨_, e, _⟩ := hl; exact Heap.lt_size e
  refine call_any_walk (wpAny_pyIter_list hl ?_)
  refine ⟨_, _, _, _, _, _, fun i => bs.getD i false, rfl, Walks.list (A := X.A.in1) (I.ok.hd hc) _ p (Nat.ne_of_lt hlt) (bs.map Value.bool).toArray, ⟨⟨_, Heap.get?_push_size _ rfl, rfl, rfl⟩, hl.push _⟩, ?_, fun h' tk hk => ?_⟩
  · intro i v s Q E hv hQ
    rw [List.getElem?_toArray, List.getElem?_map] at hv
    cases hh : bs[i]? with
    | none => rw [hh] at hv; cases hv
    | some b =>
      rw [hh] at hv
      cases hv
      have hQ' : Q (bs.getD i false) s := hQ
      rw [List.getD_eq_getElem?_getD, hh] at hQ'
      exact wpAny_truthy_bool hQ'
  · have es : (List.range (bs.map Value.bool).toArray.size).any (fun i => bs.getD i false) = bs.any id := by
      rw [List.size_toArray, List.length_map, Bool.eq_iff_iff, List.any_eq_true, List.any_eq_true]
      refine ⟨fun ⟨i, hi, e⟩ => ?_, fun ⟨b, hb, e⟩ => ?_⟩
      · have hi' := List.mem_range.mp hi
        rw [List.getD_eq_getElem?_getD, List.getElem?_eq_getElem hi', Option.getD_some] at e
        exact ⟨_, List.getElem_mem hi', e⟩
      · obtain ⟨i, hi, e'⟩ := List.getElem_of_mem hb
        refine ⟨i, List.mem_range.mpr hi, ?_⟩
        rw [List.getD_eq_getElem?_getD, List.getElem?_eq_getElem hi, Option.getD_some, e']
        exact e
    rw [es]
    exact ⟨.bl (bs.any id), H, I.kept (old_kept hk), rfl, q⟩
/-- sep.join(l) -/
def rJoinS (K : PySem.W.Frag) : V → List V → Hp → VK → Prop := fun x vs H Q => ∃ (l : Addr) (sep : List Nat) (ls : List (List Nat)), x = .str (tx sep) ∧ vs = [.ref l] ∧ SqL K H l (ls.map fun c => V.str (tx c)) ∧ ls.flatten.length + ls.length * sep.length ≤ 16777216 ∧ Q (.str (tx (joinL sep ls))) H
theorem mt_joinS : MtM X "str.join" (rJoinS X.K) := by
  intro pins s σ H x vs v us Q I rx rv h
  obtain ⟨l, sep, ls, rfl, rfl, hq, hz, q⟩ := h
  obtain ⟨t, rfl⟩ := rx
  obtain ⟨u, rfl, ru⟩ := rv.one
  cases ru
  obtain ⟨its, r, pl, _⟩ := I.list hq
  have hs : StrsAre its (ls.map tx) := strsAre_of (by rw [List.map_map]; exact r)
  refine join_list (ys := ls.map tx) pl.isList (by simpa using hs) ?_ fun t' k => ?_
  · rw [sum_len, tx_len, List.length_map]
    exact hz
  · rw [show Txt.join (tx sep) (ls.map tx) = tx (joinL sep ls) from tjoin_tx sep ls]
    exact ⟨.str (tx (joinL sep ls)), H, I.tok _, ⟨_, rfl⟩, q⟩
/-- text.split(one sign) -/
def rSplit : V → List V → Hp → VK → Prop := fun x vs H Q => ∃ (l : List Nat) (c : Nat), x = .str (tx l) ∧ vs = [.str (tx [c])] ∧ l.length ≤ 8000000 ∧
  ∀ D ls, H D = none → joinL [c] ls = l → ls ≠ [] → (∀ p ∈ ls, c ∉ p) → Q (.ref D) (upd H D (.lst (ls.map fun p => V.str (tx p))))
theorem tx_of (z : Str) : z = tx z.cps.toList := rfl
theorem strs_tx : ∀ ss : List Str, ∃ ls : List (List Nat), ss = ls.map tx
  | [] => ⟨[], rfl⟩
  | z :: ss => by
    obtain ⟨ls, e⟩ := strs_tx ss
    exact ⟨z.cps.toList :: ls, by rw [List.map_cons, ← e, ← tx_of]⟩
theorem vals_strs : ∀ {l : List (Str × Tok)} {ls : List (List Nat)}, l.map (·.1) = ls.map tx → Vals (ls.map fun p => V.str (tx p)) (strValues l)
  | [], ls, h => by
    cases ls with
    | nil => exact .nil
    | cons _ _ => cases h
  | (z, t) :: l, ls, h => by
    cases ls with
    | nil => cases h
    | cons p ls =>
      have h' := List.cons.inj h
      have e : z = tx p := h'.1
      subst e
      exact .cons ⟨t, rfl⟩ (vals_strs h'.2)
theorem mt_split : MtM X "str.split" rSplit := by
  intro pins s σ H x vs v us Q I rx rv h
  obtain ⟨l, c, rfl, rfl, hl, q⟩ := h
  obtain ⟨t, rfl⟩ := rx
  obtain ⟨u, rfl, ru⟩ := rv.one
  obtain ⟨t', rfl⟩ := ru
  have z2 : (Builtin.Str.partsBetween (tx l) (Builtin.Str.occurrences (tx l) (tx [c]) 0 (tx l).length ((tx l).length + 1)) (tx [c]).length).length ≤ sizeLine := by
    rw [PyProof.Rows.len_partsBetween]
    have := StrLaws.occ_length_le (tx l) (tx [c]) 0 (tx l).length ((tx l).length + 1)
    rw [tx_len] at this ⊢
    exact Nat.le_trans (Nat.succ_le_succ this) (Nat.le_trans (Nat.add_le_add_right hl 2) (by decide))
  refine split_laid rfl (fun ll k e => ?_) (by rw [tx_len]; exact Nat.le_trans hl (by decide)) z2
  obtain ⟨ls, els⟩ := strs_tx (ll.map (·.1))
  have e2 : Txt.split (tx l) (tx [c]) = ls.map tx := by rw [← e, els]
  have hj : joinL [c] ls = l := by
    have := StrLaws.join_split (tx l) (tx [c])
    rw [e2, sjoin_tx] at this
    exact tx_inj.mp this
  have hf : ∀ p ∈ ls, c ∉ p := fun p hp => by
    have := StrLaws.split_free (tx l) c (tx p) (by
      show tx p ∈ Txt.split (tx l) (tx [c])
      rw [e2]
      exact List.mem_map.mpr ⟨p, hp, rfl⟩)
    simpa [tx] using this
  have hne : ls ≠ [] := fun z => by
    have := PyProof.Rows.split_pos (tx l) (tx [c])
    rw [e2, z] at this
    simp at this
  have hln : ls.length ≤ sizeLine := by
    have := PyProof.Rows.split_le (tx l) (tx [c])
    rw [e2, List.length_map, tx_len] at this
    exact Nat.le_trans this (Nat.le_trans (Nat.add_le_add_right hl 2) (by decide))
  have hn : H s.heap.objs.size = none := I.hok.fresh (Nat.le_refl _)
  have I2 := I.lnew (ys := ls.map fun p => V.str (tx p)) (its := strValues ll) (t' := k) (vals_strs els) (by rw [List.length_map]; exact hln)
  exact ⟨.ref s.heap.objs.size, _, I2, rfl, q _ ls hn hj hne hf⟩
/-- text.startswith(one sign) -/
def rStarts : V → List V → Hp → VK → Prop := fun x vs H Q => ∃ (l : List Nat) (c : Nat), x = .str (tx l) ∧ vs = [.str (tx [c])] ∧ Q (.bl (l.head? == some c)) H
theorem starts_tx (l : List Nat) (c : Nat) : Txt.startswith (tx l) (tx [c]) = (l.head? == some c) := by
  unfold Txt.startswith Builtin.Str.subAt
  cases l with
  | nil => rfl
  | cons a r =>
    show (decide (0 + 1 ≤ (a :: r).length) && ((a :: r).toArray.extract 0 (0 + 1) == #[c])) = (some a == some c)
    have e : (a :: r).toArray.extract 0 (0 + 1) = #[a] := by simp
    rw [e, decide_eq_true (by simp), Bool.true_and]
    simp
theorem mt_starts : MtM X "str.startswith" rStarts := by
  intro pins s σ H x vs v us Q I rx rv h
  obtain ⟨l, c, rfl, rfl, q⟩ := h
  obtain ⟨t, rfl⟩ := rx
  obtain ⟨u, rfl, ru⟩ := rv.one
  obtain ⟨t', rfl⟩ := ru
  refine SC.startswith ?_
  rw [starts_tx]
  exact ⟨.bl _, H, I, rfl, q⟩
/-- a text times a number -/
theorem mul_txs (m : List Nat) (n : Nat) : Txt.mul (tx m) (n : Int) = tx (List.replicate n m).flatten := by
  unfold Txt.mul
  by_cases h1 : (n : Int) < 1
  · have : n = 0 := by omega
    subst this
    rw [if_pos (by decide)]
    rfl
  · rw [if_neg h1]
    by_cases h2 : (((n : Int) == 1) || (tx m).length == 0) = true
    · rw [if_pos h2]
      rw [Bool.or_eq_true] at h2
      rcases h2 with h2 | h2
      · have : n = 1 := by have := eq_of_beq h2; omega
        subst this
        simp [List.replicate]
      · have : m = [] := List.length_eq_zero_iff.mp (by rw [tx_len] at h2; exact eq_of_beq h2)
        subst this
        simp
    · rw [if_neg h2]
      show Str.mk _ = Str.mk _
      rw [Int.toNat_natCast]
      have key : ∀ (k : Nat) (acc : List Nat), (List.replicate k (tx m).cps).foldl (· ++ ·) acc.toArray = (acc ++ (List.replicate k m).flatten).toArray := by
        intro k
        induction k with
        | zero => intro acc; simp
        | succ k ih =>
          intro acc
          rw [List.replicate_succ, List.foldl_cons]
          have e : acc.toArray ++ (tx m).cps = (acc ++ m).toArray := by simp [tx]
          rw [e, ih, List.append_assoc, List.replicate_succ, List.flatten_cons]
      have := key n []
      exact congrArg Str.mk (by simpa using this)
def rRepSS : R2 := fun x y H Q => ∃ (m : List Nat) (n : Nat), x = .str (tx m) ∧ y = .int (n : Int) ∧ m.length ≤ 8 ∧ n ≤ 100000 ∧ Q (.str (tx (List.replicate n m).flatten)) H
theorem op_repSS : OpR X (binaryOp .Mult) rRepSS := by
  intro pins s σ H x y v u Q I rx ry h
  obtain ⟨m, n, rfl, rfl, hm, hn, q⟩ := h
  obtain ⟨t, rfl⟩ := rx
  obtain ⟨t', rfl⟩ := ry
  refine SB.mul (mulOk_of 8 100000 (by rw [tx_len]; exact hm) (by omega) (by omega) (by decide) (by decide)) fun t'' k => ?_
  rw [mul_txs]
  exact ⟨.str _, H, I.tok _, ⟨_, rfl⟩, q⟩
end
open SeqAt in
theorem tup_indexAt (l : Addr) (items : Array Value) (n : Nat) (dd : Option Addr) (sl : Array (Option Value)) (x : Value) (e : Value → Bool) (j : Nat) (hj : j < items.size) (hit : e items[j] = true) (hno : ∀ m (hm : m < items.size), m < j → e items[m] = false) :
    Meets (Builtin.«tuple.index» ⟨[.ref l, x], []⟩) (fun A R u => u.heap.get? l = some { cls := .type "tuple", dict := dd, data := .seq items n, slots := sl } ∧ (∀ y, y ∈ items → EqAt A.in1 u y x (e y)) ∧ R (.ok (.ret (.int j u.toks))) { u with toks := u.toks + 1 }) :=
  .of_wp fun prog w A R u h => by
    obtain ⟨hp, g, d, tk, os⟩ := u; obtain ⟨hl, he, h⟩ := h
    unfold Builtin.«tuple.index»
    simp only [Std.Legacy.Range.forIn_eq_forIn_range']
    wp_walk using wpAny_loadPart' hl, wpAny_forIn_list _ (fun rest b s' => b.1 = none ∧ s' = ⟨hp, g, d, tk, os⟩ ∧ ∃ i, i ≤ j ∧ rest = (List.range' 0 items.size).drop i) _
    case turn =>
      rintro i rest b s' ⟨hb, rfl, m, hm, hr⟩
      have hlt : m < items.size := by
        have := congrArg List.length hr
        simp at this
        omega
      have hr2 : (List.range' 0 items.size).drop m = m :: (List.range' 0 items.size).drop (m + 1) := by
        rw [List.drop_eq_getElem_cons (by simpa using hlt)]
        simp
      rw [hr2] at hr
      obtain ⟨rfl, rfl⟩ := List.cons.inj hr
      have e1 : items[i]? = some items[i] := Array.getElem?_eq_getElem hlt
      rw [e1]
      refine wpAny_bind (he _ (Array.getElem_mem hlt) prog w _ _ ?_)
      by_cases hmj : i = j
      · subst hmj
        rw [hit]
        wp_walk
        exact ⟨_, rfl, h⟩
      · rw [hno i hlt (by omega)]
        wp_walk
        exact ⟨rfl, rfl, i + 1, by omega, rfl⟩
    case fin =>
      rintro ⟨b1, b2⟩ s' ⟨hb, rfl, m, hm, hr⟩
      have := congrArg List.length hr
      simp at this
      omega
    case h =>
      refine ⟨rfl, rfl, 0, Nat.zero_le _, ?_⟩
      simp
end Sw

/-! ## texts written word by word, apart from any heap -/
namespace Sw
open PySem PySem.Spec PyProof.Rows L2
/-- the name of a sort -/
def nmC (k : Nat) : List Nat := ([[108, 97, 121], [100, 114, 111, 112], [116, 119, 105, 110], [115, 119, 97, 112], [102, 114, 111, 110, 116], [112, 97, 114, 116], [116, 117, 114, 110], [102, 111, 114, 107], [119, 104, 105, 108, 101]] : List (List Nat)).getD k []
def namesV : List V := (List.range 9).map fun k => V.str (tx (nmC k))
theorem names_tx : [V.str (Str.ofString "lay"), .str (Str.ofString "drop"), .str (Str.ofString "twin"), .str (Str.ofString "swap"), .str (Str.ofString "front"), .str (Str.ofString "part"), .str (Str.ofString "turn"), .str (Str.ofString "fork"), .str (Str.ofString "while")] = namesV := by
  rw [show Str.ofString "lay" = tx [108, 97, 121] by decide +kernel, show Str.ofString "drop" = tx [100, 114, 111, 112] by decide +kernel, show Str.ofString "twin" = tx [116, 119, 105, 110] by decide +kernel,
    show Str.ofString "swap" = tx [115, 119, 97, 112] by decide +kernel, show Str.ofString "front" = tx [102, 114, 111, 110, 116] by decide +kernel, show Str.ofString "part" = tx [112, 97, 114, 116] by decide +kernel,
    show Str.ofString "turn" = tx [116, 117, 114, 110] by decide +kernel, show Str.ofString "fork" = tx [102, 111, 114, 107] by decide +kernel, show Str.ofString "while" = tx [119, 104, 105, 108, 101] by decide +kernel]
  rfl
theorem name_at {k : Nat} (h : k < 9) : atI namesV (k : Int) = some (.str (tx (nmC k))) := atI_nat (by unfold namesV; rw [List.getElem?_map, List.getElem?_range h]; rfl)
theorem tx_lb : Str.ofString "[" = tx [91] := by decide +kernel
theorem tx_rb : Str.ofString "]" = tx [93] := by decide +kernel
theorem tx_bar : Str.ofString "|" = tx [124] := by decide +kernel
theorem tx_bang : Str.ofString "!" = tx [33] := by decide +kernel
theorem tx_tick : Str.ofString "'" = tx [39] := by decide +kernel
theorem tx_blank : Str.ofString " " = tx [32] := by decide +kernel
/-- what makes a word odd by its first -/
def headOdd (w : T) : Bool := T.beq w leaf || (ats w.kids 0).kids.any fun t => !T.beq t leaf
def oddT (w : T) : Bool := if headOdd w = true then true else if sortT w = 0 ∨ sortT w = 8 then false else if sortT w = 7 then T.beq (loadT w) leaf else (decide (sortT w = 9) || !T.beq (loadT w) leaf)
theorem odd_sort {w : T} (h : oddT w = false) : sortT w ≤ 8 := by
  have h9 : sortT w ≤ 9 := by unfold sortT; split <;> omega
  rcases Nat.lt_or_ge (sortT w) 9 with z | z
  · omega
  · have e : sortT w = 9 := by omega
    unfold oddT at h
    rw [e] at h
    split at h
    · cases h
    · rw [if_neg (by omega), if_neg (by omega)] at h
      simp at h
mutual
/-- a word, and the pieces that write it -/
inductive Wr : T → List (List Nat) → Prop
  | odd {w : T} (h : oddT w = true) : Wr w [33 :: w.wr]
  | lay {w : T} (h : oddT w = false) (hs : sortT w = 0) : Wr w [39 :: (loadT w).wr]
  | plain {w : T} (h : oddT w = false) (h1 : 1 ≤ sortT w) (h6 : sortT w ≤ 6) : Wr w [nmC (sortT w)]
  | fork {w : T} {ps qs : List (List Nat)} (h : oddT w = false) (hs : sortT w = 7) (hy : Ts (ats (loadT w).kids 0).kids ps) (hn : Ts (loadT (loadT w)).kids qs) : Wr w ([nmC 7, [91]] ++ ps ++ [[124]] ++ qs ++ [[93]])
  | loop {w : T} {ps : List (List Nat)} (h : oddT w = false) (hs : sortT w = 8) (hb : Ts (loadT w).kids ps) : Wr w ([nmC 8, [91]] ++ ps ++ [[93]])
inductive Ts : List T → List (List Nat) → Prop
  | nil : Ts [] []
  | cons {w : T} {ws : List T} {ps qs : List (List Nat)} (h : Wr w ps) (g : Ts ws qs) : Ts (w :: ws) (ps ++ qs)
end
theorem load_lt (w : T) : T.partsL (loadT w).kids + 1 ≤ w.parts := by
  cases w with
  | node ts =>
    cases ts with
    | nil => rw [T.parts_node]; show T.partsL [] + 1 ≤ _; rw [T.partsL_nil]; omega
    | cons f r => rw [T.parts_node, T.partsL_cons]; show T.partsL r + 1 ≤ _; omega
theorem two_lt (l : T) : T.partsL (ats l.kids 0).kids + T.partsL (loadT l).kids ≤ T.partsL l.kids := by
  cases l with
  | node ts =>
    cases ts with
    | nil => show T.partsL [] + T.partsL [] ≤ T.partsL []; rw [T.partsL_nil]; omega
    | cons f r =>
      show T.partsL f.kids + T.partsL r ≤ T.partsL (f :: r)
      rw [T.partsL_cons]
      have := T.parts_kids f
      omega
/-- signs and pieces of a writing -/
def szP (ps : List (List Nat)) : Nat := ps.flatten.length + ps.length
theorem szP_append (a b : List (List Nat)) : szP (a ++ b) = szP a + szP b := by unfold szP; rw [List.flatten_append, List.length_append, List.length_append]; omega
theorem szP_one (l : List Nat) : szP [l] = l.length + 1 := by unfold szP; simp
theorem nm_len (k : Nat) : (nmC k).length ≤ 5 := by
  rcases Nat.lt_or_ge k 9 with h | h
  · have : ∀ k, k < 9 → (nmC k).length ≤ 5 := by decide
    exact this k h
  · unfold nmC
    rw [List.getD_eq_getElem?_getD, List.getElem?_eq_none (by show 9 ≤ k; exact h)]
    exact Nat.zero_le _
mutual
theorem wr_sz : ∀ {w : T} {ps : List (List Nat)}, Wr w ps → szP ps ≤ 12 * w.parts
  | w, _, .odd h => by rw [szP_one, List.length_cons, T.wr_len]; have := T.parts_pos w; omega
  | w, _, .lay h hs => by rw [szP_one, List.length_cons, T.wr_len]; have := load_lt w; have := T.parts_kids (loadT w); omega
  | w, _, .plain h h1 h6 => by rw [szP_one]; have := nm_len (sortT w); have := T.parts_pos w; omega
  | w, _, .fork (ps := ps) (qs := qs) h hs hy hn => by
    have a1 := ts_sz hy
    have a2 := ts_sz hn
    have h1 := load_lt w
    have h2 := two_lt (loadT w)
    rw [szP_append, szP_append, szP_append, szP_append, szP_one, szP_one]
    have : szP [nmC 7, [91]] = 7 := rfl
    simp only [List.length_singleton]
    omega
  | w, _, .loop (ps := ps) h hs hb => by
    have a1 := ts_sz hb
    have h1 := load_lt w
    rw [szP_append, szP_append, szP_one]
    have : szP [nmC 8, [91]] = 8 := rfl
    simp only [List.length_singleton]
    omega
theorem ts_sz : ∀ {ws : List T} {ps : List (List Nat)}, Ts ws ps → szP ps ≤ 12 * T.partsL ws
  | _, _, .nil => Nat.zero_le _
  | _, _, .cons h g => by
    have a1 := wr_sz h
    have a2 := ts_sz g
    rw [szP_append, T.partsL_cons]
    omega
end
/-! ## in the heap -/
/-- a comprehension over a tuple of trees -/
theorem lc_mapT {K : PySem.W.Frag} {H : Hp} {a : Addr} {ts : List T} {xs : List V} {σ : Sg} {js : List Nat} {te : TE} {Q : VK} (f : T → V) (ha : SqT K H a xs) (hts : TRs K H ts xs) (hz : xs.length ≤ sizeLine)
    (hte : ∀ t x H' (R : VK), t ∈ ts → Same H H' → TR K H' t x → (∀ H3, Same H' H3 → R (f t) H3) → te (some x :: frv σ js) H' R)
    (q : ∀ D H', Same H H' → H' D = some (.lst (ts.map f)) → Q (.ref D) H') : LcRun (Itt K a) js te σ Q H := by
  refine lc_tupI (K := K) (a := a) (xs := xs) (fun D i ys H' => H D = none ∧ Same H H' ∧ H' D = some (.lst ys) ∧ ys.length = i ∧ ys = (ts.take i).map f) hz (fun D hD => ?_) (fun D i ys H' j => ⟨j.2.2.1, j.2.2.2.1, sqT_mono (.of j.2.1) ha⟩) (fun D i x ys H' R hx j hR => ?_) (fun D ys H' j => ?_)
  · exact ⟨hD, same_new hD _, upd_same, rfl, rfl⟩
  · obtain ⟨hD, S, h1, hl, e⟩ := j
    obtain ⟨t, et, ht⟩ := hts.get hx
    refine hte t x H' R (List.mem_of_getElem? et) S (ht.mono (.of S)) fun H3 S3 => ?_
    refine hR _ H3 (S3 _ _ h1) ⟨hD, same_upd (S.trans S3) hD, upd_same, by rw [List.length_append, hl]; rfl, ?_⟩
    rw [List.take_add_one, et, List.map_append, e]
    rfl
  · obtain ⟨hD, S, h1, hl, e⟩ := j
    refine q D H' S ?_
    rw [h1, e, List.take_of_length_le (by rw [hts.length]; exact Nat.le_refl _)]
def spOdd (K : PySem.W.Frag) : Sp := fun vs H Q _ => ∃ x w, vs = [x] ∧ TR K H w x ∧ B 400 100000 w ∧ ∀ H', Same H H' → Q (.bl (oddT w)) H'
theorem bt_any : bootBuiltins "any" = some (.builtin "any") := by decide +kernel
theorem op_neTrK {X : Cx} {K : PySem.W.Frag} {A : Around} {n : Nat} (hK : X.K = K) (hA : X.A = A) (hu : A.units + n + 1 < cLine) : OpR X (compareOp .NotEq) (rNeTr K n) := by subst hK; subst hA; exact op_neTr hu
end Sw

/-! ## instances of an own class in shut judgements; the reading, as it stands in the heap -/
namespace Sw
open PySem PySem.Spec PyProof.Rows L2
section
variable {X : Cx} {o e value : Expr} {f : Str} {pos pos' : Pos} {ta tv : TE}
theorem qe_fld (he : QE X e ta) (hb : attributeBase e f X.env (eval e X.env) = eval e X.env) : QE X (.Attribute e f pos) (tFld X.K ta f) := ⟨pe_fld he.run hb⟩
theorem qs_fld (ha : QE X o ta) (hv : QE X value tv) (hs : swapsWith value (some (.Attribute o f pos')) pos.line X.env = pure false) : QS X (.Assign [.Attribute o f pos'] value pos) (sFld X.K ta tv f) := ⟨ps_fld ha.run hv.run hs⟩
end
section
variable {X : Cx} {CX : CXT} {k : Nat} {f C : Addr} {fd : FuncData} {ps : List Str} {sp : Sp} {dvs : List V} {ds : List Value} {E : XK} {m x : Str} {p apos pos : Pos} {o e : Expr} {es : List Expr} {ta : TE} {t : TA}
theorem qe_meth {pl : Sem Bool} (he : QE X o ta) (c : Cls X.K C) (hm : Meth X.K C m f) (F : FnOk X.prog X.w X.K X.mg X.base CX k f fd ps sp) (hr : Room k X.A) (hb : Binds X.K fd ps ds) (hd : Vals dvs ds) (hx : Passes CX X E) (ha : QA X (e :: es) t)
    (hst : starEach (e :: es) X.env = (false, eval e X.env) :: starEach es X.env := by rfl) (hpl : (backTo pos (starEach es X.env)).any (·.1) = false := by rfl)
    (ht : eval (.Call (.Attribute o m apos) (e :: es) [] pos) X.env = (do
      let ov ← eval o X.env
      standAt apos.atName
      let (f, first) ← holding [ov] (getMethod ov m pl)
      callWith pos f first (backTo pos (starEach (e :: es) X.env)) (backToKw pos (keywordEach [] X.env))) := by rfl) : QE X (.Call (.Attribute o m apos) (e :: es) [] pos) (tMeth C m sp dvs E ta t) := ⟨pe_meth (pl := pl) he.run c hm F hr hb hd hx ha.run hst hpl ht⟩
theorem qe_meth0 {pl : Sem Bool} (he : QE X o ta) (c : Cls X.K C) (hm : Meth X.K C m f) (F : FnOk X.prog X.w X.K X.mg X.base CX k f fd ps sp) (hr : Room k X.A) (hb : Binds X.K fd ps ds) (hd : Vals dvs ds) (hx : Passes CX X E)
    (ht : eval (.Call (.Attribute o m apos) [] [] pos) X.env = (do
      let ov ← eval o X.env
      standAt apos.atName
      let (f, first) ← holding [ov] (getMethod ov m pl)
      callWith pos f first (backTo pos (starEach [] X.env)) (backToKw pos (keywordEach [] X.env))) := by rfl) : QE X (.Call (.Attribute o m apos) [] [] pos) (tMeth C m sp dvs E ta tNil) := ⟨pe_meth0 (pl := pl) he.run c hm F hr hb hd hx ht⟩
theorem qe_make0 (M : Mk X.K C f) (F : FnOk X.prog X.w X.K X.mg X.base CX k f fd ps sp) (hr : Room (k + 1) X.A) (hg : Gl X x) (hm : X.mg x = some (.ref C)) (hb : Binds X.K fd ps ds) (hd : Vals dvs ds) (hx : Passes CX X E)
    (hdb : (x == ("__debug__" : Str)) = false := by decide) : QE X (.Call (.Name x p) [] [] pos) (tMake C sp dvs E tNil) := ⟨pe_make0 M F hr hg hm hb hd hx hdb⟩
end
/-! ### fields -/
theorem putF_twice (f : Str) (u v : V) : ∀ fs : List (Str × V), putF f v (putF f u fs) = putF f v fs
  | [] => by
    show putF f v [(f, u)] = [(f, v)]
    unfold putF
    rw [if_pos rfl]
  | (g, x) :: r => by
    rw [putF]
    by_cases h : g = f
    · rw [if_pos h, putF, if_pos h, putF, if_pos h]
    · rw [if_neg h, putF, if_neg h, putF_twice f u v r, putF, if_neg h]
theorem putF_len (f : Str) (v : V) : ∀ fs : List (Str × V), (putF f v fs).length ≤ fs.length + 1
  | [] => Nat.le_refl _
  | (g, x) :: r => by
    rw [putF]
    split
    · show r.length + 1 ≤ r.length + 1 + 1; omega
    · have := putF_len f v r
      show (putF f v r).length + 1 ≤ r.length + 1 + 1
      omega
/-- a reading's fields -/
def fl (R P : Addr) (nm : List Nat) : List (Str × V) := putF "named" (.str (tx nm)) (putF "places" (.ref P) (putF "rows" (.ref R) []))
section
variable {R P : Addr} {nm : List Nat}
theorem fl_rows : (fl R P nm).lookup ("rows" : Str) = some (.ref R) := by unfold fl; rw [lookup_putF, if_neg (by decide +kernel), lookup_putF, if_neg (by decide +kernel), lookup_putF, if_pos rfl]
theorem fl_places : (fl R P nm).lookup ("places" : Str) = some (.ref P) := by unfold fl; rw [lookup_putF, if_neg (by decide +kernel), lookup_putF, if_pos rfl]
theorem fl_named : (fl R P nm).lookup ("named" : Str) = some (.str (tx nm)) := by unfold fl; rw [lookup_putF, if_pos rfl]
theorem fl_no {m : Str} (h1 : ¬ m = "named") (h2 : ¬ m = "places") (h3 : ¬ m = "rows") : (fl R P nm).lookup m = none := by unfold fl; rw [lookup_putF, if_neg h1, lookup_putF, if_neg h2, lookup_putF, if_neg h3]; rfl
theorem fl_put (nm' : List Nat) : putF "named" (.str (tx nm')) (fl R P nm) = fl R P nm' := by unfold fl; rw [putF_twice]
theorem fl_len : (fl R P nm).length < 1000 := by
  unfold fl
  have h1 := putF_len "named" (.str (tx nm)) (putF "places" (.ref P) (putF "rows" (.ref R) []))
  have h2 := putF_len "places" (.ref P) (putF "rows" (.ref R) [])
  have h3 := putF_len "rows" (.ref R) []
  have : ([] : List (Str × V)).length = 0 := rfl
  omega
end
/-! ### where the reading stands -/
def plV (pl : List (List Nat)) : List V := pl.reverse.map fun c => V.str (tx c)
/-- rows and places: the innermost first -/
structure RdX (K : PySem.W.Frag) (C : Addr) (H₀ H : Hp) (o dx R P : Addr) (ys : List V) (st : List (List T)) (pl : List (List Nat)) (nm : List Nat) : Prop where
  ob : H o = some (.ins C dx (fl R P nm))
  on : H₀ o = none
  pn : H₀ P = none
  rows : RowsR K H₀ H R st ys
  at_ : H P = some (.lst (plV pl))
  np : (.ref P : V) ∉ (.ref R : V) :: ys
def RdAt (K : PySem.W.Frag) (C : Addr) (H₀ H : Hp) (o : Addr) (st : List (List T)) (pl : List (List Nat)) (nm : List Nat) : Prop := ∃ dx R P ys, RdX K C H₀ H o dx R P ys st pl nm
section
variable {K : PySem.W.Frag} {C : Addr} {H₀ H : Hp} {o dx R P : Addr} {ys : List V} {st : List (List T)} {pl : List (List Nat)} {nm : List Nat}
theorem rows_same {H' : Hp} {p : Addr} (h : RowsR K H₀ H p st ys) (S : Same H H') : RowsR K H₀ H' p st ys :=
  ⟨h.new, h.same.trans S, S _ _ h.at_, h.rows.imp fun _ _ ⟨a, xs, e, h1, h2, h3⟩ => ⟨a, xs, e, h1, S _ _ h2, h3.mono (.of S)⟩, h.nd⟩
theorem rows_else {p q : Addr} {x : HO} (h : RowsR K H₀ H p st ys) (k : Kt H (upd H q x)) (h0 : H₀ q = none) (hn : (.ref q : V) ∉ (.ref p : V) :: ys) : RowsR K H₀ (upd H q x) p st ys :=
  ⟨h.new, same_upd h.same h0, by rw [upd_ne (fun z => hn (by rw [z]; exact List.mem_cons_self))]; exact h.at_, rows_upd k h.rows fun z => hn (List.mem_cons_of_mem _ z), h.nd⟩
theorem rows_in (h : RowsR K H₀ H R st ys) {q : Addr} (hq : (.ref q : V) ∈ (.ref R : V) :: ys) : ∃ zs, H q = some (.lst zs) := by
  rcases List.mem_cons.mp hq with z | z
  · cases z; exact ⟨_, h.at_⟩
  · obtain ⟨i, hi⟩ := List.mem_iff_getElem?.mp z
    obtain ⟨ts, _, a, xs, e, _, h2, _⟩ := h.rows.get hi
    cases e
    exact ⟨_, h2⟩
theorem RdX.grow {H' : Hp} (h : RdX K C H₀ H o dx R P ys st pl nm) (S : Same H H') : RdX K C H₀ H' o dx R P ys st pl nm := ⟨S _ _ h.ob, h.on, h.pn, rows_same h.rows S, S _ _ h.at_, h.np⟩
theorem RdAt.grow {H' : Hp} (h : RdAt K C H₀ H o st pl nm) (S : Same H H') : RdAt K C H₀ H' o st pl nm := by obtain ⟨dx, R, P, ys, h⟩ := h; exact ⟨dx, R, P, ys, h.grow S⟩
theorem RdAt.same (h : RdAt K C H₀ H o st pl nm) : Same H₀ H := by obtain ⟨dx, R, P, ys, h⟩ := h; exact h.rows.same
theorem Kt.ins {C' dx' : Addr} {fs : List (Str × V)} {x : HO} (h : H o = some (.ins C' dx' fs)) : Kt H (upd H o x) :=
  ⟨fun b xs e => by rw [upd_ne (fun z => by rw [z, h] at e; cases e)]; exact e, fun b _ _ e => by rw [upd_ne (fun z => by rw [z, h] at e; cases e)]; exact e⟩
/-- another name -/
theorem RdX.name (h : RdX K C H₀ H o dx R P ys st pl nm) (nm' : List Nat) : RdX K C H₀ (upd H o (.ins C dx (fl R P nm'))) o dx R P ys st pl nm' := by
  have hn : (.ref o : V) ∉ (.ref R : V) :: ys := fun z => by
    obtain ⟨zs, e⟩ := rows_in h.rows z
    rw [h.ob] at e
    cases e
  have hP : P ≠ o := fun z => by have := h.at_; rw [z, h.ob] at this; cases this
  exact ⟨upd_same, h.on, h.pn, rows_else h.rows (Kt.ins h.ob) h.on hn, by rw [upd_ne hP]; exact h.at_, h.np⟩
theorem RdX.oP (h : RdX K C H₀ H o dx R P ys st pl nm) : o ≠ P := fun z => by have := h.at_; rw [← z, h.ob] at this; cases this
theorem RdX.oR (h : RdX K C H₀ H o dx R P ys st pl nm) : o ≠ R := fun z => by have := h.rows.at_; rw [← z, h.ob] at this; cases this
theorem RdX.PR (h : RdX K C H₀ H o dx R P ys st pl nm) : P ≠ R := fun z => h.np (by rw [z]; exact List.mem_cons_self)
/-- other places -/
theorem RdX.place (h : RdX K C H₀ H o dx R P ys st pl nm) {pl' : List (List Nat)} {zs : List V} (e : zs = plV pl') : RdX K C H₀ (upd H P (.lst zs)) o dx R P ys st pl' nm := by
  subst e
  exact ⟨by rw [upd_ne h.oP]; exact h.ob, h.on, h.pn, rows_else h.rows (Kt.lst h.at_) h.pn h.np, upd_same, h.np⟩
/-- a row opened -/
theorem RdX.enter (h : RdX K C H₀ H o dx R P ys st pl nm) {q : Addr} (hq : H q = none) : RdX K C H₀ (upd (upd H q (.lst [])) R (.lst (ys ++ [.ref q]))) o dx R P (ys ++ [.ref q]) ([] :: st) pl nm := by
  have nPq : P ≠ q := ne_of_none h.at_ hq
  refine ⟨?_, h.on, h.pn, rows_open h.rows hq, ?_, fun z => ?_⟩
  · rw [upd_ne h.oR, upd_ne (ne_of_none h.ob hq)]; exact h.ob
  · rw [upd_ne h.PR, upd_ne nPq]; exact h.at_
  · rcases List.mem_cons.mp z with z | z
    · exact h.PR (V.ref.inj z)
    · rcases List.mem_append.mp z with z | z
      · exact h.np (List.mem_cons_of_mem _ z)
      · exact nPq (V.ref.inj (List.mem_singleton.mp z))
/-- a word put behind the innermost row's -/
theorem RdX.add {r : List T} {rs : List (List T)} {t : T} {x : V} (h : RdX K C H₀ H o dx R P ys (r :: rs) pl nm) (ht : TR K H t x) :
    ∃ (ys0 : List V) (a : Addr) (xs : List V), ys = ys0 ++ [.ref a] ∧ H a = some (.lst xs) ∧ xs.length = r.length ∧ RdX K C H₀ (upd H a (.lst (xs ++ [x]))) o dx R P ys ((r ++ [t]) :: rs) pl nm := by
  have hr := h.rows.rows
  rw [List.reverse_cons] at hr
  obtain ⟨ys0, y, rfl, h1, a, xs, rfl, ha0, ha, hta⟩ := All2.snoc hr
  have nd := h.rows.nd
  have ndp := (List.nodup_cons.mp nd).1
  have ndy := (List.nodup_cons.mp nd).2
  have na : (.ref a : V) ∉ ys0 := fun z => (List.nodup_append.mp ndy).2.2 _ z _ (by simp) rfl
  have nRa : R ≠ a := fun z => ndp (by rw [z]; simp)
  have nPa : P ≠ a := fun z => h.np (by rw [z]; simp)
  have noa : o ≠ a := fun z => by rw [← z, h.ob] at ha; cases ha
  have k := Kt.lst (o := .lst (xs ++ [x])) ha
  refine ⟨ys0, a, xs, rfl, ha, hta.length, by rw [upd_ne noa]; exact h.ob, h.on, h.pn, ⟨h.rows.new, same_upd h.rows.same ha0, by rw [upd_ne nRa]; exact h.rows.at_, ?_, nd⟩, by rw [upd_ne nPa]; exact h.at_, h.np⟩
  rw [List.reverse_cons]
  exact All2.append (rows_upd k h1 na) (All2.one ⟨a, _, rfl, ha0, upd_same, TRs.append (hta.mono k) (trs1 (ht.mono k))⟩)
/-- the innermost row shut -/
theorem RdX.shut {r : List T} {rs : List (List T)} (h : RdX K C H₀ H o dx R P ys (r :: rs) pl nm) :
    ∃ (ys0 : List V) (a : Addr) (xs : List V), ys = ys0 ++ [.ref a] ∧ R ≠ a ∧ H a = some (.lst xs) ∧ TRs K H r xs ∧ RdX K C H₀ (upd H R (.lst ys0)) o dx R P ys0 rs pl nm := by
  have hr := h.rows.rows
  rw [List.reverse_cons] at hr
  obtain ⟨ys0, y, rfl, h1, a, xs, rfl, ha0, ha, hta⟩ := All2.snoc hr
  have nd := h.rows.nd
  have ndp := (List.nodup_cons.mp nd).1
  have ndy := (List.nodup_cons.mp nd).2
  have nRa : R ≠ a := fun z => ndp (by rw [z]; simp)
  have k := Kt.lst (o := .lst ys0) h.rows.at_
  refine ⟨ys0, a, xs, rfl, nRa, ha, hta, by rw [upd_ne h.oR]; exact h.ob, h.on, h.pn, ⟨h.rows.new, same_upd h.rows.same h.rows.new, upd_same, rows_upd k h1 fun z => ndp (by simp [z]), List.nodup_cons.mpr ⟨fun z => ndp (by simp [z]), (List.nodup_append.mp ndy).1⟩⟩, by rw [upd_ne h.PR]; exact h.at_, fun z => h.np ?_⟩
  rcases List.mem_cons.mp z with z | z
  · rw [z]; exact List.mem_cons_self
  · exact List.mem_cons_of_mem _ (List.mem_append_left _ z)
end
end Sw

/-! ## texts read piece by piece, apart from any heap -/
namespace Sw
open PySem PySem.Spec PyProof.Rows L2
def textC : List Nat := [116, 101, 120, 116]
def yesC : List Nat := [121, 101, 115]
def noC : List Nat := [110, 111]
def bodyC : List Nat := [98, 111, 100, 121]
theorem tx_text : Str.ofString "text" = tx textC := by decide +kernel
theorem tx_yes : Str.ofString "yes" = tx yesC := by decide +kernel
theorem tx_no : Str.ofString "no" = tx noC := by decide +kernel
theorem tx_body : Str.ofString "body" = tx bodyC := by decide +kernel
def forkW (y n : List T) : T := .node (leavesT 7 :: .node y :: n)
def loopW (r : List T) : T := .node (leavesT 8 :: r)
/-- a word that one piece writes -/
inductive One : T → List Nat → Prop
  | odd {w : T} (h : oddT w = true) : One w (33 :: w.wr)
  | lay {w : T} (h : oddT w = false) (hs : sortT w = 0) : One w (39 :: (loadT w).wr)
  | plain {w : T} (h : oddT w = false) (h1 : 1 ≤ sortT w) (h6 : sortT w ≤ 6) : One w (nmC (sortT w))
structure Rst where
  st : List (List T)
  pl : List (List Nat)
  nm : List Nat
/-- one piece read -/
inductive Stp : Rst → List Nat → Rst → Prop
  | openF {st : List (List T)} {pl : List (List Nat)} : Stp ⟨st, pl, nmC 7⟩ [91] ⟨[] :: st, yesC :: pl, []⟩
  | openW {st : List (List T)} {pl : List (List Nat)} : Stp ⟨st, pl, nmC 8⟩ [91] ⟨[] :: st, bodyC :: pl, []⟩
  | name {st : List (List T)} {pl : List (List Nat)} {k : Nat} (h : k = 7 ∨ k = 8) : Stp ⟨st, pl, []⟩ (nmC k) ⟨st, pl, nmC k⟩
  | bar {st : List (List T)} {pl : List (List Nat)} : Stp ⟨st, yesC :: pl, []⟩ [124] ⟨[] :: st, noC :: yesC :: pl, []⟩
  | shutW {r s : List T} {st : List (List T)} {pl : List (List Nat)} : Stp ⟨r :: s :: st, bodyC :: pl, []⟩ [93] ⟨(s ++ [loopW r]) :: st, pl, []⟩
  | shutF {n y s : List T} {st : List (List T)} {pl : List (List Nat)} : Stp ⟨n :: y :: s :: st, noC :: yesC :: pl, []⟩ [93] ⟨(s ++ [forkW y n]) :: st, pl, []⟩
  | word {w : T} {p : List Nat} {s : List T} {st : List (List T)} {pl : List (List Nat)} (h : One w p) : Stp ⟨s :: st, pl, []⟩ p ⟨(s ++ [w]) :: st, pl, []⟩
inductive Stps : Rst → List (List Nat) → Rst → Prop
  | nil {a : Rst} : Stps a [] a
  | cons {a b c : Rst} {p : List Nat} {ps : List (List Nat)} (h : Stp a p b) (g : Stps b ps c) : Stps a (p :: ps) c
theorem Stps.append {a b c : Rst} {ps qs : List (List Nat)} (h : Stps a ps b) (g : Stps b qs c) : Stps a (ps ++ qs) c := by
  induction h with
  | nil => exact g
  | cons h _ ih => exact .cons h (ih g)
theorem Stps.one {a b : Rst} {p : List Nat} (h : Stp a p b) : Stps a [p] b := .cons h .nil
theorem leaves_of : ∀ {ts : List T}, (ts.any fun t => !T.beq t leaf) = false → ts = List.replicate ts.length (.node [])
  | [], _ => rfl
  | t :: ts, h => by
    rw [List.any_cons, Bool.or_eq_false_iff] at h
    have e : t = leaf := (T.beq_iff _ _).mp (by have := h.1; revert this; cases T.beq t leaf <;> simp)
    rw [List.length_cons, List.replicate_succ, e]
    exact congrArg (leaf :: ·) (leaves_of h.2)
theorem odd_head {w : T} (h : oddT w = false) : ∃ r, w = .node (leavesT (sortT w) :: r) := by
  have h8 := odd_sort h
  have hh : headOdd w = false := by
    unfold oddT at h
    split at h
    · cases h
    · rename_i z; exact Bool.eq_false_iff.mpr z
  unfold headOdd at hh
  rw [Bool.or_eq_false_iff] at hh
  cases w with
  | node ts =>
    cases ts with
    | nil => exact absurd (show T.beq (.node []) leaf = true from T.beq_self _) (by rw [hh.1]; decide)
    | cons f r =>
      cases f with
      | node us =>
        have e := leaves_of (ts := us) hh.2
        have es : sortT (.node (.node us :: r)) = min 9 us.length := rfl
        rw [es] at h8
        refine ⟨r, ?_⟩
        rw [es, show min 9 us.length = us.length by omega]
        show T.node (.node us :: r) = T.node (.node (List.replicate us.length (.node [])) :: r)
        rw [← e]
theorem loop_of {w : T} (h : oddT w = false) (hs : sortT w = 8) : w = loopW (loadT w).kids := by
  obtain ⟨r, e⟩ := odd_head h
  rw [hs] at e
  rw [e]
  rfl
theorem fork_of {w : T} (h : oddT w = false) (hs : sortT w = 7) : w = forkW (ats (loadT w).kids 0).kids (loadT (loadT w)).kids := by
  obtain ⟨r, e⟩ := odd_head h
  rw [hs] at e
  cases r with
  | nil =>
    have hl : loadT w = leaf := by rw [e]; rfl
    unfold oddT at h
    rw [hs, hl] at h
    split at h
    · cases h
    · rw [if_neg (by omega), if_pos rfl] at h
      exact absurd (show T.beq leaf leaf = true from T.beq_self _) (by rw [h]; decide)
  | cons y n =>
    rw [e]
    cases y
    rfl
mutual
theorem wr_stps : ∀ {w : T} {ps : List (List Nat)}, Wr w ps → ∀ (s : List T) (st : List (List T)) (pl : List (List Nat)), Stps ⟨s :: st, pl, []⟩ ps ⟨(s ++ [w]) :: st, pl, []⟩
  | w, _, .odd h => fun s st pl => .one (.word (.odd h))
  | w, _, .lay h hs => fun s st pl => .one (.word (.lay h hs))
  | w, _, .plain h h1 h6 => fun s st pl => .one (.word (.plain h h1 h6))
  | w, _, .fork h hs hy hn => fun s st pl => by
    have a1 := ts_stps hy [] (s :: st) (yesC :: pl)
    have a2 := ts_stps hn [] ((ats (loadT w).kids 0).kids :: s :: st) (noC :: yesC :: pl)
    have e := fork_of h hs
    rw [List.nil_append] at a1 a2
    have a0 : Stps ⟨s :: st, pl, []⟩ [nmC 7, [91]] ⟨[] :: s :: st, yesC :: pl, []⟩ := .cons (.name (.inl rfl)) (.one .openF)
    have a3 := ((((a0.append a1).append (.one .bar)).append a2).append (.one (.shutF)))
    rw [← e] at a3
    exact a3
  | w, _, .loop h hs hb => fun s st pl => by
    have a1 := ts_stps hb [] (s :: st) (bodyC :: pl)
    have e := loop_of h hs
    rw [List.nil_append] at a1
    have a0 : Stps ⟨s :: st, pl, []⟩ [nmC 8, [91]] ⟨[] :: s :: st, bodyC :: pl, []⟩ := .cons (.name (.inr rfl)) (.one .openW)
    have a3 := (a0.append a1).append (.one (.shutW))
    rw [← e] at a3
    exact a3
theorem ts_stps : ∀ {ws : List T} {ps : List (List Nat)}, Ts ws ps → ∀ (s : List T) (st : List (List T)) (pl : List (List Nat)), Stps ⟨s :: st, pl, []⟩ ps ⟨(s ++ ws) :: st, pl, []⟩
  | _, _, .nil => fun s st pl => by rw [List.append_nil]; exact .nil
  | _, _, .cons (w := w) (ws := ws) h g => fun s st pl => by
    have a1 := wr_stps h s st pl
    have a2 := ts_stps g (s ++ [w]) st pl
    rw [List.append_assoc] at a2
    exact a1.append a2
end
end Sw
namespace Sw
open PySem PySem.Spec PyProof.Rows L2
theorem snoc_last {α : Type} (xs : List α) (x : α) : (xs ++ [x])[(xs ++ [x]).length - 1]? = some x := by simp
theorem snoc_drop {α : Type} (xs : List α) (x : α) : (xs ++ [x]).dropLast = xs := by simp
theorem plV_cons (c : List Nat) (pl : List (List Nat)) : plV (c :: pl) = plV pl ++ [.str (tx c)] := by unfold plV; rw [List.reverse_cons, List.map_append]; rfl
theorem plV_len (pl : List (List Nat)) : (plV pl).length = pl.length := by unfold plV; rw [List.length_map, List.length_reverse]
/-! ### what the methods promise -/
def spInit (K : PySem.W.Frag) (C : Addr) : Sp := fun vs H Q _ => ∃ (o dx : Addr) (H₀ : Hp), vs = [.ref o] ∧ Same H₀ H ∧ H₀ o = none ∧ H o = some (.ins C dx []) ∧ ∀ H', Kt H H' → RdAt K C H₀ H' o [[]] [textC] [] → Q .non H'
def spEnter (K : PySem.W.Frag) (C : Addr) : Sp := fun vs H Q _ => ∃ (o : Addr) (c : List Nat) (H₀ : Hp) (st : List (List T)) (pl : List (List Nat)) (nm : List Nat), vs = [.ref o, .str (tx c)] ∧ RdAt K C H₀ H o st pl nm ∧ st.length ≤ 100000 ∧ pl.length ≤ 100000 ∧
  ∀ H', Kt H H' → RdAt K C H₀ H' o ([] :: st) (c :: pl) nm → Q .non H'
def spLeave (K : PySem.W.Frag) (C : Addr) : Sp := fun vs H Q _ => ∃ (o : Addr) (c : List Nat) (H₀ : Hp) (r : List T) (st : List (List T)) (pl : List (List Nat)) (nm : List Nat), vs = [.ref o] ∧ RdAt K C H₀ H o (r :: st) (c :: pl) nm ∧
  ∀ y H', Kt H H' → RdAt K C H₀ H' o st pl nm → TR K H' (.node r) y → Q y H'
def spAddW (K : PySem.W.Frag) (C : Addr) : Sp := fun vs H Q _ => ∃ (o : Addr) (x : V) (t : T) (H₀ : Hp) (r : List T) (st : List (List T)) (pl : List (List Nat)) (nm : List Nat), vs = [.ref o, x] ∧ TR K H t x ∧ RdAt K C H₀ H o (r :: st) pl nm ∧ r.length ≤ 100000 ∧
  ∀ H', Kt H H' → RdAt K C H₀ H' o ((r ++ [t]) :: st) pl nm → Q .non H'
end Sw
/-! ## all that comes up while a text is read is small -/
namespace Sw
open PySem PySem.Spec PyProof.Rows L2
theorem deepL_app (xs ys : List T) : T.deepL (xs ++ ys) = max (T.deepL xs) (T.deepL ys) := by
  induction xs with
  | nil => rw [List.nil_append, T.deepL_nil]; omega
  | cons x xs ih => rw [List.cons_append, T.deepL_cons, T.deepL_cons, ih]; omega
theorem B_left {a b : Nat} {xs ys : List T} (h : B a b (.node (xs ++ ys))) : B a b (.node xs) := by
  obtain ⟨h1, h2⟩ := h
  rw [T.deep_node, deepL_app] at h1
  rw [T.parts_node, T.partsL_append] at h2
  exact ⟨by rw [T.deep_node]; omega, by rw [T.parts_node]; omega⟩
structure Sz (a : Rst) : Prop where
  st : a.st.length ≤ 100000
  pl : a.pl.length ≤ 100000
  each : ∀ r ∈ a.st, B 400 100000 (.node r)
end Sw
namespace Sw
open PySem PySem.Spec PyProof.Rows L2
theorem iteFb {c : Bool} {P Q : Prop} (h : c = false) (q : Q) : if c = true then P else Q := by subst h; exact iteF q
theorem iteTb {c : Bool} {P Q : Prop} (h : c = true) (q : P) : if c = true then P else Q := by subst h; exact iteT q
theorem dec_txs (a b : List Nat) {z : Str} (hz : z = tx b) : decide (V.str (tx a) = V.str z) = decide (a = b) := by
  subst hz
  by_cases h : a = b
  · subst h; rw [decide_eq_true rfl, decide_eq_true rfl]
  · rw [decide_eq_false h, decide_eq_false (fun z => h (tx_inj.mp (V.str.inj z)))]
theorem beq_tx (a b : List Nat) : (tx a == tx b) = decide (a = b) := by
  by_cases h : a = b
  · subst h; rw [decide_eq_true rfl]; exact beq_self_eq_true _
  · rw [decide_eq_false h]; exact beq_eq_false_iff_ne.mpr (fun z => h (tx_inj.mp z))
theorem in_two (p b c : List Nat) : inV (.str (tx p)) [.str (tx b), .str (tx c)] = (decide (b = p) || decide (c = p)) := by
  unfold inV
  rw [List.any_cons, List.any_cons, List.any_nil, Bool.or_false]
  show ((tx b == tx p) || (tx c == tx p)) = _
  rw [beq_tx, beq_tx]
theorem one_ne {w : T} {p : List Nat} (h : One w p) : p ≠ [91] ∧ p ≠ nmC 7 ∧ p ≠ nmC 8 ∧ p ≠ [124] ∧ p ≠ [93] := by
  cases h with
  | odd h => refine ⟨?_, ?_, ?_, ?_, ?_⟩ <;> intro z <;> exact absurd (congrArg List.head? z) (by show ¬ some 33 = some _; decide)
  | lay h hs => refine ⟨?_, ?_, ?_, ?_, ?_⟩ <;> intro z <;> exact absurd (congrArg List.head? z) (by show ¬ some 39 = some _; decide)
  | plain h h1 h6 =>
    have : ∀ k, 1 ≤ k → k ≤ 6 → nmC k ≠ [91] ∧ nmC k ≠ nmC 7 ∧ nmC k ≠ nmC 8 ∧ nmC k ≠ [124] ∧ nmC k ≠ [93] := by
      intro k a b
      have : k = 1 ∨ k = 2 ∨ k = 3 ∨ k = 4 ∨ k = 5 ∨ k = 6 := by omega
      rcases this with rfl | rfl | rfl | rfl | rfl | rfl <;> decide
    exact this _ h1 h6
end Sw
/-! ## a text of signs parted, and read -/
namespace Sw
open PySem PySem.Spec PyProof.Rows L2
section
variable {K : PySem.W.Frag} {C : Addr} {H₀ H : Hp} {o dx R P l : Addr} {ys : List V} {st : List (List T)} {pl : List (List Nat)} {nm : List Nat}
theorem RdX.base (h : RdX K C H₀ H o dx R P ys st pl nm) (hl : H l = none) (z : HO) : RdX K C (upd H₀ l z) (upd H l z) o dx R P ys st pl nm := by
  have g := h.grow (same_new hl z)
  have nn : ∀ {q : Addr} {w : HO}, H q = some w → H₀ q = none → upd H₀ l z q = none := fun e e0 => by rw [upd_ne (ne_of_none e hl)]; exact e0
  refine ⟨g.ob, nn h.ob h.on, nn h.at_ h.pn, ⟨nn h.rows.at_ h.rows.new, fun b w e => ?_, g.rows.at_, ?_, g.rows.nd⟩, g.at_, g.np⟩
  · by_cases hb : b = l
    · subst hb
      rw [upd_same] at e ⊢
      exact e
    · rw [upd_ne hb] at e ⊢
      exact h.rows.same b w e
  · exact h.rows.rows.imp fun _ _ ⟨a, xs, e, h1, h2, h3⟩ => ⟨a, xs, e, nn h2 h1, (same_new hl z) _ _ h2, h3.mono (.new hl)⟩
end
theorem joinL_one (c : Nat) (l : List Nat) : joinL [c] [l] = l := rfl
theorem parted_eq {c : Nat} : ∀ {a b x y : List Nat}, c ∉ a → c ∉ b → a ++ c :: x = b ++ c :: y → a = b ∧ x = y
  | [], [], _, _, _, _, e => ⟨rfl, (List.cons.inj e).2⟩
  | [], d :: b, _, _, _, hb, e => absurd (List.cons.inj e).1 (fun z => hb (by rw [z]; exact List.mem_cons_self))
  | d :: a, [], _, _, ha, _, e => absurd (List.cons.inj e).1.symm (fun z => ha (by rw [z]; exact List.mem_cons_self))
  | d :: a, f :: b, x, y, ha, hb, e => by
    obtain ⟨e1, e2⟩ := List.cons.inj e
    obtain ⟨e3, e4⟩ := parted_eq (fun z => ha (List.mem_cons_of_mem _ z)) (fun z => hb (List.mem_cons_of_mem _ z)) e2
    exact ⟨by rw [e1, e3], e4⟩
theorem join_uniq {c : Nat} : ∀ {as bs : List (List Nat)}, as ≠ [] → bs ≠ [] → (∀ p ∈ as, c ∉ p) → (∀ p ∈ bs, c ∉ p) → joinL [c] as = joinL [c] bs → as = bs
  | [], _, h, _, _, _, _ => absurd rfl h
  | _ :: _, [], _, h, _, _, _ => absurd rfl h
  | [a], [b], _, _, _, _, e => by rw [joinL_one, joinL_one] at e; rw [e]
  | [a], b :: b' :: bs, _, _, ha, _, e => by
    rw [joinL_one, joinL_cons _ _ (by simp)] at e
    exact absurd (show c ∈ a by rw [e]; simp) (ha a List.mem_cons_self)
  | a :: a' :: as, [b], _, _, _, hb, e => by
    rw [joinL_one, joinL_cons _ _ (by simp)] at e
    exact absurd (show c ∈ b by rw [← e]; simp) (hb b List.mem_cons_self)
  | a :: a' :: as, b :: b' :: bs, _, _, ha, hb, e => by
    rw [joinL_cons [c] a (show a' :: as ≠ [] by simp), joinL_cons [c] b (show b' :: bs ≠ [] by simp), List.append_assoc, List.append_assoc] at e
    obtain ⟨e1, e2⟩ := parted_eq (ha a List.mem_cons_self) (hb b List.mem_cons_self) e
    rw [e1, join_uniq (by simp) (by simp) (fun p hp => ha p (List.mem_cons_of_mem _ hp)) (fun p hp => hb p (List.mem_cons_of_mem _ hp)) e2]
theorem join_nil {c : Nat} : ∀ {as : List (List Nat)}, (∀ p ∈ as, p ≠ []) → joinL [c] as = [] → as = []
  | [], _, _ => rfl
  | [a], h, e => absurd e (h a List.mem_cons_self)
  | a :: b :: as, _, e => by
    rw [joinL_cons _ _ (by simp)] at e
    simp at e
mutual
theorem wr_no : ∀ t : T, 32 ∉ t.wr
  | .node ts => fun z => by
    rcases List.mem_cons.mp (show 32 ∈ 40 :: (T.wrL ts ++ [41]) from z) with z | z
    · cases z
    · rcases List.mem_append.mp z with z | z
      · exact wrL_no ts z
      · cases List.mem_singleton.mp z
theorem wrL_no : ∀ ts : List T, 32 ∉ T.wrL ts
  | [] => by show 32 ∉ []; simp
  | t :: ts => fun z => by
    rcases List.mem_append.mp (show 32 ∈ T.wr t ++ T.wrL ts from z) with z | z
    · exact wr_no t z
    · exact wrL_no ts z
end
def okP (p : List Nat) : Prop := p ≠ [] ∧ 32 ∉ p
theorem nm_ok {k : Nat} (h : k ≤ 8) : okP (nmC k) := by
  have : k = 0 ∨ k = 1 ∨ k = 2 ∨ k = 3 ∨ k = 4 ∨ k = 5 ∨ k = 6 ∨ k = 7 ∨ k = 8 := by omega
  rcases this with rfl | rfl | rfl | rfl | rfl | rfl | rfl | rfl | rfl <;> exact ⟨by decide, by decide⟩
theorem all_app {ps qs : List (List Nat)} (h : ∀ p ∈ ps, okP p) (g : ∀ p ∈ qs, okP p) : ∀ p ∈ ps ++ qs, okP p := fun p hp => by
  rcases List.mem_append.mp hp with z | z
  · exact h p z
  · exact g p z
theorem all_one {l : List Nat} (h : okP l) : ∀ p ∈ [l], okP p := fun p hp => by rw [List.mem_singleton.mp hp]; exact h
mutual
theorem wr_ok : ∀ {w : T} {ps : List (List Nat)}, Wr w ps → ∀ p ∈ ps, okP p
  | w, _, .odd h => all_one ⟨by simp, fun z => by
      rcases List.mem_cons.mp z with z | z
      · cases z
      · exact wr_no _ z⟩
  | w, _, .lay h hs => all_one ⟨by simp, fun z => by
      rcases List.mem_cons.mp z with z | z
      · cases z
      · exact wr_no _ z⟩
  | w, _, .plain h h1 h6 => all_one (nm_ok (by omega))
  | w, _, .fork h hs hy hn => all_app (all_app (all_app (all_app (all_app (all_one (nm_ok (by omega))) (all_one (l := [91]) ⟨by decide, by decide⟩)) (ts_ok hy)) (all_one ⟨by decide, by decide⟩)) (ts_ok hn)) (all_one ⟨by decide, by decide⟩)
  | w, _, .loop h hs hb => all_app (all_app (all_app (all_one (nm_ok (by omega))) (all_one (l := [91]) ⟨by decide, by decide⟩)) (ts_ok hb)) (all_one ⟨by decide, by decide⟩)
theorem ts_ok : ∀ {ws : List T} {ps : List (List Nat)}, Ts ws ps → ∀ p ∈ ps, okP p
  | _, _, .nil => fun _ h => by simp at h
  | _, _, .cons h g => all_app (wr_ok h) (ts_ok g)
end
end Sw

/-! ## names.index(text); a try whose body raises nothing -/
namespace Sw
open PySem PySem.Spec PyProof.Rows L2
section
variable {X : Cx}
def rIndex (K : PySem.W.Frag) : V → List V → Hp → VK → Prop := fun x vs H Q => ∃ (a : Addr) (cs : List (List Nat)) (p : List Nat) (j : Nat), x = .ref a ∧ vs = [.str (tx p)] ∧ SqT K H a (cs.map fun c => V.str (tx c)) ∧ cs[j]? = some p ∧ (∀ m, m < j → cs[m]? ≠ some p) ∧ Q (.int (j : Nat)) H
theorem mt_index : MtM X "tuple.index" (rIndex X.K) := by
  intro pins s σ H x vs v us Q I rx rv h
  obtain ⟨a, cs, p, j, rfl, rfl, hq, hj, hn, q⟩ := h
  cases rx
  obtain ⟨u, rfl, ru⟩ := rv.one
  obtain ⟨its, r, ht, hz⟩ := I.tuple hq
  obtain ⟨⟨cls, dd, data, sl⟩, ho, hc, n, hd⟩ := id ht
  simp only at hc hd
  subst hc hd
  have flat : ∀ l : List (List Nat), (l.map fun c => V.str (tx c)).all flatV = true := fun l => by
    rw [List.all_eq_true]
    intro y hy
    obtain ⟨c, _, rfl⟩ := List.mem_map.mp hy
    rfl
  have hlen := r.length
  rw [List.length_map] at hlen
  have hjl : j < cs.length := (List.getElem?_eq_some_iff.mp hj).1
  have at_ : ∀ m (hm : m < its.toArray.size), eqU (.str (tx p)) its.toArray[m] = decide (cs[m]? = some p) := fun m hm => by
    have hm' : m < cs.length := by rw [List.size_toArray] at hm; omega
    obtain ⟨u', e1, ru'⟩ := r.get (i := m) (x := .str (tx cs[m])) (by rw [List.getElem?_map, List.getElem?_eq_getElem hm']; rfl)
    have e2 : its.toArray[m] = u' := by
      have := List.getElem?_eq_some_iff.mp e1
      simpa using this.2
    rw [e2, eqU_of ru' rfl, List.getElem?_eq_getElem hm']
    show (tx cs[m] == tx p) = _
    rw [beq_tx]
    by_cases z : cs[m] = p
    · rw [decide_eq_true z, decide_eq_true (congrArg some z)]
    · rw [decide_eq_false z, decide_eq_false (fun y => z (Option.some.inj y))]
  have hjs : j < its.toArray.size := by rw [List.size_toArray]; omega
  refine call_meets F.slot_tuple_index ⟨_, ho, rfl⟩ F.entry_tuple_index (F.args_tuple_index_2 _ _)
    (tup_indexAt a its.toArray n dd sl u (eqU (.str (tx p))) j hjs (by rw [at_ j hjs, hj]; exact decide_eq_true rfl) (fun m hm hlt => by rw [at_ m hm]; exact decide_eq_false (hn m hlt))) ⟨ho, fun y hy => ?_, ?_⟩
  · exact mem_eqAt ru rfl r (flat cs) y (by simpa using hy)
  · exact ⟨.int (j : Nat), H, I.tok _, ⟨_, rfl⟩, q⟩
end
end Sw
namespace Sw
open PySem PySem.Spec PyProof.Rows L2
def sixV : List V := [1, 2, 3, 4, 5, 6].map fun k => V.str (tx (nmC k))
theorem cut17 : cutV namesV (some 1) (some 7) = sixV := by
  unfold cutV
  rw [show (some (1 : Int)) = some ((1 : Nat) : Int) from rfl, show (some (7 : Int)) = some ((7 : Nat) : Int) from rfl, HT.sIx_nat, HT.sIx_nat]
  rfl
theorem in_six (p : List Nat) : inV (.str (tx p)) sixV = [1, 2, 3, 4, 5, 6].any fun k => decide (nmC k = p) := by
  unfold inV sixV
  rw [List.any_map]
  refine congrArg (fun f => List.any [1, 2, 3, 4, 5, 6] f) (funext fun k => ?_)
  show (tx (nmC k) == tx p) = _
  rw [beq_tx]
theorem six_no {c : Nat} {l : List Nat} (h : c < 97) : ([1, 2, 3, 4, 5, 6].any fun j => decide (nmC j = c :: l)) = false := by
  rw [List.any_eq_false]
  intro k hk
  rw [decide_eq_true_eq]
  intro z
  have e := congrArg List.head? z
  have e : (nmC k).head? = some c := e
  simp only [List.mem_cons, List.not_mem_nil, or_false] at hk
  rcases hk with rfl | rfl | rfl | rfl | rfl | rfl <;> (have := Option.some.inj e; omega)
theorem names_map : namesV = ((List.range 9).map nmC).map fun c => V.str (tx c) := by unfold namesV; rw [List.map_map]; rfl
theorem nm_first {k : Nat} (h : k ≤ 8) : ((List.range 9).map nmC)[k]? = some (nmC k) ∧ ∀ m, m < k → ((List.range 9).map nmC)[m]? ≠ some (nmC k) := by
  have : k = 0 ∨ k = 1 ∨ k = 2 ∨ k = 3 ∨ k = 4 ∨ k = 5 ∨ k = 6 ∨ k = 7 ∨ k = 8 := by omega
  rcases this with rfl | rfl | rfl | rfl | rfl | rfl | rfl | rfl | rfl <;> exact ⟨rfl, by decide⟩
theorem lay_of {w : T} (h : oddT w = false) (hs : sortT w = 0) : w = wordT 0 (loadT w).kids := by
  obtain ⟨r, e⟩ := odd_head h
  rw [hs] at e
  rw [e]
  rfl
theorem plain_of {w : T} (h : oddT w = false) (h1 : 1 ≤ sortT w) (h6 : sortT w ≤ 6) : w = wordT (sortT w) [] := by
  obtain ⟨r, e⟩ := odd_head h
  have hl : loadT w = leaf := by
    unfold oddT at h
    split at h
    · cases h
    · rw [if_neg (by omega), if_neg (by omega), Bool.or_eq_false_iff] at h
      refine (T.beq_iff _ _).mp ?_
      have := h.2
      revert this
      cases T.beq (loadT w) leaf <;> simp
  have er : r = [] := by
    have : loadT w = .node r := by rw [e]; rfl
    rw [this] at hl
    exact T.node.inj hl
  rw [er] at e
  exact e
theorem cut_tail (c : Nat) (l : List Nat) : cutL (c :: l) (some 1) none = l := by
  unfold cutL
  rw [show (some (1 : Int)) = some ((1 : Nat) : Int) from rfl, HT.sIx_nat]
  show ((c :: l).drop (min 1 (l.length + 1))).take (HT.sIx (c :: l).length (c :: l).length none - _) = l
  have e1 : min 1 (l.length + 1) = 1 := by omega
  rw [e1]
  show l.take (l.length + 1 - min 1 (l.length + 1)) = l
  exact List.take_of_length_le (by omega)
end Sw

/-! ## words and texts with how they are written, as the laws lay them down -/
namespace Sw
open PySem PySem.Spec PyProof.Rows L2
theorem wr_ne {w : T} {ps : List (List Nat)} (h : Wr w ps) : ps ≠ [] := by cases h <;> simp
theorem joinL_app {s : List Nat} : ∀ {as bs : List (List Nat)}, as ≠ [] → bs ≠ [] → joinL s (as ++ bs) = joinL s as ++ s ++ joinL s bs
  | [], _, h, _ => absurd rfl h
  | [a], bs, _, h => by
    show joinL s (a :: bs) = _
    rw [joinL_cons s a h]
    rfl
  | a :: b :: as, bs, _, h => by
    show joinL s (a :: (b :: as ++ bs)) = _
    rw [joinL_cons s a (by simp), joinL_app (by simp) h, joinL_cons s a (show b :: as ≠ [] by simp)]
    simp [List.append_assoc]
theorem join_join {s : List Nat} : ∀ {ls : List (List (List Nat))}, (∀ l ∈ ls, l ≠ []) → joinL s (ls.map (joinL s)) = joinL s ls.flatten
  | [], _ => rfl
  | [l], _ => by simp [joinL]
  | l :: m :: ls, h => by
    have hm : (m :: ls).flatten ≠ [] := by
      have := h m (by simp)
      rw [List.flatten_cons]
      intro z
      exact this (List.append_eq_nil_iff.mp z).1
    rw [List.map_cons, joinL_cons s _ (by simp), join_join (fun x hx => h x (List.mem_cons_of_mem _ hx)), show (l :: m :: ls).flatten = l ++ (m :: ls).flatten from List.flatten_cons, joinL_app (h l List.mem_cons_self) hm]
section
variable (K : PySem.W.Frag) (H : Hp)
/-- a word with its writing -/
def WRd (w : T) (r : V) : Prop := ∃ a x ps, r = .ref a ∧ SqT K H a [x, .str (tx (joinL [32] ps))] ∧ TR K H w x ∧ Wr w ps
/-- a text with its writing -/
def TXd (ws : List T) (r : V) : Prop := ∃ a x ps, r = .ref a ∧ SqT K H a [x, .str (tx (joinL [32] ps))] ∧ TR K H (.node ws) x ∧ Ts ws ps
end
theorem WRd.mono {K : PySem.W.Frag} {H H' : Hp} {w : T} {r : V} (k : Kt H H') (h : WRd K H w r) : WRd K H' w r := by
  obtain ⟨a, x, ps, rfl, h1, h2, h3⟩ := h
  exact ⟨a, x, ps, rfl, sqT_mono k h1, h2.mono k, h3⟩
theorem wr_leaves (n : Nat) : (leavesT n).wr = 40 :: ((List.replicate n [40, 41]).flatten ++ [41]) := by
  show 40 :: (T.wrL (List.replicate n (.node [])) ++ [41]) = _
  have : ∀ n : Nat, T.wrL (List.replicate n (.node [])) = (List.replicate n [40, 41]).flatten := by
    intro n
    induction n with
    | zero => rfl
    | succ n ih => rw [List.replicate_succ, List.replicate_succ, List.flatten_cons, ← ih]; rfl
  rw [this]
def spTextX (K : PySem.W.Frag) : Sp := fun vs H Q _ => ∃ (l : Addr) (xs : List V) (ws : List T), vs = [.ref l] ∧ SqL K H l xs ∧ All2 (WRd K H) ws xs ∧ T.partsL ws ≤ 80000 ∧ ∀ r H', Same H H' → TXd K H' ws r → Q r H'
def spPlainW (K : PySem.W.Frag) : Sp := fun vs H Q _ => ∃ c : Int, vs = [.int c] ∧ ∀ r w H', Same H H' → WRd K H' w r → B 2 8 w → Q r H'
end Sw
namespace Sw
open PySem PySem.Spec PyProof.Rows L2
theorem pieces_all : ∀ {ws : List T} {zs : List V}, All2 (fun (w : T) (z : V) => ∃ ps, z = .str (tx (joinL [32] ps)) ∧ Wr w ps) ws zs → ∃ pss : List (List (List Nat)), zs = (pss.map (joinL [32])).map (fun c => V.str (tx c)) ∧ (∀ l ∈ pss, l ≠ []) ∧ Ts ws pss.flatten
  | [], _, h => by cases h; exact ⟨[], rfl, fun _ z => by simp at z, .nil⟩
  | w :: ws, _, h => by
    cases h with
    | cons h1 h2 =>
    obtain ⟨p, rfl, g⟩ := h1
    obtain ⟨pss, rfl, h3, h4⟩ := pieces_all h2
    refine ⟨p :: pss, rfl, fun l hl => ?_, .cons g h4⟩
    rcases List.mem_cons.mp hl with rfl | hl
    · exact wr_ne g
    · exact h3 l hl
theorem join_sz : ∀ pss : List (List (List Nat)), (∀ l ∈ pss, l ≠ []) → (pss.map (joinL [32])).flatten.length + pss.length ≤ 2 * szP pss.flatten
  | [], _ => Nat.zero_le _
  | p :: pss, h => by
    have ih := join_sz pss fun l hl => h l (List.mem_cons_of_mem _ hl)
    have h1 := joinL_len [32] p
    have h2 : 1 ≤ p.length := List.length_pos_iff.mpr (h p List.mem_cons_self)
    rw [List.map_cons, List.flatten_cons, List.length_append, List.length_cons, List.flatten_cons, szP_append]
    simp only [List.length_singleton, Nat.mul_one] at h1
    have h3 : szP p = p.flatten.length + p.length := rfl
    omega
end Sw
namespace Sw
open PySem PySem.Spec PyProof.Rows L2
theorem wr_plain {k : Nat} (h1 : 1 ≤ k) (h6 : k ≤ 6) : Wr (wordT k []) [nmC k] := by
  have : k = 1 ∨ k = 2 ∨ k = 3 ∨ k = 4 ∨ k = 5 ∨ k = 6 := by omega
  rcases this with rfl | rfl | rfl | rfl | rfl | rfl
  · exact Wr.plain (w := wordT 1 []) (by decide +kernel) (by decide) (by decide)
  · exact Wr.plain (w := wordT 2 []) (by decide +kernel) (by decide) (by decide)
  · exact Wr.plain (w := wordT 3 []) (by decide +kernel) (by decide) (by decide)
  · exact Wr.plain (w := wordT 4 []) (by decide +kernel) (by decide) (by decide)
  · exact Wr.plain (w := wordT 5 []) (by decide +kernel) (by decide) (by decide)
  · exact Wr.plain (w := wordT 6 []) (by decide +kernel) (by decide) (by decide)
theorem six_tx : [V.str (Str.ofString "drop"), .str (Str.ofString "twin"), .str (Str.ofString "swap"), .str (Str.ofString "front"), .str (Str.ofString "part"), .str (Str.ofString "turn")] = sixV := by
  rw [show Str.ofString "drop" = tx [100, 114, 111, 112] by decide +kernel, show Str.ofString "twin" = tx [116, 119, 105, 110] by decide +kernel,
    show Str.ofString "swap" = tx [115, 119, 97, 112] by decide +kernel, show Str.ofString "front" = tx [102, 114, 111, 110, 116] by decide +kernel, show Str.ofString "part" = tx [112, 97, 114, 116] by decide +kernel,
    show Str.ofString "turn" = tx [116, 117, 114, 110] by decide +kernel]
  rfl
theorem six_at {k : Nat} (h1 : 1 ≤ k) (h6 : k ≤ 6) : atI sixV ((k : Int) - 1) = some (.str (tx (nmC k))) := by
  have : k = 1 ∨ k = 2 ∨ k = 3 ∨ k = 4 ∨ k = 5 ∨ k = 6 := by omega
  rcases this with rfl | rfl | rfl | rfl | rfl | rfl
  · exact atI_nat (j := 0) rfl
  · exact atI_nat (j := 1) rfl
  · exact atI_nat (j := 2) rfl
  · exact atI_nat (j := 3) rfl
  · exact atI_nat (j := 4) rfl
  · exact atI_nat (j := 5) rfl
end Sw
namespace Sw
open PySem PySem.Spec PyProof.Rows L2
theorem beq_no {t : T} (h : t ≠ leaf) : T.beq t leaf = false := Bool.eq_false_iff.mpr fun z => h ((T.beq_iff _ _).mp z)
theorem odd_loop (ws : List T) : oddT (loopW ws) = false := by
  have h1 : headOdd (loopW ws) = false := by
    unfold headOdd
    rw [beq_no (by intro z; cases z)]
    show (false || (List.replicate 8 (T.node [])).any fun t => !T.beq t leaf) = false
    decide +kernel
  unfold oddT
  rw [if_neg (by rw [h1]; decide), if_pos (.inr rfl)]
theorem odd_fork (y n : List T) : oddT (forkW y n) = false := by
  have h1 : headOdd (forkW y n) = false := by
    unfold headOdd
    rw [beq_no (by intro z; cases z)]
    show (false || (List.replicate 7 (T.node [])).any fun t => !T.beq t leaf) = false
    decide +kernel
  unfold oddT
  rw [if_neg (by rw [h1]; decide), if_neg (by show ¬ (7 = 0 ∨ 7 = 8); omega), if_pos (show sortT (forkW y n) = 7 from rfl)]
  exact beq_no (by intro z; cases z)
theorem wr_loopW {ws : List T} {ps : List (List Nat)} (h : Ts ws ps) : Wr (loopW ws) ([nmC 8, [91]] ++ ps ++ [[93]]) := Wr.loop (odd_loop ws) rfl h
theorem wr_forkW {y n : List T} {ps qs : List (List Nat)} (h : Ts y ps) (g : Ts n qs) : Wr (forkW y n) ([nmC 7, [91]] ++ ps ++ [[124]] ++ qs ++ [[93]]) := Wr.fork (odd_fork y n) rfl h g
theorem ts_one {w : T} {ps : List (List Nat)} (h : Wr w ps) : Ts [w] ps := by have := Ts.cons h .nil; rw [List.append_nil] at this; exact this
end Sw

/-! ## comprehensions with one test -/
namespace Sw
open PySem PySem.Spec PyProof.Rows L2
theorem compTurn_if1 (elt target iter cnd : Expr) (scope : Scope) (pos : Pos) (it acc : Value) (env : Env) :
    compTurn (.ListComp elt [⟨target, iter, [cnd], 0⟩] scope pos) 0 it acc env = (standAt iter.pos >>= fun _ => pyNext it >>= fun r => match r with
      | none => pure (.done .next)
      | some v => letOwnedTupleGo target it v >>= fun _ => assign target env v >>= fun _ => isTrue cnd env (eval cnd env) >>= fun b =>
        (match b with | true => (eval elt env >>= fun x => call (.builtin "list.append") [acc, x] >>= fun _ => pure ()) | false => pure ()) >>= fun _ =>
          again (.compLoop (.ListComp elt [⟨target, iter, [cnd], 0⟩] scope pos) 0 it acc env)) := by
  rw [compTurn_list]
  refine congrArg (fun g => standAt iter.pos >>= g) (funext fun _ => ?_)
  refine congrArg (fun g => pyNext it >>= g) (funext fun r => ?_)
  cases r with
  | none => rfl
  | some v =>
    refine congrArg (fun g => letOwnedTupleGo target it v >>= g) (funext fun _ => ?_)
    refine congrArg (fun g => assign target env v >>= g) (funext fun _ => ?_)
    simp only [List.forIn_cons, List.forIn_nil, if_true, bind_assoc, pure_bind]
    refine congrArg (fun g => isTrue cnd env (eval cnd env) >>= g) (funext fun b => ?_)
    cases b <;> simp
/-- a comprehension with a test, turn by turn -/
def LcRunIf (J : It) (js : List Nat) (tc : TT) (te : TE) (σ : Sg) (Q : VK) (H1 : Hp) : Prop := ∀ D, H1 D = none →
  ∃ W : Nat → Nat → List V → Hp → Prop, (∃ m, W 0 m [] (upd H1 D (.lst []))) ∧ ∀ i m ys H', W i m ys H' → H' D = some (.lst ys) ∧
    ((J.stop i H' ∧ Q (.ref D) H') ∨ (J.go i H' ∧ ∀ x H2, J.yld i H' x H2 → tc (some x :: frv σ js) H2 fun b H2' => (b = true → te (some x :: frv σ js) H2' fun y H3 => H3 D = some (.lst ys) ∧ ys.length < sizeLine ∧
      ∃ m', m' < m ∧ W (i + 1) m' (ys ++ [y]) (upd H3 D (.lst (ys ++ [y])))) ∧ (b = false → ∃ m', m' < m ∧ W (i + 1) m' ys H2')))
def tLCIf (wi : TI) (js : List Nat) (tc : TT) (te : TE) : TE := fun σ H Q => wi σ H fun J H1 => LcRunIf J js tc te σ Q H1
section
variable {X : Cx} {scope : Scope} {cl : List (Str × Addr)} {x : Str} {fr : List Str} {js : List Nat} {elt iter cnd : Expr} {px pos : Pos} {wi : TI} {te : TE} {tc : TT}
theorem lc_loopIf {prog : Program} {w : World} {A : Around} {R : Result → Shared → Prop} {s : Shared} {tg : Expr} {it acc : Value} {env : Env} (Iv : Nat → Shared → Prop)
    (turn : ∀ n s, Iv n s → wpAny (model prog w) A (pyNext it) (fun r s1 => match r with
      | none => R (.ok .next) s1
      | some v => wpAny (model prog w) A (letOwnedTupleGo tg it v) (fun _ s2 => wpAny (model prog w) A (assign tg env v) (fun _ s3 => wpAny (model prog w) A (isTrue cnd env (eval cnd env)) (fun b s3' => match b with
          | false => ∃ m, m < n ∧ Iv m s3'
          | true => wpAny (model prog w) A (eval elt env) (fun y s4 =>
          wpAny (model prog w) A (call (.builtin "list.append") [acc, y]) (fun _ s5 => ∃ m, m < n ∧ Iv m s5) (fun _ _ => False) s4) (fun _ _ => False) s3') (fun _ _ => False) s3) (fun _ _ => False) s2) (fun _ _ => False) s1) (fun _ _ => False) s)
    (n : Nat) (h : Iv n s) : codeAny (model prog w) A (.compLoop (.ListComp elt [⟨tg, iter, [cnd], 0⟩] scope pos) 0 it acc env) R s := by
  refine codeAny_loop rfl Iv (fun n s hI => ?_) n h
  refine wpAny_noted ?_
  rw [compTurn_if1]
  refine wpAny_bind (wpAny_standAt (wpAny_bind (wpAny_mono (turn n s hI) (fun r s1 h1 => ?_) fun _ _ z => z.elim)))
  cases r with
  | none => exact wpAny_pure h1
  | some v =>
    refine wpAny_bind (wpAny_mono h1 (fun _ s2 h2 => ?_) fun _ _ z => z.elim)
    refine wpAny_bind (wpAny_mono h2 (fun _ s3 h3 => ?_) fun _ _ z => z.elim)
    refine wpAny_bind (wpAny_mono h3 (fun b s3' h3' => ?_) fun _ _ z => z.elim)
    cases b with
    | false => exact wpAny_bind (wpAny_pure (wpAny_pure ⟨rfl, h3'⟩))
    | true =>
      refine wpAny_bind (wpAny_bind (wpAny_mono h3' (fun y s4 h4 => ?_) fun _ _ z => z.elim))
      refine wpAny_bind (wpAny_mono h4 (fun _ s5 h5 => ?_) fun _ _ z => z.elim)
      exact wpAny_pure (wpAny_pure ⟨rfl, h5⟩)
theorem pe_lcIf (hc : X.calm = true) (L : LcOk X scope x fr js cl) (hi : PI X (.Name x px) iter wi)
    (he : ∀ C s H fp pins, PE (blk X scope cl C (x :: fr) s H fp pins) elt te)
    (ht : ∀ C s H fp pins, PT (blk X scope cl C (x :: fr) s H fp pins) cnd tc)
    (hs : ∀ v, foldedSetIterable iter X.env v = pure v := by intro _; rfl) :
    PE X (.ListComp elt [⟨.Name x px, iter, [cnd], 0⟩] scope pos) (tLCIf wi js tc te) := by
  intro pins s σ H Q I h
  rw [eval_ListComp]
  refine wpAny_comprehension_free (use := none) rfl hs L.clos L.kind L.loc (thn (hi pins s σ H _ I h) fun v s1 h1 => thn h1 fun itv s2 h2 => ?_)
  obtain ⟨it, fp, tn, J, H2, e, I2, T, st2, f2, rd⟩ := h2
  subst e
  obtain ⟨W, ⟨m0, w0⟩, turn⟩ := rd _ I2.fresh
  have I3 := I2.lnew (ys := []) (its := []) (t' := s2.toks) .nil (Nat.zero_le _)
  refine wpAny_newObj_type ?_
  have fsz2 : ∀ b ∈ fp, b < s2.heap.objs.size := fun b hb => by
    obtain ⟨o, ho, _⟩ := T.obj 0 _ st2 b hb
    exact Heap.lt_size ho
  generalize hs3 : ({ s2 with heap := s2.heap.push { cls := .type "list", dict := none, data := .seq ([] : List Value).toArray } } : Shared) = s3
  have I3' : Inv X pins σ (upd H2 s2.heap.objs.size (.lst [])) s3 := by rw [← hs3]; exact I3
  have sz3 : s3.heap.objs.size = s2.heap.objs.size + 1 := by rw [← hs3]; exact Heap.size_push ..
  have k23 : ∀ b o, s2.heap.get? b = some o → s3.heap.get? b = some o := fun b o e => by rw [← hs3]; exact Heap.get?_push_of_some _ e
  have fsz : ∀ b ∈ fp, b < s3.heap.objs.size := fun b hb => by rw [sz3]; exact Nat.lt_succ_of_lt (fsz2 b hb)
  have f3 : ∀ b ∈ fp, FpOk X pins (upd H2 s2.heap.objs.size (.lst [])) b := fun b hb => ⟨by rw [upd_ne (Nat.ne_of_lt (fsz2 b hb))]; exact (f2 b hb).1, (f2 b hb).2⟩
  refine wpAny_newFunctionEnv L.cell (by intro y hy; simp at hy) (fun h4 hn4 hsb4 => ?_) L.kind
  have k34 : ∀ b o, s3.heap.get? b = some o → h4.get? b = some o := fun b o e => (hsb4.2 b (Nat.ne_of_lt (Heap.lt_size e))).trans (Heap.get?_push_of_some _ e)
  generalize hX' : blk X scope cl s3.heap.objs.size (x :: fr) s3 (upd H2 s2.heap.objs.size (.lst [])) fp pins = X'
  have I4 : Inv X' [] (none :: frv σ js) (upd H2 s2.heap.objs.size (.lst [])) { s3 with heap := h4, toks := s3.toks + ([] : List (Str × Value)).length } := by
    rw [← hX']; exact blk_inv I3' L hc f3 fsz hn4 k34
  have st4 : tn 0 h4 := T.keep _ _ _ st2 fun b _ o e => k34 b o (k23 b o e)
  have he' : PE X' elt te := by rw [← hX']; exact he _ _ _ _ _
  have ht' : PT X' cnd tc := by rw [← hX']; exact ht _ _ _ _ _
  have xp : X'.prog = X.prog := by rw [← hX']; rfl
  have xw : X'.w = X.w := by rw [← hX']; rfl
  have xK : X'.K = X.K := by rw [← hX']; rfl
  have xA : X'.A = X.A := by rw [← hX']; rfl
  have xc : X'.calm = true := by rw [← hX']; rfl
  have xe : X'.xe = fun _ _ => False := by rw [← hX']; rfl
  have xn : X'.N = x :: fr := by rw [← hX']; rfl
  have xv : X'.env = compEnvC scope cl s3.heap.objs.size X.env := by rw [← hX']; rfl
  have xpn : X'.pn = X.pn ++ pins := by rw [← hX']; rfl
  have xex : X'.ex = fp := by rw [← hX']; rfl
  have xfs : X'.fs = frs X.stack := by rw [← hX']; rfl
  have back : ∀ {H' : Hp} {s' : Shared} {h' : Heap} {σ' : Sg}, Inv X' [] σ' H' s' → Heap.SameBut s3.heap.objs.size s'.heap h' → Inv X pins σ H' { s' with heap := h' } := fun {H' s' h' σ'} J' hsb => by
    rw [← hX'] at J'; exact blk_back I3' J' f3 hsb
  have frame : ∀ b ∈ fp, b ∉ frs X.stack := fun b hb z => by
    rcases List.mem_cons.mp (I3'.stkSub b z) with e | e
    · exact (f3 b hb).2.1 e
    · exact (f3 b hb).2.2.1 e
  have stat : ∀ {H' : Hp}, (∀ b ∈ fp, H' b = none) → ∀ b ∈ fp, FpOk X' [] H' b := fun {H'} hn b hb => by
    refine ⟨hn b hb, ?_, ?_, .inl (by rw [xex]; exact hb), ?_, ?_⟩
    · rw [xv]; exact Nat.ne_of_lt (fsz b hb)
    · rw [xfs]; exact frame b hb
    · rw [xv]; exact fun y c e => (f3 b hb).2.2.2.2.1 y c (L.sub y c e)
    · rw [xpn, List.append_nil]; exact (f3 b hb).2.2.2.2.2
  have loop : codeAny (model X.prog X.w) X.A (.compLoop (.ListComp elt [⟨.Name x px, iter, [cnd], 0⟩] scope pos) 0 (.ref it) (.ref s2.heap.objs.size) (compEnvC scope cl s3.heap.objs.size X.env))
      (compPost (model X.prog X.w) X.A X.xe none (EP X pins σ Q) (.ref s2.heap.objs.size) s3.heap.objs.size) { s3 with heap := h4, toks := s3.toks + ([] : List (Str × Value)).length } := by
    refine lc_loopIf (fun n s' => ∃ i ys o H', Inv X' [] (o :: frv σ js) H' s' ∧ tn i s'.heap ∧ (∀ b ∈ fp, H' b = none) ∧ W i n ys H') ?_ m0 ⟨0, [], none, _, I4, st4, fun b hb => (f3 b hb).1, w0⟩
    rintro n s5 ⟨i, ys, o, H5, I5, st5, fr5, w5⟩
    obtain ⟨hD, hstep⟩ := turn i n ys H5 w5
    rcases hstep with ⟨stop, qn⟩ | ⟨go, step⟩
    · have q := T.done X' xp xw xK xc i [] s5 _ H5 (fun _ _ => False) I5 (stat fr5) st5 stop
      rw [xA] at q
      refine thn q fun r s6 ⟨hr, I6⟩ => ?_
      subst hr
      obtain ⟨m6, hn6, _⟩ := I6.loc
      rw [xv] at hn6
      exact ⟨m6, hn6, fun h' hsb => ⟨.ref s2.heap.objs.size, H5, back I6 hsb, rfl, qn⟩⟩
    · have q := T.item X' xp xw xK xc i [] s5 _ H5 (fun _ _ => False) I5 (stat fr5) st5 go
      rw [xA] at q
      refine thn q fun r s6 ⟨u, hr, h6⟩ => ?_
      subst hr
      refine thn h6 fun _ s7 ⟨xx, H7, I7, r7, y7, st7, fr7⟩ => ?_
      have I7' := I7.pinned (stat fr7) (T.obj _ _ st7)
      have hg : PG X' (.Name x px) (gName 0) := by
        refine pg_name (i := 0) (x := x) (by rw [xn]; exact L.nd) (by rw [xn]; rfl) ?_ ?_
        · rw [xv]; exact .inl (lookup_relabel_local L.var)
        · rw [xv]; exact .inr (lookup_relabel_local L.var)
      have q7 := hg _ s7 _ H7 xx u (fun σ8 H8 => σ8 = some xx :: frv σ js ∧ H8 = H7) I7' r7 ⟨rfl, rfl⟩
      rw [xp, xw, xA, xe, xv] at q7
      refine thn q7 fun _ s8 ⟨σ8, H8, I8, e8, e8'⟩ => ?_
      subst e8 e8'
      have qt := ht' _ s8 _ _ _ I8 (step xx _ y7)
      rw [xp, xw, xA, xe, xv] at qt
      refine thn qt fun b s8' ⟨H8', I8', qb⟩ => ?_
      cases b with
      | false =>
        have qb := qb.2 rfl
        obtain ⟨m9, hm9, w9⟩ := qb
        refine ⟨m9, hm9, i + 1, ys, some xx, _, I8'.unpinned, T.keep _ _ _ st7 fun b hb ob e => (I8'.pin (b, ob) (List.mem_append_right _ (List.mem_append_right _ (mem_pinsAt hb e)))).1, fun b hb => ?_, w9⟩
        obtain ⟨ob, e, _⟩ := T.obj _ _ st7 b hb
        exact (I8'.pin (b, ob) (List.mem_append_right _ (List.mem_append_right _ (mem_pinsAt hb e)))).2.1
      | true =>
      have q8 := he' _ s8' _ _ _ I8' (qb.1 rfl)
      rw [xp, xw, xA, xe, xv] at q8
      refine thn q8 fun yv s9 ⟨y, H9, I9, r9, d9, z9, m9, hm9, w9⟩ => ?_
      have q9 := mt_append (X := X') _ s9 _ H9 (.ref s2.heap.objs.size) [y] (.ref s2.heap.objs.size) [yv] (fun z H' => H' = upd H9 s2.heap.objs.size (.lst (ys ++ [y]))) I9 rfl (.cons r9 .nil) ⟨_, ys, y, rfl, rfl, d9, z9, rfl⟩
      rw [xp, xw, xA, xe] at q9
      refine thn q9 fun _ s10 ⟨_, H10, I10, _, e10⟩ => ?_
      subst e10
      refine ⟨m9, hm9, i + 1, ys ++ [y], some xx, _, I10.unpinned, T.keep _ _ _ st7 fun b hb ob e => (I10.pin (b, ob) (List.mem_append_right _ (List.mem_append_right _ (mem_pinsAt hb e)))).1, fun b hb => ?_, w9⟩
      obtain ⟨ob, e, _⟩ := T.obj _ _ st7 b hb
      exact (I10.pin (b, ob) (List.mem_append_right _ (List.mem_append_right _ (mem_pinsAt hb e)))).2.1
  exact codeAny_compStart_list loop (T.self _ 0 _ _ _ st4 loop)
end
end Sw
namespace Sw
open PySem PySem.Spec PyProof.Rows L2
theorem qe_lcIf {X : Cx} {scope : Scope} {cl : List (Str × Addr)} {x : Str} {fr : List Str} {js : List Nat} {elt iter cnd : Expr} {px pos : Pos} {wi : TI} {te : TE} {tc : TT} (hc : X.calm = true) (L : LcOk X scope x fr js cl) (hi : QI X (.Name x px) iter wi)
    (he : ∀ C s H fp pins, QE (blk X scope cl C (x :: fr) s H fp pins) elt te) (ht : ∀ C s H fp pins, QT (blk X scope cl C (x :: fr) s H fp pins) cnd tc)
    (hs : ∀ v, foldedSetIterable iter X.env v = pure v := by intro _; rfl) : QE X (.ListComp elt [⟨.Name x px, iter, [cnd], 0⟩] scope pos) (tLCIf wi js tc te) :=
  ⟨pe_lcIf hc L hi.run (fun C s H fp pins => (he C s H fp pins).run) (fun C s H fp pins => (ht C s H fp pins).run) hs⟩
theorem lc_filter {K : PySem.W.Frag} {H : Hp} {a : Addr} {xs : List V} {σ : Sg} {js : List Nat} {te : TE} {tc : TT} {Q : VK} (f : V → Bool) (ha : H a = some (.lst xs)) (hz : xs.length ≤ sizeLine)
    (htc : ∀ x H' (R : Bool → Hp → Prop), x ∈ xs → R (f x) H' → tc (some x :: frv σ js) H' R)
    (hte : ∀ x H' (R : VK), R x H' → te (some x :: frv σ js) H' R)
    (q : ∀ D, H D = none → Q (.ref D) (upd H D (.lst (xs.filter f)))) : LcRunIf (Itl K a) js tc te σ Q H := by
  intro D hD
  have hne : a ≠ D := ne_of_none ha hD
  refine ⟨fun i m ys H' => m = xs.length - i ∧ i ≤ xs.length ∧ ys = (xs.take i).filter f ∧ H' = upd H D (.lst ys), ⟨xs.length, by omega, Nat.zero_le _, rfl, rfl⟩, ?_⟩
  rintro i m ys H' ⟨rfl, hi, hys, rfl⟩
  have h3 : SqL K (upd H D (.lst ys)) a xs := SqL.of (by rw [upd_ne hne]; exact ha)
  have hyl : ys.length ≤ i := by
    rw [hys]
    refine Nat.le_trans (List.length_filter_le _ _) ?_
    rw [List.length_take]
    omega
  refine ⟨upd_same, ?_⟩
  by_cases hlt : i < xs.length
  · refine .inr ⟨⟨xs, xs[i], h3, List.getElem?_eq_getElem hlt⟩, fun x H2 y => ?_⟩
    obtain ⟨e, y⟩ := y
    subst e
    have hx := y xs h3
    have et : xs.take (i + 1) = xs.take i ++ [x] := by rw [List.take_add_one, hx]; rfl
    refine htc x _ _ (List.mem_of_getElem? hx) ⟨fun hb => hte x _ _ ⟨upd_same, by omega, xs.length - (i + 1), by omega, rfl, hlt, ?_, ?_⟩, fun hb => ⟨xs.length - (i + 1), by omega, rfl, hlt, ?_, rfl⟩⟩
    · rw [et, List.filter_append, ← hys, List.filter_cons, if_pos hb]
      rfl
    · funext b
      by_cases hb' : b = D
      · rw [hb', upd_same, upd_same]
      · rw [upd_ne hb', upd_ne hb', upd_ne hb']
    · rw [et, List.filter_append, ← hys, List.filter_cons, if_neg (by rw [hb]; decide)]
      simp
  · have e : i = xs.length := by omega
    subst e
    refine .inl ⟨⟨xs, h3, Nat.le_refl _⟩, ?_⟩
    rw [hys, List.take_length]
    exact q D hD
def spBetween (K : PySem.W.Frag) : Sp := fun vs H Q _ => ∃ (l : Addr) (cs : List (List Nat)), vs = [.ref l] ∧ H l = some (.lst (cs.map fun c => V.str (tx c))) ∧ cs.length ≤ 1000 ∧ cs.flatten.length ≤ 8000000 ∧ ∀ H', Same H H' → Q (.str (tx (joinL [32] (cs.filter fun c => decide (c ≠ []))))) H'
end Sw
namespace Sw
open PySem PySem.Spec PyProof.Rows L2
theorem joinL_nil_iff {l : List (List Nat)} (h : ∀ p ∈ l, p ≠ []) : joinL [32] l = [] ↔ l = [] := ⟨join_nil h, fun z => by rw [z]; rfl⟩
/-- what stands between blanks, the empty ones left out -/
theorem between_all {pss : List (List (List Nat))} (h : ∀ l ∈ pss, ∀ p ∈ l, p ≠ []) : joinL [32] ((pss.map (joinL [32])).filter fun c => decide (c ≠ [])) = joinL [32] pss.flatten := by
  have e1 : (pss.map (joinL [32])).filter (fun c => decide (c ≠ [])) = (pss.filter fun l => decide (l ≠ [])).map (joinL [32]) := by
    rw [List.filter_map]
    congr 1
    refine List.filter_congr fun l hl => ?_
    show decide (joinL [32] l ≠ []) = decide (l ≠ [])
    by_cases z : l = []
    · rw [z]; rfl
    · rw [decide_eq_true z]
      exact decide_eq_true (p := joinL [32] l ≠ []) fun y => z ((joinL_nil_iff (h l hl)).mp y)
  have e2 : ∀ ls : List (List (List Nat)), (ls.filter fun l => decide (l ≠ [])).flatten = ls.flatten := by
    intro ls
    induction ls with
    | nil => rfl
    | cons l ls ih =>
      rw [List.filter_cons]
      split
      · rw [List.flatten_cons, List.flatten_cons, ih]
      · rename_i hz
        have : l = [] := by
          cases l with
          | nil => rfl
          | cons a b => exact absurd (decide_eq_true (p := a :: b ≠ []) (by simp)) hz
        rw [this, List.flatten_cons, ih]
        rfl
  rw [e1, join_join (fun l hl => of_decide_eq_true (List.mem_filter.mp hl).2), e2]
theorem tx_whileB : Str.ofString "while [" = tx (joinL [32] [nmC 8, [91]]) := by decide +kernel
theorem tx_forkB : Str.ofString "fork [" = tx (joinL [32] [nmC 7, [91]]) := by decide +kernel
end Sw
namespace Sw
open PySem PySem.Spec PyProof.Rows L2
theorem all_pick {R : T → V → Prop} {ts : List T} {xs : List V} (h : All2 R ts xs) {i : Int} (h0 : 0 ≤ i) (h1 : i < (xs.length : Int)) : ∃ x t, atI xs i = some x ∧ R t x ∧ t ∈ ts := by
  have hk : i.toNat < xs.length := by omega
  have e : xs[i.toNat]? = some xs[i.toNat] := List.getElem?_eq_getElem hk
  obtain ⟨t, et, ht⟩ := h.get e
  have := atI_nat e
  rw [show ((i.toNat : Nat) : Int) = i by omega] at this
  exact ⟨_, t, this, ht, List.mem_of_getElem? et⟩
theorem wr_lay (t : T) : Wr (wordT 0 t.kids) [39 :: t.wr] := by
  have e : loadT (wordT 0 t.kids) = t := by cases t; rfl
  have h1 : headOdd (wordT 0 t.kids) = false := by
    unfold headOdd
    rw [beq_no (by intro z; cases z)]
    rfl
  have ho : oddT (wordT 0 t.kids) = false := by unfold oddT; rw [if_neg (by rw [h1]; decide), if_pos (.inl rfl)]
  have := Wr.lay ho rfl
  rw [e] at this
  exact this
end Sw
namespace Sw
open PySem PySem.Spec PyProof.Rows L2
/-- an if without else whose block is any: both ways come to P -/
theorem ifAny {tc : TT} {tb u : TS} {D : Ends} {σ : L2.St} {H : Hp} (P : L2.St → Hp → Prop) (k : ∀ σ' H', P σ' H' → u D σ' H')
    (h : ∀ A B : Hp → Prop, (∀ H1, (∀ N : L2.St → Hp → Prop, (∀ σ' H', P σ' H' → N σ' H') → tb { D with nx := N } σ H1) → A H1) → (∀ H1, P σ H1 → B H1) → tc σ H (fun b H1 => if b = true then A H1 else B H1)) :
    tSeq (tIfS tc tb tNext) u D σ H :=
  h (fun H1 => tb { D with nx := u D } σ H1) (fun H1 => tNext { D with nx := u D } σ H1) (fun H1 r => r _ k) (fun H1 p => k _ _ p)
theorem odd_leaf : oddT (.node []) = true := by decide +kernel
theorem head_leaves (n : Nat) (us : List T) : headOdd (.node (leavesT n :: us)) = false := by
  unfold headOdd
  rw [beq_no (by intro z; cases z)]
  show (false || (List.replicate n (T.node [])).any fun t => !T.beq t leaf) = false
  rw [Bool.false_or, List.any_eq_false]
  intro t ht
  rw [List.eq_of_mem_replicate ht, show T.beq (.node []) leaf = true from T.beq_self _]
  decide
theorem sort_leaves (n : Nat) (us : List T) : sortT (.node (leavesT n :: us)) = min 9 n := by
  show min 9 (List.replicate n (T.node [])).length = _
  rw [List.length_replicate]
theorem odd_nine {n : Nat} (h : 9 ≤ n) (us : List T) : oddT (.node (leavesT n :: us)) = true := by
  have hs : sortT (.node (leavesT n :: us)) = 9 := by rw [sort_leaves]; omega
  unfold oddT
  rw [if_neg (by rw [head_leaves]; decide), hs, if_neg (by omega), if_neg (by omega)]
  rfl
theorem odd_load {n : Nat} (h1 : 1 ≤ n) (h6 : n ≤ 6) (u : T) (us : List T) : oddT (.node (leavesT n :: u :: us)) = true := by
  have hs : sortT (.node (leavesT n :: u :: us)) = n := by rw [sort_leaves]; omega
  unfold oddT
  rw [if_neg (by rw [head_leaves]; decide), hs, if_neg (by omega), if_neg (by omega), beq_no (by intro z; cases z)]
  simp
theorem odd_seven : oddT (.node [leavesT 7]) = true := by decide +kernel
theorem odd_in {ts : List T} {t : T} (h : t ∈ ts) (hn : t ≠ leaf) (us : List T) : oddT (.node (.node ts :: us)) = true := by
  have : headOdd (.node (.node ts :: us)) = true := by
    unfold headOdd
    rw [Bool.or_eq_true]
    refine .inr ?_
    show (ts.any fun t => !T.beq t leaf) = true
    rw [List.any_eq_true]
    exact ⟨t, h, by rw [beq_no hn]; rfl⟩
  unfold oddT
  rw [if_pos this]
end Sw
namespace Sw
theorem all2_rep {α β : Type} {R : α → β → Prop} {a : α} {b : β} (h : R a b) : ∀ n : Nat, All2 R (List.replicate n a) (List.replicate n b)
  | 0 => .nil
  | n + 1 => .cons h (all2_rep h n)
end Sw

/-! ## for k, x in enumerate(list) -/
namespace Sw
open PySem PySem.Spec PyProof.Rows L2
def IteL (K : PySem.W.Frag) (a : Addr) : It :=
  ⟨fun i H => ∃ xs x, SqL K H a xs ∧ xs[i]? = some x, fun i H v H' => ∃ p, v = .ref p ∧ H p = none ∧ ∀ xs, SqL K H a xs → ∃ x, xs[i]? = some x ∧ H' = upd H p (.tup [.int i, x]), fun i H => ∃ xs, SqL K H a xs ∧ xs.length ≤ i⟩
theorem turn_enumL {P : Program} {w : World} {K : PySem.W.Frag} {elts : List Expr} {x1 : Nat} {tp : Pos} (a e it : Addr) (hei : e ≠ it) :
    Turn P w K (.Tuple elts x1 tp) (IteL K a) [e, it] e (fun i h => (∃ old, IsEnum h e it i old) ∧ h.IsListIter it a i) where
  mem := by simp
  obj := fun i h st b hb => by
    obtain ⟨⟨old, he⟩, o, ho, c, d⟩ := st
    rcases List.mem_cons.mp hb with q | q
    · rw [q]
      exact ⟨_, he, fun v z => by cases z⟩
    · rw [List.mem_singleton.mp q]
      exact ⟨o, ho, fun v z => by rw [d] at z; cases z⟩
  keep := fun i h h' st k => by
    obtain ⟨⟨old, he⟩, o, ho, r⟩ := st
    exact ⟨⟨old, k e (by simp) _ he⟩, o, k it (by simp) o ho, r⟩
  item := by
    intro X hP hw hK hc i pins s σ H E I hf st hg
    subst hP hw hK
    obtain ⟨⟨old, he⟩, hs⟩ := st
    obtain ⟨xs, x, hq, hx⟩ := hg
    obtain ⟨its, rv, p, hz⟩ := I.list hq
    obtain ⟨u, hu, ru⟩ := rv.get hx
    have fe := hf e (by simp)
    have fi := hf it (by simp)
    refine wpAny_pyNext_enum_item he hs p.isList (x := u) (by simpa using hu) hei fun h' ho hs' hT hsz hk => ⟨_, rfl, ?_⟩
    refine wpAny_letOwnedTupleGo_enum ho fun h2 he2 sb2 => ?_
    have elt : e < s.heap.objs.size := Heap.lt_size he
    have T2 : h2.get? s.heap.objs.size = some { cls := .type "tuple", data := .seq #[.int i s.toks, u] } := (sb2.2 _ (Nat.ne_of_gt elt)).trans hT
    have hn : H s.heap.objs.size = none := I.hok.fresh (Nat.le_refl _)
    refine ⟨.ref s.heap.objs.size, upd H s.heap.objs.size (.tup [.int i, x]), two_inv (s := s) (xs := [.int i, x]) (h2 := h2) (tk := s.toks + 1) I fe fi (fun b o h1 h2' q => (sb2.2 b h1).trans (hk b o h1 h2' q)) ?_, rfl, ⟨_, rfl, hn, fun ys hy => ⟨x, by rw [I.list_inj hy hq]; exact hx, rfl⟩⟩, ⟨⟨_, by simpa using he2⟩, ?_⟩, fun b hb => ?_⟩
    · exact ⟨(by show 2 ≤ sizeLine; decide), [.int i s.toks, u], .cons ⟨s.toks, rfl⟩ (.cons ru .nil), ⟨_, T2, rfl, _, rfl⟩⟩
    · obtain ⟨o, q1, q2⟩ := hs'
      exact ⟨o, (sb2.2 it (Ne.symm hei)).trans q1, q2⟩
    · rcases List.mem_cons.mp hb with q | q
      · rw [q, upd_ne (Nat.ne_of_lt elt)]; exact fe.1
      · obtain ⟨o, q1, _⟩ := hs
        rw [List.mem_singleton.mp q, upd_ne (Nat.ne_of_lt (Heap.lt_size q1))]; exact fi.1
  done := by
    intro X hP hw hK hc i pins s σ H E I hf st hg
    subst hP hw hK
    obtain ⟨⟨old, he⟩, hs⟩ := st
    obtain ⟨xs, hq, hx⟩ := hg
    obtain ⟨its, rv, p, hz⟩ := I.list hq
    have fi := hf it (by simp)
    have hl := rv.length
    exact wpAny_pyNext_enum_end (I.ok.hd hc) he hs p.isList (by simp; omega) fun h' eb => ⟨rfl, I.turned (t' := s.toks) (fun b o hb q => eb b o hb q) fi.1 fi.2.1 fi.2.2.2.1 fi.2.2.2.2.1 fi.2.2.2.2.2⟩
  self := fun _ _ _ _ _ st h => by
    obtain ⟨⟨old, he⟩, _⟩ := st
    exact wpAny_pyIter_enum he h
def iEnumL (K : PySem.W.Frag) (ta : TE) : TI := fun σ H R => ta σ H fun x H1 => ∃ a, x = .ref a ∧ (∃ xs, SqL K H1 a xs) ∧ R (IteL K a) H1
theorem pi_enumL {X : Cx} {elts : List Expr} {x1 : Nat} {tp p pos : Pos} {a : Expr} {ta : TE} (hg : Gl X "enumerate") (hm : X.mg "enumerate" = none) (ha : PE X a ta) (hs : starEach [a] X.env = [(false, eval a X.env)] := by rfl) :
    PI X (.Tuple elts x1 tp) (.Call (.Name "enumerate" p) [a] [] pos) (iEnumL X.K ta) := by
  intro pins s σ H R I h
  refine wpAny_Call_Name_kw (ld_blt I hg hm bt_enumerate ?_)
  refine PyProof.Rows.callWith_type1 ?_ (by rw [hs]; rfl) (by rfl)
  rw [hs]
  refine Calls.spliced_cons (thn (ha pins s σ H _ I h) fun v s1 ⟨y, H1, I1, r1, q1⟩ => Calls.spliced_nil ?_)
  obtain ⟨l, rfl, ⟨xs, hq⟩, q⟩ := q1
  cases r1
  obtain ⟨its, rv, p', hz'⟩ := I1.list hq
  refine call_enumerate_list p'.isList fun h' he hit hz hk => wpAny_pyIter_enum he ?_
  have I2 : Inv X pins σ H1 { s1 with heap := h' } := I1.kept (t' := s1.toks) hk
  refine ⟨s1.heap.objs.size + 1, [s1.heap.objs.size + 1, s1.heap.objs.size], _, IteL X.K l, H1, rfl, I2, turn_enumL l _ _ (Nat.succ_ne_self _), ⟨⟨_, he⟩, hit⟩, fun b hb => ?_, q⟩
  have hb' : s1.heap.objs.size ≤ b := by
    rcases List.mem_cons.mp hb with e | e
    · rw [e]; exact Nat.le_succ _
    · rw [List.mem_singleton.mp e]; exact Nat.le_refl _
  exact I1.fpOk hb' (I1.hok.fresh hb')
theorem qi_enumL {X : Cx} {elts : List Expr} {x1 : Nat} {tp p pos : Pos} {a : Expr} {ta : TE} (hg : Gl X "enumerate") (hm : X.mg "enumerate" = none) (ha : QE X a ta) (hs : starEach [a] X.env = [(false, eval a X.env)] := by rfl) :
    QI X (.Tuple elts x1 tp) (.Call (.Name "enumerate" p) [a] [] pos) (iEnumL X.K ta) := ⟨pi_enumL hg hm ha.run hs⟩
theorem for_enumL {K : PySem.W.Frag} {a : Addr} {xs : List V} {g : TG} {tb : TS} {D : Ends} {σ : Sg} {H : Hp} (Pv : Nat → Sg → Hp → Prop) (h0 : Pv 0 σ H) (hl : ∀ i σ H, i ≤ xs.length → Pv i σ H → SqL K H a xs)
    (hs : ∀ i x σ H p, xs[i]? = some x → Pv i σ H → H p = none → g (.ref p) σ (upd H p (.tup [.int i, x])) fun σ2 H2 => tb { D with nx := Pv (i + 1), ct := Pv (i + 1), bk := D.nx } σ2 H2) (hd : ∀ σ H, Pv xs.length σ H → D.nx σ H) :
    ∃ W : Nat → Nat → Sg → Hp → Prop, (∃ m, W 0 m σ H) ∧ ∀ i m σ H, W i m σ H →
      ((IteL K a).stop i H ∧ D.nx σ H) ∨ ((IteL K a).go i H ∧ ∃ N : Sg → Hp → Prop, (∀ σ' H', N σ' H' → ∃ m', m' < m ∧ W (i + 1) m' σ' H') ∧ ∀ x H', (IteL K a).yld i H x H' → g x σ H' fun σ2 H2 => tb { D with nx := N, ct := N, bk := D.nx } σ2 H2) := by
  refine ⟨fun i m σ H => m = xs.length - i ∧ i ≤ xs.length ∧ Pv i σ H, ⟨xs.length, by simp, Nat.zero_le _, h0⟩, ?_⟩
  rintro i m σ H ⟨rfl, hi, p⟩
  have q := hl i σ H hi p
  by_cases hlt : i < xs.length
  · refine .inr ⟨⟨xs, xs[i], q, List.getElem?_eq_getElem hlt⟩, Pv (i + 1), fun σ' H' p' => ⟨xs.length - (i + 1), by omega, rfl, hlt, p'⟩, fun x H' y => ?_⟩
    obtain ⟨r, rfl, hr, y⟩ := y
    obtain ⟨z, hz, rfl⟩ := y xs q
    exact hs i z σ _ r hz p hr
  · have e : i = xs.length := by omega
    subst e
    exact .inl ⟨⟨xs, q, Nat.le_refl _⟩, hd σ H p⟩
end Sw

/-! ## an error of one's own that passes a frame -/
namespace Sw
open PySem PySem.Spec PyProof.Rows L2
section
variable {P : Program} {w : World} {K : PySem.W.Frag} {mg : Str → Option Value} {base : Heap} {N : List Str} {qual : Str} {scope : Scope} {f : Addr} {cd : Value} {A : Around} {outer : List Env} {s₀ : Shared} {H₀ : Hp} {E : XK}
theorem passX : Passes (CXE P w) (cxOf (CXE P w) P w K mg base N qual scope f cd A outer s₀ H₀ E) E := by
  intro pins σ H s e s' I h
  obtain ⟨a, C, H', B, rfl, hE, F⟩ := h
  generalize hX : cxOf (CXE P w) P w K mg base N qual scope f cd A outer s₀ H₀ E = X at I F ⊢
  have eS : X.stack = X.env :: outer := by rw [← hX]; rfl
  have eF : X.env.frame = some X.env.locals := by rw [← hX]; rfl
  have e0 : X.s₀ = s₀ := by rw [← hX]; rfl
  have eH : X.H₀ = H₀ := by rw [← hX]; rfl
  have eO : X.outer = outer := by rw [← hX]; rfl
  have eX : X.ex = [] := by rw [← hX]; rfl
  have exe : X.xe = fun e s' => wpAny (model P w) X.A (leaving X.env e) (fun _ s'' => CXE P w outer H₀ s₀ E e s'') (fun e' s'' => CXE P w outer H₀ s₀ E e' s'') s' := by rw [← hX]; rfl
  rw [exe]
  have notin : ∀ b o, s₀.heap.get? b = some o → b ∉ frs outer → b ∉ frs X.stack := fun b o e1 hb z => by
    rcases List.mem_cons.mp (I.stkSub b z) with e2 | e2
    · have := Nat.lt_of_lt_of_le (Heap.lt_size (e0 ▸ e1)) I.ok.above
      rw [e2] at this
      exact absurd this (Nat.lt_irrefl _)
    · exact hb (by rw [← eO]; exact e2)
  have nex : ∀ b : Addr, b ∉ X.ex := fun b z => by rw [eX] at z; simp at z
  have ub : Un (frs outer) X.ex H₀ H s₀.heap s.heap := by
    have := I.base
    rw [e0, eH] at this
    unfold Cx.fs at this
    rw [eO] at this
    exact this
  obtain ⟨t, fl⟩ := F.fl
  have fl' : Heap.FlyingW B (X.env :: outer) a (.ref C) t s'.heap := eS ▸ fl
  refine wpAny_leaves_onW (L := X.env.locals) (by rw [I.ok.frames, eS]) eF fl' fun h'' F1 up => ?_
  refine ⟨a, C, H', B, rfl, hE, ⟨F.os.trans (I.os.trans (by rw [e0])), F.bare, ⟨t, F1⟩, fun b o e1 n hb => ?_, fun b o e1 hb => ?_, fun b o e1 n => ?_, fun b o e1 hb => ?_, fun b xs z => F.tups b xs (ub.tups b xs z), fun b o u z => F.frzs b o u (ub.frzs b o u z), fun b ps z => ?_, F.hok, F.new, ?_⟩⟩
  · exact F.keep b o (ub.keep b o e1 n hb (nex b)) (ub.free b o e1 n (nex b)) (notin b o e1 hb)
  · have hb' : b ∈ X.fs := by unfold Cx.fs; rw [eO]; exact hb
    have n : H₀ b = none := by rw [← eH]; exact I.ok.frf b hb'
    obtain ⟨s1, q1⟩ := ub.slot b o e1 n hb (nex b)
    obtain ⟨_, o2, q2, nf⟩ := I.ok.funs.mem hb'
    rw [e0, e1] at q2
    cases q2
    obtain ⟨s2, q3⟩ := F.slot b _ q1 (by rw [eS]; unfold frs; exact List.mem_filterMap.mpr (by obtain ⟨ev, h1, h2⟩ := List.mem_filterMap.mp (show b ∈ outer.filterMap _ from hb); exact ⟨ev, List.mem_cons_of_mem _ h1, h2⟩))
    obtain ⟨s3, q4⟩ := up b _ q3 nf
    exact ⟨s3, q4⟩
  · obtain ⟨o', q1⟩ := ub.there b o e1 (nex b)
    exact F.free b o' q1 (ub.free b o e1 n (nex b))
  · obtain ⟨o', q1⟩ := ub.there b o e1 (nex b)
    exact F.there b o' q1 (notin b o e1 hb)
  · obtain ⟨m1, z1⟩ := ub.tbls b ps z
    obtain ⟨m2, z2⟩ := F.tbls b _ z1
    exact ⟨m1 ++ m2, by rw [z2]; first | rw [List.append_assoc] | rw [Array.append_assoc] | simp⟩
  · cases e1 : s₀.heap.get? a with
    | none => rfl
    | some o =>
      obtain ⟨o', q1⟩ := ub.there a o e1 (nex a)
      rw [F.fresh] at q1; cases q1
end
end Sw

/-! ## an error of one's own that has none behind it, seen through its flight -/
namespace Sw
open PySem PySem.Spec PyProof.Rows L2
section
variable {M : Model} {A : Around} {E : Value → Shared → Prop} {s : Shared} {base : Heap} {env : Env} {outer l : List Env} {L e : Addr} {cls a0 c fl : Value} {Q : Unit → Shared → Prop}
/-- the error's trace, and which one stands behind it -/
def TrC (h base : Heap) (e : Addr) (cls a0 c fl : Value) : Prop :=
  ∃ oe vs T oT ts, h.get? e = some oe ∧ oe.cls = cls ∧ vs[0]? = some a0 ∧ oe.data = .fields vs ∧ vs[1]? = some (.ref T) ∧ base.get? T = none ∧ T ≠ e ∧ h.get? T = some oT ∧ oT.data = .fields ts ∧ ts[3]? = some fl ∧ vs[2]? = some c
theorem TrC.at {h : Heap} (x : TrC h base e cls a0 c fl) : h.TracedAtW base e cls a0 fl := by
  obtain ⟨oe, vs, T, oT, ts, h1, h2, h3, h4, h5, h6, h7, h8, h9, h10, _⟩ := x
  exact ⟨oe, vs, T, oT, ts, h1, ⟨h2, h3⟩, h4, h5, h6, h7, h8, h9, h10⟩
theorem entryC {oe : Obj} {vs : Array Value} {head : Value} {hn : Bool} (hfr : A.frames = some (env :: outer)) (hl : s.heap.FunFrames base (env :: outer)) (hf : env.frame = some L)
    (he : s.heap.get? e = some oe) (hkb : base.StaysIn s.heap) (hen : base.get? e = none) (hd : oe.data = .fields vs) (hsz : 1 < vs.size) (h0 : vs[0]? = some a0) (h2 : vs[2]? = some c)
    (h : ∀ h', base.StaysIn h' → h'.FunFrames base (env :: outer) → TrC h' base e oe.cls a0 c (rawInt L) → s.heap.UpToSlots h' → Q () { s with heap := h' }) :
    wpAny M A ((frameOf env) >>= fun a => (entryPlaceOf L hn) >>= fun pl => (EntryCells.newEntry head a .none (rawInt L) .none pl) >>= fun b => setField (.ref e) 1 b) Q E s := by
  have ne : e ∉ (env :: outer).filterMap (·.frame) := fun hm => by
    obtain ⟨_, o, ho, nf⟩ := hl.mem hm
    rw [he] at ho
    cases ho
    exact nf vs hd
  refine wpAny_bind (wpAny_frameOf_fun hfr hl hf fun k hk => wpAny_bind (wpAny_entryPlaceOf fun pl hp => ?_))
  unfold EntryCells.newEntry newFields
  refine wpAny_bind (wpAny_newObj_type ?_ (hp.sizeOk5 _ _ _ _ _))
  generalize hts : ([head, .ref L, .none, rawInt L, .none] ++ (if pl.isEmpty then List.replicate 6 Value.none else pl)).toArray = ts
  have t3 : ts[3]? = some (rawInt L) := by rw [← hts]; simp
  have he1 : k.get? e = some oe := (hk.2.1 e ne).trans he
  have kb : base.StaysIn k := fun b o z => (hk.2.1 b fun hm => by rw [(hl.mem hm).1] at z; cases z).trans (hkb b o z)
  generalize htb : ({ cls := .type "traceback", dict := none, data := .fields ts } : Obj) = tb
  have dtb : tb.data = .fields ts := by rw [← htb]
  have ftb : tb.isFreed = false := Obj.isFreed_of_fields dtb
  have he2 := Heap.get?_push_of_some (h := k) tb he1
  have nT : k.objs.size ≠ e := Nat.ne_of_gt (Heap.lt_size he1)
  have hT := Heap.get?_push_size k ftb
  refine wpAny_setField he2 hd hsz ?_
  have d3 := Obj.data_mapFields hd (·.setIfInBounds 1 (Value.ref k.objs.size))
  have he3 := Heap.get?_update_self (Obj.mapFields (·.setIfInBounds 1 (Value.ref k.objs.size))) he2 (Obj.isFreed_of_fields d3)
  have hT3 := (Heap.get?_update_other (k.push tb) (Obj.mapFields (·.setIfInBounds 1 (Value.ref k.objs.size))) (Ne.symm nT)).trans hT
  have keep : ∀ b o, b ≠ e → k.get? b = some o → ((k.push tb).update e (Obj.mapFields (·.setIfInBounds 1 (Value.ref k.objs.size)))).get? b = some o := fun b o nb z => by
    rw [Heap.get?_update_other _ _ (Ne.symm nb)]
    exact Heap.get?_push_of_some _ z
  generalize (k.push tb).update e (Obj.mapFields (·.setIfInBounds 1 (Value.ref k.objs.size))) = h' at he3 hT3 keep ⊢
  have nr : ∀ b o, s.heap.get? b = some o → (∀ vs, o.data ≠ .fields vs) → b ≠ e := fun b o z nf q => by
    rw [q, he] at z
    cases z
    exact nf vs hd
  refine h h' (fun b o z => keep b o (fun q => by rw [q, hen] at z; cases z) (kb b o z)) (hl.of_keeps fun b o z nf => ?_) ?_ fun b o z nf => ?_
  · obtain ⟨sl, q⟩ := hk.2.2 b o z
    exact ⟨_, keep b _ (nr b o z nf) q, rfl⟩
  · exact ⟨_, _, k.objs.size, tb, ts, he3, Obj.cls_mapFields _ _, by rw [Array.getElem?_setIfInBounds_ne (by decide)]; exact h0, d3, by simp [hsz], kb.fresh, nT, hT3, dtb, t3, by rw [Array.getElem?_setIfInBounds_ne (by decide)]; exact h2⟩
  · obtain ⟨sl, q⟩ := hk.2.2 b o z
    exact ⟨sl, keep b _ (nr b o z nf) q⟩
/-- setFlight -/
theorem flightC {fr : Option Addr} (hkb : base.StaysIn s.heap) (hl : s.heap.FunFrames base l) (ht : TrC s.heap base e cls a0 c fl)
    (h : ∀ h', base.StaysIn h' → h'.FunFrames base l → TrC h' base e cls a0 c (fr.elim .none fun f => rawInt f) → s.heap.UpToSlots h' → Q () { s with heap := h' }) : wpAny M A (setFlight (.ref e) fr) Q E s := by
  obtain ⟨oe, vs, T, oT, ts, h1, h2, h3, h4, h5, h6, h7, h8, h9, h10, h11⟩ := ht
  have z3 : 3 < ts.size := (Array.getElem?_eq_some_iff.mp h10).1
  unfold setFlight
  refine wpAny_bind (wpAny_field h1 h4 h5 ?_)
  rw [if_pos (by simp)]
  refine wpAny_setField h8 h9 z3 ?_
  have d := Obj.data_mapFields h9 (·.setIfInBounds 3 (fr.elim Value.none fun f => rawInt f))
  have hT := Heap.get?_update_self (Obj.mapFields (·.setIfInBounds 3 (fr.elim Value.none fun f => rawInt f))) h8 (Obj.isFreed_of_fields d)
  have other : ∀ b, b ≠ T → (s.heap.update T (Obj.mapFields (·.setIfInBounds 3 (fr.elim Value.none fun f => rawInt f)))).get? b = s.heap.get? b := fun b nb => Heap.get?_update_other _ _ (Ne.symm nb)
  generalize s.heap.update T (Obj.mapFields (·.setIfInBounds 3 (fr.elim Value.none fun f => rawInt f))) = h' at hT other ⊢
  have nr : ∀ b o, s.heap.get? b = some o → (∀ vs, o.data ≠ .fields vs) → b ≠ T := fun b o z nf q => by
    rw [q, h8] at z
    cases z
    exact nf ts h9
  refine h h' (fun b o z => (other b fun q => by rw [q, h6] at z; cases z).trans (hkb b o z)) (hl.of_keeps fun b o z nf => ⟨o, (other b (nr b o z nf)).trans z, rfl⟩) ?_ fun b o z nf => ⟨o.slots, (other b (nr b o z nf)).trans z⟩
  exact ⟨oe, vs, T, _, _, (other e (Ne.symm h7)).trans h1, h2, h3, h4, h5, h6, h7, hT, d, by simp [z3], h11⟩
/-- noteFrame, the first time -/
theorem firstC {oe : Obj} {vs : Array Value} (hfr : A.frames = some (env :: outer)) (hl : s.heap.FunFrames base (env :: outer)) (hf : env.frame = some L)
    (he : s.heap.get? e = some oe) (hkb : base.StaysIn s.heap) (hen : base.get? e = none) (hd : oe.data = .fields vs) (h1 : vs[1]? = some .none) (h0 : vs[0]? = some a0) (h2 : vs[2]? = some c)
    (h : ∀ h', base.StaysIn h' → h'.FunFrames base (env :: outer) → TrC h' base e oe.cls a0 c (rawInt L) → s.heap.UpToSlots h' → Q () { s with heap := h' }) : wpAny M A (noteFrame (.ref e) env) Q E s := by
  unfold noteFrame
  simp only [hf]
  refine wpAny_bind (wpAny_field he hd h1 ?_)
  rw [if_neg (by decide)]
  exact entryC hfr hl hf he hkb hen hd (Array.getElem?_eq_some_iff.mp h1).1 h0 h2 h
/-- noteFrame, later -/
theorem laterC (hfr : A.frames = some (env :: outer)) (hl : s.heap.FunFrames base (env :: outer)) (hf : env.frame = some L) (ht : TrC s.heap base e cls a0 c .none) (hkb : base.StaysIn s.heap) (hen : base.get? e = none)
    (h : ∀ h', base.StaysIn h' → h'.FunFrames base (env :: outer) → TrC h' base e cls a0 c (rawInt L) → s.heap.UpToSlots h' → Q () { s with heap := h' }) : wpAny M A (noteFrame (.ref e) env) Q E s := by
  obtain ⟨oe, vs, T, oT, ts, h1, h2, h3, h4, h5, h6, h7, h8, h9, h10, h11⟩ := ht
  subst h2
  have z3 : 3 < ts.size := (Array.getElem?_eq_some_iff.mp h10).1
  unfold noteFrame
  simp only [hf]
  refine wpAny_bind (wpAny_field h1 h4 h5 ?_)
  rw [if_pos (by simp)]
  refine wpAny_bind (wpAny_field h8 h9 h10 ?_)
  rw [if_neg (by simp [rawInt])]
  refine wpAny_bind (wpAny_setField h8 h9 z3 ?_)
  have other : ∀ b, b ≠ T → (s.heap.update T (Obj.mapFields (·.setIfInBounds 3 Value.none))).get? b = s.heap.get? b := fun b nb => Heap.get?_update_other _ _ (Ne.symm nb)
  have nr : ∀ b o, s.heap.get? b = some o → (∀ vs, o.data ≠ .fields vs) → b ≠ T := fun b o z nf q => by
    rw [q, h8] at z
    cases z
    exact nf ts h9
  generalize s.heap.update T (Obj.mapFields (·.setIfInBounds 3 Value.none)) = k at other ⊢
  refine entryC (s := { s with heap := k }) hfr (hl.of_keeps fun b o z nf => ⟨o, (other b (nr b o z nf)).trans z, rfl⟩) hf ((other e (Ne.symm h7)).trans h1) (fun b o z => (other b fun q => by rw [q, h6] at z; cases z).trans (hkb b o z)) hen h4 (Array.getElem?_eq_some_iff.mp h5).1 h3 h11 fun h' k1 k2 k3 k4 => h h' k1 k2 k3 fun b o z nf => k4 b o ((other b (nr b o z nf)).trans z) nf
end
end Sw

/-! ## raise C() from None, while an error is handled -/
namespace Sw
open PySem PySem.Spec PyProof.Rows L2
theorem entry_chain : entryFor table "proto.unchain" = some Builtin.«proto.unchain» := entryFor_of_tree (by kernel_rfl)
section
variable {P : Program} {w : World} {A : Around} {E : Value → Shared → Prop} {s : Shared} {a e : Addr}
theorem unchain0 {o : Obj} {vs : Array Value} {Q : Value → Shared → Prop} (ho : s.heap.get? a = some o) (hd : o.data = .fields vs) (h2 : vs[2]? = some .none) (h : Q .none s) :
    wpAny (model P w) A (runValue (.builtin "proto.unchain" ⟨[.ref e, .ref a, .ref a, .bool false], []⟩)) Q E s := by
  refine wpAny_runValue (codeAny_of_tree ?_)
  have hden : (model P w).den (.builtin "proto.unchain" ⟨[.ref e, .ref a, .ref a, .bool false], []⟩) = Builtin.«proto.unchain» ⟨[.ref e, .ref a, .ref a, .bool false], []⟩ := by
    show (match entryFor table "proto.unchain" with | some b => b ⟨[.ref e, .ref a, .ref a, .bool false], []⟩ | none => unsupported ((withoutEnding? "proto.unchain" "#data").getD "proto.unchain")) = _
    rw [entry_chain]
  rw [hden]
  unfold Builtin.«proto.unchain»
  refine wpAny_bind (wpAny_field ho hd h2 ?_)
  rw [if_pos (by rfl)]
  exact wpAny_pure h
theorem raiseNewC {α : Type} {o oe : Obj} {vs ve : Array Value} {Q : α → Shared → Prop} (hh : A.handled = some (.ref a)) (ne : a ≠ e) (ho : s.heap.get? a = some o) (hd : o.data = .fields vs) (h2 : vs[2]? = some .none) (he : s.heap.get? e = some oe) (hde : oe.data = .fields ve) (hs : 2 < ve.size)
    (h : E (.ref e) { s with heap := s.heap.update e (Obj.mapFields (·.setIfInBounds 2 (.ref a))) }) : wpAny (model P w) A (raiseNew (.ref e) : Sem α) Q E s := by
  unfold raiseNew
  refine wpAny_bind (wpAny_handled ?_)
  rw [hh]
  dsimp only
  rw [if_pos (by simpa using ne)]
  refine wpAny_bind (wpAny_holding (unchain0 ho hd h2 ?_))
  refine wpAny_bind (wpAny_setField (a := e) (i := 2) (x := .ref a) he hde hs (wpAny_throw h))
end
end Sw

namespace Sw
open PySem PySem.Spec PyProof.Rows L2
theorem wp_raiseC {X : Cx} {pins : List (Addr × Obj)} {σ : Sg} {H : Hp} {s : Shared} {x : Str} {C a : Addr} {B newId initId : String} {bmB : List Value} {np cpos cp pos : Pos} {kk : Nat} {o : Obj} {vs : Array Value} {Q : Flow → Shared → Prop} {E : Value → Shared → Prop}
    (I : Inv X pins σ H s) (FB : ExcBaseFacts B newId initId bmB) (q : PySem.W.excIn X.K C bmB newId = true) (hk : PySem.W.keepIn X.K (.ref C) = true) (hg : Gl X x) (hm : X.mg x = some (.ref C)) (hh : X.A.handled = some (.ref a))
    (ho : s.heap.get? a = some o) (hdo : o.data = .fields vs) (h2 : vs[2]? = some .none)
    (h : ∀ h' e t, (∀ b o, s.heap.get? b = some o → h'.get? b = some o) → s.heap.get? e = none → h'.get? e = some { cls := .ref C, data := .fields #[.ref t, .none, .ref a, .none, .bool true, .none] } → E (.ref e) { s with heap := h' })
    (hd : (x == ("__debug__" : Str)) = false := by decide) :
    wpAny (model X.prog X.w) X.A (exec (.Raise (some (.Call (.Name x np) [] [] cpos)) (some (.Constant .none kk cp)) pos) X.env) Q E s := by
  rw [arm_exec_Raise]
  refine wpAny_bind (wpAny_standAt ?_)
  show wpAny _ _ (raiseStmt X.env (some (do let v ← eval (.Call (.Name x np) [] [] cpos) X.env; standAt pos; pure v)) (some (do let v ← eval (.Constant .none kk cp) X.env; standAt pos; pure v))) _ _ s
  unfold raiseStmt
  refine wpAny_bind (wpAny_bind (wpAny_Call_Name_kw (ld_glob I hg hm ?_ hd)))
  refine PySem.W.callWith_K0 I.kIn hk ?_
  obtain ⟨tl, Nn, nm, qq, bs, hdc, sn, sb, ab, cl, dd, k0, k1, k2, k3, k5, mN, hC, hN, hni, T⟩ := excAt_of I.kIn q
  obtain ⟨hp, g, d, tk, os⟩ := s
  refine wpAny_call_exc_subT FB T hC hN hni fun h' e hx => ?_
  refine wpAny_bind (wpAny_standAt (wpAny_pure ?_))
  obtain ⟨t, he, htn, ht⟩ := hx.there
  have hC' := hx.keeps _ _ hC
  have hcB : (Value.ref C :: tl).contains (.type "BaseException") = true := by rw [List.contains_cons, T.hasType FB.hasBase, Bool.or_true]
  have ho' := hx.keeps _ _ ho
  have ne : a ≠ e := fun z => by rw [z, hx.new] at ho; cases ho
  repeat (first | with_reducible refine wpAny_loadPart_at he ?_ | with_reducible refine wpAny_loadPart_at hC' ?_ | (with_reducible refine wpAny_isSubtype_exc hC' ?_; rw [hcB]) | wp_step)
  have neC : C ≠ e := fun z => by have := hx.new; rw [← z] at this; rw [this] at hC; cases hC
  have d3 := Obj.data_mapFields (o := { cls := .ref C, data := .fields #[.ref t, .none, .none, .none, .bool false, .none] }) rfl (·.setIfInBounds 3 Value.none)
  have e3 := Heap.get?_update_self (Obj.mapFields (·.setIfInBounds 3 Value.none)) he (Obj.isFreed_of_fields d3)
  have d4 := Obj.data_mapFields d3 (·.setIfInBounds 4 (Value.bool true))
  have e4 := Heap.get?_update_self (Obj.mapFields (·.setIfInBounds 4 (Value.bool true))) e3 (Obj.isFreed_of_fields d4)
  have oth : ∀ b, b ≠ e → ((h'.update e (Obj.mapFields (·.setIfInBounds 3 Value.none))).update e (Obj.mapFields (·.setIfInBounds 4 (Value.bool true)))).get? b = h'.get? b := fun b nb => by
    rw [Heap.get?_update_other _ _ (Ne.symm nb), Heap.get?_update_other _ _ (Ne.symm nb)]
  have hC4 := (oth C neC).trans hC'
  have ho4 := (oth a ne).trans ho'
  have keep : ∀ b o, hp.get? b = some o → ((h'.update e (Obj.mapFields (·.setIfInBounds 3 Value.none))).update e (Obj.mapFields (·.setIfInBounds 4 (Value.bool true)))).get? b = some o := fun b o z => (oth b fun y => by rw [y, hx.new] at z; cases z).trans (hx.keeps b o z)
  generalize (h'.update e (Obj.mapFields (·.setIfInBounds 3 Value.none))).update e (Obj.mapFields (·.setIfInBounds 4 (Value.bool true))) = h4 at e4 hC4 ho4 keep ⊢
  have e5 : h4.get? e = some { cls := .ref C, data := .fields #[.ref t, .none, .none, .none, .bool true, .none] } := e4
  repeat (first | with_reducible refine wpAny_loadPart_at e5 ?_ | with_reducible refine wpAny_loadPart_at hC4 ?_ | wp_step)
  have d6 := Obj.data_mapFields (o := { cls := .ref C, data := .fields #[.ref t, .none, .none, .none, .bool true, .none] }) rfl (·.setIfInBounds 2 (Value.ref a))
  have e6 := Heap.get?_update_self (Obj.mapFields (·.setIfInBounds 2 (Value.ref a))) e5 (Obj.isFreed_of_fields d6)
  exact raiseNewC hh ne ho4 hdo h2 e5 rfl (by show 2 < 6; decide) (h _ e t (fun b o z => (Heap.get?_update_other _ _ (fun y => by rw [← y, hx.new] at z; cases z)).trans (keep b o z)) hx.new e6)
end Sw

/-! ## one error turned into another: try: .. except B: raise C() from None -/
namespace Sw
open PySem PySem.Spec PyProof.Rows L2
/-- as CXE, with no error behind it -/
def CXC (P : Program) (w : World) : CXT := fun outer H s E e s' => ∃ (a C : Addr) (H' : Hp) (B : Heap), e = .ref a ∧ E (.ref C) none H' ∧ Fly P w outer H s H' B a C s' ∧ ∃ t, B.StaysIn s'.heap ∧ B.get? a = none ∧ s'.heap.FunFrames B outer ∧ TrC s'.heap B a (.ref C) t .none .none
section
variable {P : Program} {w : World} {K : PySem.W.Frag} {mg : Str → Option Value} {base : Heap} {N : List Str} {qual : Str} {scope : Scope} {f : Addr} {cd : Value} {A : Around} {outer : List Env} {s₀ : Shared} {H₀ : Hp} {E : XK} {CX : CXT}
theorem fly_mk {pins : List (Addr × Obj)} {σ : Sg} {H : Hp} {s : Shared} {h' : Heap} {e C : Addr} {t : Value} (I : Inv (cxOf CX P w K mg base N qual scope f cd A outer s₀ H₀ E) pins σ H s) (hn : s.heap.get? e = none)
    (F1 : Heap.FlyingW (PySem.W.hideAll s.heap (frs (cxOf CX P w K mg base N qual scope f cd A outer s₀ H₀ E).stack)) outer e (.ref C) t h') (F4 : s.heap.UpToSlots h') :
    Fly P w outer H₀ s₀ H (PySem.W.hideAll s.heap (frs (cxOf CX P w K mg base N qual scope f cd A outer s₀ H₀ E).stack)) e C { s with heap := h' } := by
  generalize hX : cxOf CX P w K mg base N qual scope f cd A outer s₀ H₀ E = X at I F1 ⊢
  have e0 : X.s₀ = s₀ := by rw [← hX]; rfl
  have eH : X.H₀ = H₀ := by rw [← hX]; rfl
  have eO : X.outer = outer := by rw [← hX]; rfl
  have eX : X.ex = [] := by rw [← hX]; rfl
  have eP : X.prog = P := by rw [← hX]; rfl
  have eW : X.w = w := by rw [← hX]; rfl
  have notin : ∀ b o, s₀.heap.get? b = some o → b ∉ frs outer → b ∉ frs X.stack := fun b o e1 hb z => by
    rcases List.mem_cons.mp (I.stkSub b z) with e2 | e2
    · have := Nat.lt_of_lt_of_le (Heap.lt_size (e0 ▸ e1)) I.ok.above
      rw [e2] at this
      exact absurd this (Nat.lt_irrefl _)
    · exact hb (by rw [← eO]; exact e2)
  have nex : ∀ b : Addr, b ∉ X.ex := fun b z => by rw [eX] at z; simp at z
  have ub : Un (frs outer) X.ex H₀ H s₀.heap s.heap := by
    have := I.base
    rw [e0, eH] at this
    unfold Cx.fs at this
    rw [eO] at this
    exact this
  have tf : ∀ b u, H b = some u → b ∉ frs X.stack := fun b u e1 z => by
    rw [I.stkFree b z] at e1; cases e1
  refine ⟨I.os.trans (by rw [e0]), I.bare, ⟨_, F1⟩, fun b o e1 n hb => ?_, fun b o e1 hb => ?_, fun b o e1 n => ub.free b o e1 n (nex b), fun b o e1 hb => ?_, ub.tups, ub.frzs, ub.tbls, fun b u e1 => ?_, ?_, ?_⟩
  · exact PySem.W.hideAll_get _ (ub.keep b o e1 n hb (nex b)) (notin b o e1 hb)
  · have hb' : b ∈ X.fs := by unfold Cx.fs; rw [eO]; exact hb
    have n : H₀ b = none := by rw [← eH]; exact I.ok.frf b hb'
    obtain ⟨s1, q1⟩ := ub.slot b o e1 n hb (nex b)
    obtain ⟨_, o2, q2, nf⟩ := I.ok.funs.mem hb'
    rw [e0, e1] at q2
    cases q2
    obtain ⟨s2, q4⟩ := F4 b _ q1 nf
    exact ⟨s2, q4⟩
  · obtain ⟨o', q1⟩ := ub.there b o e1 (nex b)
    exact ⟨o', PySem.W.hideAll_get _ q1 (notin b o e1 hb)⟩
  · have q := I.hok b u e1
    rw [eP, eW] at q
    refine q.stay (fun c v hc q1 => PySem.W.hideAll_get _ q1 ?_) (fun _ z => z) fun _ _ z => z
    rcases hc with z | z
    · rw [z]; exact tf b u e1
    · exact tf c _ z
  · cases e1 : H e with
    | none => rfl
    | some u =>
      obtain ⟨ob, q1⟩ := objOk_there (I.hok e u e1)
      rw [hn] at q1; cases q1
  · cases e1 : s₀.heap.get? e with
    | none => rfl
    | some o =>
      obtain ⟨o', q1⟩ := ub.there e o e1 (nex e)
      rw [hn] at q1; cases q1
theorem fly_raiseC {pins : List (Addr × Obj)} {σ : Sg} {H : Hp} {s : Shared} {h' : Heap} {e C : Addr} (I : Inv (cxOf (CXC P w) P w K mg base N qual scope f cd A outer s₀ H₀ E) pins σ H s)
    (hx : Heap.MadeExcOf s.heap h' e (.ref C) []) (hE : E (.ref C) none H) : (cxOf (CXC P w) P w K mg base N qual scope f cd A outer s₀ H₀ E).xe (.ref e) { s with heap := h' } := by
  have mk := fun h'' t F1 F4 => fly_mk (h' := h'') (e := e) (C := C) (t := t) I hx.new F1 F4
  generalize hX : cxOf (CXC P w) P w K mg base N qual scope f cd A outer s₀ H₀ E = X at I mk ⊢
  have eS : X.stack = X.env :: outer := by rw [← hX]; rfl
  have eF : X.env.frame = some X.env.locals := by rw [← hX]; rfl
  have exe : X.xe = fun e s' => wpAny (model P w) X.A (leaving X.env e) (fun _ s'' => CXC P w outer H₀ s₀ E e s'') (fun e' s'' => CXC P w outer H₀ s₀ E e' s'') s' := by rw [← hX]; rfl
  rw [exe]
  obtain ⟨t, he, htn, ht⟩ := hx.there
  have ff : s.heap.FunFrames (PySem.W.hideAll s.heap (frs X.stack)) (X.env :: outer) := by
    rw [← eS]
    exact PySem.W.funFrames_hide I.stack fun ev hev a ha => List.mem_filterMap.mpr ⟨ev, hev, ha⟩
  have st : (PySem.W.hideAll s.heap (frs X.stack)).StaysIn h' := fun b o z => hx.keeps b o (PySem.W.of_hideAll _ z)
  have nb : (PySem.W.hideAll s.heap (frs X.stack)).get? e = none := by
    cases q : (PySem.W.hideAll s.heap (frs X.stack)).get? e with
    | none => rfl
    | some o => have := PySem.W.of_hideAll _ q; rw [hx.new] at this; cases this
  unfold leaving
  refine wpAny_bind (firstC (a0 := .ref t) (c := .none) (by rw [I.ok.frames, eS]) (ff.of_keeps fun b o z _ => ⟨o, hx.keeps b o z, rfl⟩) eF he st nb rfl rfl rfl rfl fun h1 st1 ff1 tr1 up1 => ?_)
  refine flightC (fr := none) st1 ff1 tr1 fun h2 st2 ff2 tr2 up2 => ?_
  exact ⟨e, C, H, _, rfl, hE, mk h2 (.ref t) ⟨st2, nb, ff2.2.2, tr2.at⟩ (((Heap.UpToSlots.of_keeps hx.keeps).trans up1).trans up2), _, st2, nb, ff2.2.2, tr2⟩
theorem ps_raiseC {x : Str} {C : Addr} {B newId initId : String} {bmB : List Value} {np cpos pos : Pos} (FB : ExcBaseFacts B newId initId bmB) (q : PySem.W.excIn K C bmB newId = true)
    (hg : Gl (cxOf (CXC P w) P w K mg base N qual scope f cd A outer s₀ H₀ E) x) (hm : mg x = some (.ref C)) (hd : (x == ("__debug__" : Str)) = false := by decide) :
    PS (cxOf (CXC P w) P w K mg base N qual scope f cd A outer s₀ H₀ E) (.Raise (some (.Call (.Name x np) [] [] cpos)) none pos) (tRaise C E) := by
  intro pins s σ H D I h
  obtain ⟨tl, Nn, nm, qq, bs, hdc, sn, sb, ab, cl, dd, k0, k1, k2, k3, k5, mN, hC, hN, hni, T⟩ := excAt_of I.kIn q
  refine wpAny_Raise_call_subT (C := C) (N := Nn) (nm := nm) (q := qq) (bs := bs) (bm := tl) (sn := sn) (hdct := hdc) (sub := sb) (col := cl) (ab := ab) (dd := dd) (k5 := k5) (k3 := k3) (k2 := k2) (k1 := k1) (k0 := k0) FB (mN := mN) (T.hasType FB.hasBase) (I.ok.hd rfl) rfl hni (ld_glob I hg hm ⟨rfl, ?_⟩ hd)
  exact evalArgs_empty ⟨rfl, Nat.zero_le _, hC, hN, T, fun h' e hx => fly_raiseC I hx h⟩
end
theorem okC {P : Program} {w : World} {K : PySem.W.Frag} {mg : Str → Option Value} {base : Heap} {x qual : Str} {st : Stmt} {f : Addr} {fd : FuncData} {N ps : List Str} {k : Nat} {sp : Sp} (F : Fun K x qual st f fd) (S : FnScope N ps (defScope st)) (len : ∀ vs H Q E, sp vs H Q E → vs.length = ps.length)
    (hb : ∀ (cdv : Value) (A : Around) (outer : List Env) (s : Shared) (H : Hp) (vs : List V) (Q : VK) (E : XK), Room k (A.deeper (envOfC qual (defScope st) s.heap.objs.size f cdv)) → sp vs H Q E →
      ∃ t, PSs (cxOf (CXC P w) P w K mg base N qual (defScope st) f cdv A outer s H E) (defBody st) t ∧ t { nx := fun _ H' => Q .non H', rt := Q } (start N vs) H) : FnOk P w K mg base (CXC P w) (k + 1) f fd ps sp := by
  obtain ⟨oc, od, kV, doc, pm, an, cdv, ct, osl, e, lk, hcd⟩ := F.ex
  subst e
  exact fn_of lk hcd S len fun A outer s H vs Q E hr hsp => hb cdv A outer s H vs Q E hr hsp
end Sw

/-! ## try: .. except B: raise C() from None -/
namespace Sw
open PySem PySem.Spec PyProof.Rows L2
section
variable {P : Program} {w : World} {K : PySem.W.Frag} {mg : Str → Option Value} {base : Heap} {N : List Str} {qual : Str} {scope : Scope} {f : Addr} {cd : Value} {A : Around} {outer : List Env} {s₀ : Shared} {H₀ : Hp} {E : XK}
/-- what the error within must come with -/
def ETurn (K : PySem.W.Frag) (D0 C2 : Addr) (E : XK) : XK := fun cls _ H2 => ∃ C, cls = .ref C ∧ PySem.W.subIn K (.ref C) (.ref D0) = some true ∧ ∀ a, H2 a = none → E (.ref C2) none (upd H2 a (XO a C))
theorem ps_tryTurn {xB x2 : Str} {D0 C2 : Addr} {B newId initId : String} {bmB : List Value} {body : List Stmt} {ts : TS} {np np2 cpos cp rpos hp pos3 : Pos} {kk : Nat}
    (hb : ∀ EE, Passes (CXC P w) ((cxOf (CXE P w) P w K mg base N qual scope f cd A outer s₀ H₀ E).wish EE) (ETurn K D0 C2 E) → QSs ((cxOf (CXE P w) P w K mg base N qual scope f cd A outer s₀ H₀ E).wish EE) body ts)
    (hgB : Gl (cxOf (CXE P w) P w K mg base N qual scope f cd A outer s₀ H₀ E) xB) (hmB : mg xB = some (.ref D0)) (h1 : PySem.W.typeIn K (.ref D0) = some (.type "type")) (h2 : PySem.W.subIn K (.ref D0) (.type "BaseException") = some true) (hD : ∃ cd, PySem.W.clsIn K D0 = some cd)
    (FB : ExcBaseFacts B newId initId bmB) (q : PySem.W.excIn K C2 bmB newId = true) (hk : PySem.W.keepIn K (.ref C2) = true) (hg : Gl (cxOf (CXE P w) P w K mg base N qual scope f cd A outer s₀ H₀ E) x2) (hm : mg x2 = some (.ref C2))
    (hdB : (xB == ("__debug__" : Str)) = false := by decide) (hd2 : (x2 == ("__debug__" : Str)) = false := by decide) :
    PS (cxOf (CXE P w) P w K mg base N qual scope f cd A outer s₀ H₀ E) (.Try body [.ExceptHandler (some (.Name xB np)) none [.Raise (some (.Call (.Name x2 np2) [] [] cpos)) (some (.Constant .none kk cp)) rpos] hp] [] [] pos3) ts := by
  have mk := fun (pins : List (Addr × Obj)) (σ : Sg) (H : Hp) (s : Shared) (h' : Heap) (e C : Addr) (t : Value) I hn F1 F4 => fly_mk (CX := CXE P w) (P := P) (w := w) (K := K) (mg := mg) (base := base) (N := N) (qual := qual) (scope := scope) (f := f) (cd := cd) (A := A) (outer := outer) (s₀ := s₀) (H₀ := H₀) (E := E) (pins := pins) (σ := σ) (H := H) (s := s) (h' := h') (e := e) (C := C) (t := t) I hn F1 F4
  have exe : (cxOf (CXE P w) P w K mg base N qual scope f cd A outer s₀ H₀ E).xe = fun e s' => wpAny (model P w) (cxOf (CXE P w) P w K mg base N qual scope f cd A outer s₀ H₀ E).A (leaving (cxOf (CXE P w) P w K mg base N qual scope f cd A outer s₀ H₀ E).env e) (fun _ s'' => CXE P w outer H₀ s₀ E e s'') (fun e' s'' => CXE P w outer H₀ s₀ E e' s'') s' := rfl
  have eS : (cxOf (CXE P w) P w K mg base N qual scope f cd A outer s₀ H₀ E).stack = (cxOf (CXE P w) P w K mg base N qual scope f cd A outer s₀ H₀ E).env :: outer := rfl
  have eF : (cxOf (CXE P w) P w K mg base N qual scope f cd A outer s₀ H₀ E).env.frame = some (cxOf (CXE P w) P w K mg base N qual scope f cd A outer s₀ H₀ E).env.locals := rfl
  have eP : (cxOf (CXE P w) P w K mg base N qual scope f cd A outer s₀ H₀ E).prog = P := rfl
  have eW : (cxOf (CXE P w) P w K mg base N qual scope f cd A outer s₀ H₀ E).w = w := rfl
  have eK : (cxOf (CXE P w) P w K mg base N qual scope f cd A outer s₀ H₀ E).K = K := rfl
  have eM : (cxOf (CXE P w) P w K mg base N qual scope f cd A outer s₀ H₀ E).mg = mg := rfl
  generalize cxOf (CXE P w) P w K mg base N qual scope f cd A outer s₀ H₀ E = X at *
  subst eP eW eK eM
  intro pins s σ H D I h
  refine wpAny_Try_except ?_
  generalize hEE : (fun (e : Value) (s₁ : Shared) => wpAny (model X.prog X.w) X.A (noteFrame e X.env) (fun _ s₂ => wpAny (model X.prog X.w) X.A (setFlight e none) (fun _ s₃ => wpAny (model X.prog X.w) X.A (handleBy e X.env [.ExceptHandler (some (.Name xB np)) none [.Raise (some (.Call (.Name x2 np2) [] [] cpos)) (some (.Constant .none kk cp)) rpos] hp]) (SP X pins D) X.xe s₃) X.xe s₂) X.xe s₁) = EE
  have pass : Passes (CXC X.prog X.w) (X.wish EE) (ETurn X.K D0 C2 E) := by
    intro pins1 σ1 H1 s1 ev s' I1 hq
    have I1 := I1.unwish
    obtain ⟨a, C, H2, B1, rfl, ⟨C', eC, hsub, hE⟩, Fl, t0, st, nb, ff, tr⟩ := hq
    cases eC
    show EE (.ref a) s'
    rw [← hEE]
    have ff : s'.heap.FunFrames B1 (X.env :: outer) := eS ▸ ff
    refine laterC (by rw [I.ok.frames, eS]) ff eF tr st nb fun h4 st4 ff4 tr4 up4 => ?_
    refine flightC (fr := none) st4 ff4 tr4 fun h5 st5 ff5 tr5 up5 => ?_
    have fl5 : Heap.FlyingW B1 X.stack a (.ref C) t0 h5 := ⟨st5, nb, eS ▸ ff5, tr5.at⟩
    have I5 := Fl.inv I1 fl5 (up4.trans up5)
    obtain ⟨oe, q1, q2⟩ := fl5.there
    refine wpAny_handleBy_cons (codeAny_handlers_test (ld_glob (X := hX X a) (inv_hx I5 a) hgB hmB ?_ hdB)) (by intro z; cases z)
    refine exc_match I5.kIn q1 q2 h1 h2 hsub hD (codeAny_handlers_suite ?_)
    refine flightC (fr := none) st5 ff5 tr5 fun h6 st6 ff6 tr6 up6 => ?_
    have fl6 : Heap.FlyingW B1 X.stack a (.ref C) t0 h6 := ⟨st6, nb, eS ▸ ff6, tr6.at⟩
    have I6 := Fl.inv I1 fl6 (up4.trans (up5.trans up6))
    obtain ⟨oa, va, T, oT, tsT, g1, g2, g3, g4, g5, g6, g7, g8, g9, g10, g11⟩ := tr6
    refine wpAny_execs_cons (wp_raiseC (X := hX X a) (inv_hx I6 a) FB q hk hg hm rfl g1 g4 g11 (fun h7 e t keep new he => ?_) hd2)
    have new : h6.get? e = none := new
    have ffs : h6.FunFrames (PySem.W.hideAll h6 (frs X.stack)) (X.env :: outer) := by
      rw [← eS]
      exact PySem.W.funFrames_hide I6.stack fun ev hev a ha => List.mem_filterMap.mpr ⟨ev, hev, ha⟩
    have nb7 : (PySem.W.hideAll h6 (frs X.stack)).get? e = none := by
      cases z : (PySem.W.hideAll h6 (frs X.stack)).get? e with
      | none => rfl
      | some o => have := PySem.W.of_hideAll _ z; rw [new] at this; cases this
    refine firstC (base := PySem.W.hideAll h6 (frs X.stack)) (a0 := .ref t) (c := .ref a) (by show X.A.frames = _; rw [I.ok.frames, eS]) (ffs.of_keeps fun b o z _ => ⟨o, keep b o z, rfl⟩) eF he (fun b o z => keep b o (PySem.W.of_hideAll _ z)) nb7 rfl rfl rfl rfl fun h8 st8 ff8 tr8 up8 => ?_
    obtain ⟨ob, vb, Tb, oTb, tb, k1, k2, k3, k4, k5, k6, k7, k8, k9, k10, k11⟩ := id tr8
    refine wpAny_bind (wpAny_field k1 k4 k5 ?_)
    rw [if_neg (by simp)]
    refine flightC (fr := X.env.frame) st8 ff8 tr8 fun h9 st9 ff9 tr9 up9 => ?_
    rw [eF] at tr9
    rw [exe]
    unfold leaving
    refine wpAny_bind (wpAny_noteFrame_againW eF tr9.at ?_)
    refine flightC (fr := none) st9 ff9 tr9 fun h10 st10 ff10 tr10 up10 => ?_
    have fm := mk _ _ _ { s' with heap := h6 } h10 e C2 (.ref t) I6 new ⟨st10, nb7, ff10.2.2, tr10.at⟩ ((((Heap.UpToSlots.of_keeps keep).trans up8).trans up9).trans up10)
    exact ⟨e, C2, _, _, rfl, hE a Fl.new, fm⟩
  refine thn ((hb EE pass).run pins s σ H D (I.wish EE) h) fun f s1 hsp => ?_
  cases f with
  | next =>
    obtain ⟨σ', H', I', q⟩ := hsp
    exact wpAny_execs_nil ⟨σ', H', I'.unwish, q⟩
  | brk =>
    obtain ⟨σ', H', I', q⟩ := hsp
    exact ⟨σ', H', I'.unwish, q⟩
  | cont =>
    obtain ⟨σ', H', I', q⟩ := hsp
    exact ⟨σ', H', I'.unwish, q⟩
  | ret u =>
    obtain ⟨v, σ', H', I', q⟩ := hsp
    exact ⟨v, σ', H', I'.unwish, q⟩
end
end Sw

/-! ## k24: what a row of pieces that is read through has: as many strokes as forks, as many brackets as names -/
namespace Sw
/-- how often a piece stands in a row -/
def nP (c : List Nat) : List (List Nat) → Nat
  | [] => 0
  | p :: ps => (if p = c then 1 else 0) + nP c ps
theorem nP_app (c : List Nat) : ∀ a b : List (List Nat), nP c (a ++ b) = nP c a + nP c b
  | [], b => by rw [List.nil_append, nP]; omega
  | p :: a, b => by rw [List.cons_append, nP, nP, nP_app c a b]; omega
def isN (c p : List Nat) : Nat := if p = c then 1 else 0
theorem marks_ne : nmC 7 ≠ nmC 8 ∧ nmC 7 ≠ [91] ∧ nmC 7 ≠ [124] ∧ nmC 7 ≠ [93] ∧ nmC 8 ≠ [91] ∧ nmC 8 ≠ [124] ∧ nmC 8 ≠ [93] ∧ ([91] : List Nat) ≠ [124] ∧ ([91] : List Nat) ≠ [93] ∧ ([124] : List Nat) ≠ [93] ∧ nmC 7 ≠ [] ∧ nmC 8 ≠ [] ∧ yesC ≠ noC ∧ yesC ≠ bodyC ∧ yesC ≠ textC ∧ noC ≠ bodyC ∧ noC ≠ textC ∧ bodyC ≠ textC := by decide
/-- what is open, told from the pieces read: y, n, b: how many yes, no, body rows are open -/
structure Cnt (a : Rst) (F Wh O S C : Nat) : Prop where
  ex : ∃ cf cw : Nat, F = isN (nmC 7) a.nm + nP yesC a.pl + cf ∧ Wh = isN (nmC 8) a.nm + nP bodyC a.pl + cw ∧ O = nP yesC a.pl + nP bodyC a.pl + cf + cw ∧ S = nP noC a.pl + cf ∧ C = cf + cw
theorem Cnt.start : Cnt ⟨[[]], [textC], []⟩ 0 0 0 0 0 := ⟨0, 0, by decide, by decide, by decide, by decide, rfl⟩
theorem Cnt.step {a b : Rst} {p : List Nat} {F Wh O S C : Nat} (h : Cnt a F Wh O S C) (g : Stp a p b) : Cnt b (F + isN (nmC 7) p) (Wh + isN (nmC 8) p) (O + isN [91] p) (S + isN [124] p) (C + isN [93] p) := by
  obtain ⟨cf, cw, h1, h2, h3, h4, h5⟩ := h
  have e1 : isN (nmC 7) [91] = 0 ∧ isN (nmC 8) [91] = 0 ∧ isN [91] [91] = 1 ∧ isN [124] [91] = 0 ∧ isN [93] [91] = 0 := by decide
  have e2 : isN (nmC 7) [124] = 0 ∧ isN (nmC 8) [124] = 0 ∧ isN [91] [124] = 0 ∧ isN [124] [124] = 1 ∧ isN [93] [124] = 0 := by decide
  have e3 : isN (nmC 7) [93] = 0 ∧ isN (nmC 8) [93] = 0 ∧ isN [91] [93] = 0 ∧ isN [124] [93] = 0 ∧ isN [93] [93] = 1 := by decide
  have e7 : isN (nmC 7) (nmC 7) = 1 ∧ isN (nmC 8) (nmC 7) = 0 ∧ isN [91] (nmC 7) = 0 ∧ isN [124] (nmC 7) = 0 ∧ isN [93] (nmC 7) = 0 := by decide
  have e8 : isN (nmC 7) (nmC 8) = 0 ∧ isN (nmC 8) (nmC 8) = 1 ∧ isN [91] (nmC 8) = 0 ∧ isN [124] (nmC 8) = 0 ∧ isN [93] (nmC 8) = 0 := by decide
  have e0 : isN (nmC 7) [] = 0 ∧ isN (nmC 8) [] = 0 := by decide
  obtain ⟨p1, p2, p3, p4, p5⟩ := e1
  obtain ⟨q1, q2, q3, q4, q5⟩ := e2
  obtain ⟨r1, r2, r3, r4, r5⟩ := e3
  obtain ⟨s1, s2, s3, s4, s5⟩ := e7
  obtain ⟨t1, t2, t3, t4, t5⟩ := e8
  obtain ⟨z1, z2⟩ := e0
  have yy : ∀ pl, nP yesC (yesC :: pl) = 1 + nP yesC pl ∧ nP noC (yesC :: pl) = nP noC pl ∧ nP bodyC (yesC :: pl) = nP bodyC pl := fun pl => by
    refine ⟨by rw [nP, if_pos rfl], by rw [nP, if_neg (by decide)]; omega, by rw [nP, if_neg (by decide)]; omega⟩
  have nn : ∀ pl, nP yesC (noC :: pl) = nP yesC pl ∧ nP noC (noC :: pl) = 1 + nP noC pl ∧ nP bodyC (noC :: pl) = nP bodyC pl := fun pl => by
    refine ⟨by rw [nP, if_neg (by decide)]; omega, by rw [nP, if_pos rfl], by rw [nP, if_neg (by decide)]; omega⟩
  have bb : ∀ pl, nP yesC (bodyC :: pl) = nP yesC pl ∧ nP noC (bodyC :: pl) = nP noC pl ∧ nP bodyC (bodyC :: pl) = 1 + nP bodyC pl := fun pl => by
    refine ⟨by rw [nP, if_neg (by decide)]; omega, by rw [nP, if_neg (by decide)]; omega, by rw [nP, if_pos rfl]⟩
  cases g with
  | @openF st pl =>
    obtain ⟨a1, a2, a3⟩ := yy pl
    have h1 : F = isN (nmC 7) (nmC 7) + nP yesC pl + cf := h1
    have h2 : Wh = isN (nmC 8) (nmC 7) + nP bodyC pl + cw := h2
    have h3 : O = nP yesC pl + nP bodyC pl + cf + cw := h3
    have h4 : S = nP noC pl + cf := h4
    refine ⟨cf, cw, ?_, ?_, ?_, ?_, ?_⟩
    · show _ = isN (nmC 7) [] + nP yesC (yesC :: pl) + cf; omega
    · show _ = isN (nmC 8) [] + nP bodyC (yesC :: pl) + cw; omega
    · show _ = nP yesC (yesC :: pl) + nP bodyC (yesC :: pl) + cf + cw; omega
    · show _ = nP noC (yesC :: pl) + cf; omega
    · omega
  | @openW st pl =>
    obtain ⟨a1, a2, a3⟩ := bb pl
    have h1 : F = isN (nmC 7) (nmC 8) + nP yesC pl + cf := h1
    have h2 : Wh = isN (nmC 8) (nmC 8) + nP bodyC pl + cw := h2
    have h3 : O = nP yesC pl + nP bodyC pl + cf + cw := h3
    have h4 : S = nP noC pl + cf := h4
    refine ⟨cf, cw, ?_, ?_, ?_, ?_, ?_⟩
    · show _ = isN (nmC 7) [] + nP yesC (bodyC :: pl) + cf; omega
    · show _ = isN (nmC 8) [] + nP bodyC (bodyC :: pl) + cw; omega
    · show _ = nP yesC (bodyC :: pl) + nP bodyC (bodyC :: pl) + cf + cw; omega
    · show _ = nP noC (bodyC :: pl) + cf; omega
    · omega
  | @name st pl k hk =>
    have h1 : F = isN (nmC 7) [] + nP yesC pl + cf := h1
    have h2 : Wh = isN (nmC 8) [] + nP bodyC pl + cw := h2
    have h3 : O = nP yesC pl + nP bodyC pl + cf + cw := h3
    have h4 : S = nP noC pl + cf := h4
    refine ⟨cf, cw, ?_, ?_, ?_, ?_, ?_⟩
    · show _ = isN (nmC 7) (nmC k) + nP yesC pl + cf; omega
    · show _ = isN (nmC 8) (nmC k) + nP bodyC pl + cw; omega
    · show _ = nP yesC pl + nP bodyC pl + cf + cw
      rcases hk with rfl | rfl <;> omega
    · show _ = nP noC pl + cf
      rcases hk with rfl | rfl <;> omega
    · rcases hk with rfl | rfl <;> omega
  | @bar st pl =>
    obtain ⟨a1, a2, a3⟩ := yy pl
    obtain ⟨b1, b2, b3⟩ := nn (yesC :: pl)
    have h1 : F = isN (nmC 7) [] + nP yesC (yesC :: pl) + cf := h1
    have h2 : Wh = isN (nmC 8) [] + nP bodyC (yesC :: pl) + cw := h2
    have h3 : O = nP yesC (yesC :: pl) + nP bodyC (yesC :: pl) + cf + cw := h3
    have h4 : S = nP noC (yesC :: pl) + cf := h4
    refine ⟨cf, cw, ?_, ?_, ?_, ?_, ?_⟩
    · show _ = isN (nmC 7) [] + nP yesC (noC :: yesC :: pl) + cf; omega
    · show _ = isN (nmC 8) [] + nP bodyC (noC :: yesC :: pl) + cw; omega
    · show _ = nP yesC (noC :: yesC :: pl) + nP bodyC (noC :: yesC :: pl) + cf + cw; omega
    · show _ = nP noC (noC :: yesC :: pl) + cf; omega
    · omega
  | @shutW r s st pl =>
    obtain ⟨a1, a2, a3⟩ := bb pl
    have h1 : F = isN (nmC 7) [] + nP yesC (bodyC :: pl) + cf := h1
    have h2 : Wh = isN (nmC 8) [] + nP bodyC (bodyC :: pl) + cw := h2
    have h3 : O = nP yesC (bodyC :: pl) + nP bodyC (bodyC :: pl) + cf + cw := h3
    have h4 : S = nP noC (bodyC :: pl) + cf := h4
    refine ⟨cf, cw + 1, ?_, ?_, ?_, ?_, ?_⟩
    · show _ = isN (nmC 7) [] + nP yesC pl + cf; omega
    · show _ = isN (nmC 8) [] + nP bodyC pl + (cw + 1); omega
    · show _ = nP yesC pl + nP bodyC pl + cf + (cw + 1); omega
    · show _ = nP noC pl + cf; omega
    · omega
  | @shutF n y s st pl =>
    obtain ⟨a1, a2, a3⟩ := yy pl
    obtain ⟨b1, b2, b3⟩ := nn (yesC :: pl)
    have h1 : F = isN (nmC 7) [] + nP yesC (noC :: yesC :: pl) + cf := h1
    have h2 : Wh = isN (nmC 8) [] + nP bodyC (noC :: yesC :: pl) + cw := h2
    have h3 : O = nP yesC (noC :: yesC :: pl) + nP bodyC (noC :: yesC :: pl) + cf + cw := h3
    have h4 : S = nP noC (noC :: yesC :: pl) + cf := h4
    refine ⟨cf + 1, cw, ?_, ?_, ?_, ?_, ?_⟩
    · show _ = isN (nmC 7) [] + nP yesC pl + (cf + 1); omega
    · show _ = isN (nmC 8) [] + nP bodyC pl + cw; omega
    · show _ = nP yesC pl + nP bodyC pl + (cf + 1) + cw; omega
    · show _ = nP noC pl + (cf + 1); omega
    · omega
  | @word w p s st pl ho =>
    obtain ⟨n1, n2, n3, n4, n5⟩ := one_ne ho
    have f1 : isN (nmC 7) p = 0 := if_neg n2
    have f2 : isN (nmC 8) p = 0 := if_neg n3
    have f3 : isN [91] p = 0 := if_neg n1
    have f4 : isN [124] p = 0 := if_neg n4
    have f5 : isN [93] p = 0 := if_neg n5
    exact ⟨cf, cw, by rw [f1]; exact h1, by rw [f2]; exact h2, by rw [f3]; exact h3, by rw [f4]; exact h4, by rw [f5]; exact h5⟩
theorem Cnt.steps {a b : Rst} {ps : List (List Nat)} (g : Stps a ps b) : ∀ {F Wh O S C : Nat}, Cnt a F Wh O S C → Cnt b (F + nP (nmC 7) ps) (Wh + nP (nmC 8) ps) (O + nP [91] ps) (S + nP [124] ps) (C + nP [93] ps) := by
  induction g with
  | nil => intro F Wh O S C h; exact h
  | @cons a b c p ps h g ih =>
    intro F Wh O S C h0
    have := ih (h0.step h)
    simp only [nP]
    unfold isN at this
    simpa only [Nat.add_assoc] using this
/-- a row that is read to its end -/
def Good5 (ps : List (List Nat)) : Prop := nP (nmC 7) ps = nP [124] ps ∧ nP (nmC 7) ps + nP (nmC 8) ps = nP [91] ps ∧ nP [91] ps = nP [93] ps
theorem good5 {r : List T} {ps : List (List Nat)} (h : Stps ⟨[[]], [textC], []⟩ ps ⟨[r], [textC], []⟩) : Good5 ps := by
  obtain ⟨cf, cw, h1, h2, h3, h4, h5⟩ := Cnt.steps h Cnt.start
  have e : isN (nmC 7) [] = 0 ∧ isN (nmC 8) [] = 0 ∧ nP yesC [textC] = 0 ∧ nP noC [textC] = 0 ∧ nP bodyC [textC] = 0 := by decide
  obtain ⟨e1, e2, e3, e4, e5⟩ := e
  have h1 : 0 + nP (nmC 7) ps = isN (nmC 7) [] + nP yesC [textC] + cf := h1
  have h2 : 0 + nP (nmC 8) ps = isN (nmC 8) [] + nP bodyC [textC] + cw := h2
  have h3 : 0 + nP [91] ps = nP yesC [textC] + nP bodyC [textC] + cf + cw := h3
  have h4 : 0 + nP [124] ps = nP noC [textC] + cf := h4
  have h5 : 0 + nP [93] ps = cf + cw := h5
  exact ⟨by omega, by omega, by omega⟩
end Sw

/-! ## reading any row of pieces, apart from any heap: each piece's word, each step -/
namespace Sw
def treeP (l : List Nat) : Option T := match T.rd [[]] l with
  | some [[t]] => some t
  | _ => none
theorem treeP_of {l : List Nat} {t : T} (h : T.rd [[]] l = some [[t]]) : treeP l = some t := by unfold treeP; rw [h]
theorem treeP_rd {l : List Nat} {t : T} (h : treeP l = some t) : T.rd [[]] l = some [[t]] := by
  unfold treeP at h
  split at h
  · rename_i u e
    rw [e, Option.some.inj h]
  · cases h
theorem treeP_wr (t : T) : treeP t.wr = some t := treeP_of (T.rd_whole t)
/-- which of the six plain names -/
def sixK (p : List Nat) : Nat := if p = nmC 1 then 1 else if p = nmC 2 then 2 else if p = nmC 3 then 3 else if p = nmC 4 then 4 else if p = nmC 5 then 5 else if p = nmC 6 then 6 else 0
theorem sixK_le (p : List Nat) : sixK p ≤ 6 := by unfold sixK; repeat' split <;> try decide
theorem sixK_nm {k : Nat} (h1 : 1 ≤ k) (h6 : k ≤ 6) : sixK (nmC k) = k := by
  have : k = 1 ∨ k = 2 ∨ k = 3 ∨ k = 4 ∨ k = 5 ∨ k = 6 := by omega
  rcases this with rfl | rfl | rfl | rfl | rfl | rfl <;> decide
theorem sixK_of {p : List Nat} (h : sixK p ≠ 0) : p = nmC (sixK p) := by
  unfold sixK at h ⊢
  by_cases h1 : p = nmC 1
  · rw [if_pos h1]; exact h1
  by_cases h2 : p = nmC 2
  · rw [if_neg h1, if_pos h2]; exact h2
  by_cases h3 : p = nmC 3
  · rw [if_neg h1, if_neg h2, if_pos h3]; exact h3
  by_cases h4 : p = nmC 4
  · rw [if_neg h1, if_neg h2, if_neg h3, if_pos h4]; exact h4
  by_cases h5 : p = nmC 5
  · rw [if_neg h1, if_neg h2, if_neg h3, if_neg h4, if_pos h5]; exact h5
  by_cases h6 : p = nmC 6
  · rw [if_neg h1, if_neg h2, if_neg h3, if_neg h4, if_neg h5, if_pos h6]; exact h6
  rw [if_neg h1, if_neg h2, if_neg h3, if_neg h4, if_neg h5, if_neg h6] at h
  exact absurd rfl h
theorem six_any (p : List Nat) : ([1, 2, 3, 4, 5, 6].any fun k => decide (nmC k = p)) = decide (sixK p ≠ 0) := by
  by_cases h : sixK p ≠ 0
  · have e := sixK_of h
    have h6 := sixK_le p
    rw [decide_eq_true h, List.any_eq_true]
    exact ⟨sixK p, by have : sixK p = 1 ∨ sixK p = 2 ∨ sixK p = 3 ∨ sixK p = 4 ∨ sixK p = 5 ∨ sixK p = 6 := by omega
                      rcases this with z | z | z | z | z | z <;> rw [z] <;> simp, decide_eq_true e.symm⟩
  · rw [decide_eq_false h, List.any_eq_false]
    intro k hk z
    have e : nmC k = p := of_decide_eq_true z
    have hk' : 1 ≤ k ∧ k ≤ 6 := by simp at hk; omega
    apply h
    rw [← e, sixK_nm hk'.1 hk'.2]
    omega
def wordP (p : List Nat) : Option T := if sixK p ≠ 0 then some (wordT (sixK p) []) else if p.head? = some 39 then (treeP p.tail).map (fun t => wordT 0 t.kids) else if p.head? = some 33 then (treeP p.tail).bind (fun t => if oddT t = true then some t else none) else none
theorem six_cons {c : Nat} {l : List Nat} (h : c < 97) : sixK (c :: l) = 0 := by
  have h1 := six_no (l := l) h
  rw [six_any] at h1
  have := of_decide_eq_false h1
  exact Decidable.not_not.mp this
theorem wordP_lay {l : List Nat} : wordP (39 :: l) = (treeP l).map (fun t => wordT 0 t.kids) := by
  unfold wordP
  rw [if_neg (by rw [six_cons (by decide)]; exact fun z => z rfl), if_pos (show (39 :: l).head? = some 39 from rfl)]
  rfl
theorem wordP_bang {l : List Nat} : wordP (33 :: l) = (treeP l).bind (fun t => if oddT t = true then some t else none) := by
  unfold wordP
  rw [if_neg (by rw [six_cons (by decide)]; exact fun z => z rfl), if_neg (show ¬ (33 :: l).head? = some 39 by simp), if_pos (show (33 :: l).head? = some 33 from rfl)]
  rfl
theorem wordP_plain {p : List Nat} (h : sixK p ≠ 0) : wordP p = some (wordT (sixK p) []) := by unfold wordP; rw [if_pos h]
theorem wordP_no {p : List Nat} (h : sixK p = 0) (h1 : p.head? ≠ some 39) (h2 : p.head? ≠ some 33) : wordP p = none := by unfold wordP; rw [if_neg (fun z => z h), if_neg h1, if_neg h2]
theorem one_wordP {w : T} {p : List Nat} (h : One w p) : wordP p = some w := by
  cases h with
  | odd h => rw [wordP_bang, treeP_wr, Option.bind_some, if_pos h]
  | lay h hs =>
    rw [wordP_lay, treeP_wr, Option.map_some]
    exact congrArg some (lay_of h hs).symm
  | plain h h1 h6 =>
    rw [wordP_plain (by rw [sixK_nm h1 h6]; omega), sixK_nm h1 h6]
    exact congrArg some (plain_of h h1 h6).symm
theorem lay_word (us : List T) : oddT (wordT 0 us) = false ∧ sortT (wordT 0 us) = 0 ∧ loadT (wordT 0 us) = .node us := by
  refine ⟨?_, rfl, rfl⟩
  unfold oddT headOdd
  have : T.beq (wordT 0 us) leaf = false := by
    cases z : T.beq (wordT 0 us) leaf with
    | false => rfl
    | true => have := (T.beq_iff _ _).mp z; cases this
  rw [this]
  rfl
theorem wordP_one {w : T} {p : List Nat} (h : wordP p = some w) : One w p := by
  by_cases h6 : sixK p ≠ 0
  · rw [wordP_plain h6] at h
    have e := sixK_of h6
    have hle := sixK_le p
    cases h
    generalize sixK p = k at *
    have hk : k = 1 ∨ k = 2 ∨ k = 3 ∨ k = 4 ∨ k = 5 ∨ k = 6 := by omega
    subst e
    rcases hk with rfl | rfl | rfl | rfl | rfl | rfl
    · exact One.plain (w := wordT 1 []) (by decide) (by decide) (by decide)
    · exact One.plain (w := wordT 2 []) (by decide) (by decide) (by decide)
    · exact One.plain (w := wordT 3 []) (by decide) (by decide) (by decide)
    · exact One.plain (w := wordT 4 []) (by decide) (by decide) (by decide)
    · exact One.plain (w := wordT 5 []) (by decide) (by decide) (by decide)
    · exact One.plain (w := wordT 6 []) (by decide) (by decide) (by decide)
  · have h0 : sixK p = 0 := Decidable.not_not.mp h6
    cases p with
    | nil => rw [wordP_no h0 (by decide) (by decide)] at h; cases h
    | cons c l =>
      by_cases c39 : c = 39
      · subst c39
        rw [wordP_lay] at h
        cases ht : treeP l with
        | none => rw [ht] at h; cases h
        | some t =>
          rw [ht, Option.map_some] at h
          cases h
          have e := T.rd_wr_eq (treeP_rd ht)
          obtain ⟨a1, a2, a3⟩ := lay_word t.kids
          have := One.lay a1 a2
          rw [a3] at this
          rw [← e]
          have ek : T.node t.kids = t := by cases t; rfl
          rw [ek] at this
          exact this
      · by_cases c33 : c = 33
        · subst c33
          rw [wordP_bang] at h
          cases ht : treeP l with
          | none => rw [ht] at h; cases h
          | some t =>
            rw [ht, Option.bind_some] at h
            split at h
            · rename_i ho
              cases h
              have e := T.rd_wr_eq (treeP_rd ht)
              rw [← e]
              exact One.odd ho
            · cases h
        · rw [wordP_no h0 (by simpa using c39) (by simpa using c33)] at h
          cases h
/-! ### one step -/
def addF (w : Option T) (st : List (List T)) (pl : List (List Nat)) : Option Rst := match w, st with
  | some w, s :: st => some ⟨(s ++ [w]) :: st, pl, []⟩
  | _, _ => none
def shutR (st : List (List T)) (pl : List (List Nat)) : Option Rst := match pl, st with
  | c :: pl', r :: s :: st' => if c = bodyC then some ⟨(s ++ [loopW r]) :: st', pl', []⟩ else if c = noC then (match st' with
      | u :: st'' => some ⟨(u ++ [forkW s r]) :: st'', pl'.tail, []⟩
      | [] => none) else none
  | _, _ => none
def stpF (a : Rst) (p : List Nat) : Option Rst :=
  if p = [91] then (if a.nm = nmC 7 then some ⟨[] :: a.st, yesC :: a.pl, []⟩ else if a.nm = nmC 8 then some ⟨[] :: a.st, bodyC :: a.pl, []⟩ else none)
  else if a.nm ≠ [] then none
  else if p = nmC 7 ∨ p = nmC 8 then some ⟨a.st, a.pl, p⟩
  else if p = [124] then (if a.pl.head? = some yesC then some ⟨[] :: a.st, noC :: a.pl, []⟩ else none)
  else if p = [93] then shutR a.st a.pl
  else addF (wordP p) a.st a.pl
/-- how the places lie -/
inductive Pl : Nat → List (List Nat) → Prop
  | text : Pl 1 [textC]
  | body {n : Nat} {pl : List (List Nat)} (h : Pl n pl) : Pl (n + 1) (bodyC :: pl)
  | yes {n : Nat} {pl : List (List Nat)} (h : Pl n pl) : Pl (n + 1) (yesC :: pl)
  | no {n : Nat} {pl : List (List Nat)} (h : Pl n pl) : Pl (n + 2) (noC :: yesC :: pl)
structure WF (a : Rst) : Prop where
  pl : Pl a.st.length a.pl
  nm : a.nm = [] ∨ a.nm = nmC 7 ∨ a.nm = nmC 8
theorem Pl.pos {n : Nat} {pl : List (List Nat)} (h : Pl n pl) : 1 ≤ n := by cases h <;> omega
theorem WF.start : WF ⟨[[]], [textC], []⟩ := ⟨.text, .inl rfl⟩
theorem stp_stpF {a b : Rst} {p : List Nat} (h : Stp a p b) : stpF a p = some b := by
  obtain ⟨n1, n2, n3, n4, n5, n6, n7, n8, n9, n10, n11, n12, n13, n14, n15, n16, n17, n18⟩ := marks_ne
  cases h with
  | openF => unfold stpF; rw [if_pos rfl, if_pos rfl]
  | openW => unfold stpF; rw [if_pos rfl, if_neg (fun z => n1 z.symm), if_pos rfl]
  | name hk =>
    unfold stpF
    rcases hk with rfl | rfl
    · rw [if_neg n2, if_neg (fun z => z rfl), if_pos (.inl rfl)]
    · rw [if_neg n5, if_neg (fun z => z rfl), if_pos (.inr rfl)]
  | bar =>
    unfold stpF
    rw [if_neg (Ne.symm n8), if_neg (fun z => z rfl), if_neg (by rintro (z | z); exact n3 z.symm; exact n6 z.symm), if_pos rfl]
    exact if_pos rfl
  | shutW =>
    unfold stpF
    rw [if_neg (Ne.symm n9), if_neg (fun z => z rfl), if_neg (by rintro (z | z); exact n4 z.symm; exact n7 z.symm), if_neg (Ne.symm n10), if_pos rfl]
    unfold shutR
    dsimp only
    rw [if_pos rfl]
  | shutF =>
    unfold stpF
    rw [if_neg (Ne.symm n9), if_neg (fun z => z rfl), if_neg (by rintro (z | z); exact n4 z.symm; exact n7 z.symm), if_neg (Ne.symm n10), if_pos rfl]
    unfold shutR
    dsimp only
    rw [if_neg n16, if_pos rfl]
    rfl
  | word ho =>
    obtain ⟨m1, m2, m3, m4, m5⟩ := one_ne ho
    unfold stpF
    rw [if_neg m1, if_neg (fun z => z rfl), if_neg (by rintro (z | z); exact m2 z; exact m3 z), if_neg m4, if_neg m5, one_wordP ho]
    rfl
theorem stpF_stp {a b : Rst} {p : List Nat} (w : WF a) (h : stpF a p = some b) : Stp a p b := by
  obtain ⟨st, pl, nm⟩ := a
  obtain ⟨w1, w2⟩ := w
  dsimp only at w1 w2
  unfold stpF at h
  dsimp only at h
  by_cases c1 : p = [91]
  · subst c1
    rw [if_pos rfl] at h
    by_cases d1 : nm = nmC 7
    · subst d1; rw [if_pos rfl] at h; cases h; exact .openF
    · rw [if_neg d1] at h
      by_cases d2 : nm = nmC 8
      · subst d2; rw [if_pos rfl] at h; cases h; exact .openW
      · rw [if_neg d2] at h; cases h
  rw [if_neg c1] at h
  by_cases c2 : nm ≠ []
  · rw [if_pos c2] at h; cases h
  rw [if_neg c2] at h
  have c2 : nm = [] := Decidable.not_not.mp c2
  subst c2
  by_cases c3 : p = nmC 7 ∨ p = nmC 8
  · rw [if_pos c3] at h
    cases h
    rcases c3 with rfl | rfl
    · exact .name (.inl rfl)
    · exact .name (.inr rfl)
  rw [if_neg c3] at h
  by_cases c4 : p = [124]
  · subst c4
    rw [if_pos rfl] at h
    by_cases d : pl.head? = some yesC
    · rw [if_pos d] at h
      cases h
      cases pl with
      | nil => cases d
      | cons c pl => cases d; exact .bar
    · rw [if_neg d] at h; cases h
  rw [if_neg c4] at h
  by_cases c5 : p = [93]
  · subst c5
    rw [if_pos rfl] at h
    unfold shutR at h
    cases pl with
    | nil => cases h
    | cons c pl =>
      match st with
      | [] => cases h
      | [_] => cases h
      | r :: s :: st =>
        dsimp only at h
        by_cases d1 : c = bodyC
        · subst d1; rw [if_pos rfl] at h; cases h; exact .shutW
        rw [if_neg d1] at h
        by_cases d2 : c = noC
        · subst d2
          rw [if_pos rfl] at h
          cases st with
          | nil => cases h
          | cons u st =>
            dsimp only at h
            cases h
            have : ∃ pl', pl = yesC :: pl' := by
              generalize hn : (r :: s :: u :: st).length = n at w1
              generalize hpl : noC :: pl = q at w1
              cases w1 with
              | text => cases hpl
              | body h => exact absurd (List.cons.inj hpl).1 (by decide)
              | yes h => exact absurd (List.cons.inj hpl).1 (by decide)
              | @no _ pl' h => exact ⟨pl', (List.cons.inj hpl).2⟩
            obtain ⟨pl', rfl⟩ := this
            exact .shutF
        · rw [if_neg d2] at h; cases h
  rw [if_neg c5] at h
  unfold addF at h
  cases hw : wordP p with
  | none => rw [hw] at h; cases h
  | some w =>
    rw [hw] at h
    cases st with
    | nil => cases h
    | cons s st => cases h; exact .word (wordP_one hw)
theorem WF.step {a b : Rst} {p : List Nat} (w : WF a) (h : Stp a p b) : WF b := by
  obtain ⟨w1, w2⟩ := w
  cases h with
  | openF => exact ⟨.yes w1, .inl rfl⟩
  | openW => exact ⟨.body w1, .inl rfl⟩
  | name hk => exact ⟨w1, .inr (by rcases hk with rfl | rfl; exact .inl rfl; exact .inr rfl)⟩
  | @bar st pl =>
    refine ⟨?_, .inl rfl⟩
    have w1 : Pl st.length (yesC :: pl) := w1
    show Pl (st.length + 1) (noC :: yesC :: pl)
    generalize hq : yesC :: pl = q at w1
    generalize hn : st.length = n at w1
    cases w1 with
    | text => exact absurd (List.cons.inj hq).1 (by decide)
    | body h => exact absurd (List.cons.inj hq).1 (by decide)
    | @yes m pl' h => exact .no h
    | no h => exact absurd (List.cons.inj hq).1 (by decide)
  | @shutW r s st pl =>
    refine ⟨?_, .inl rfl⟩
    have w1 : Pl (st.length + 1 + 1) (bodyC :: pl) := w1
    show Pl (st.length + 1) pl
    generalize hq : bodyC :: pl = q at w1
    generalize hn : st.length + 1 + 1 = n at w1
    cases w1 with
    | text => exact absurd (List.cons.inj hq).1 (by decide)
    | @body m pl' h => rw [(List.cons.inj hq).2, show st.length + 1 = m by omega]; exact h
    | yes h => exact absurd (List.cons.inj hq).1 (by decide)
    | no h => exact absurd (List.cons.inj hq).1 (by decide)
  | @shutF n y s st pl =>
    refine ⟨?_, .inl rfl⟩
    have w1 : Pl (st.length + 1 + 1 + 1) (noC :: yesC :: pl) := w1
    show Pl (st.length + 1) pl
    generalize hq : noC :: yesC :: pl = q at w1
    generalize hn : st.length + 1 + 1 + 1 = n at w1
    cases w1 with
    | text => exact absurd (List.cons.inj hq).1 (by decide)
    | body h => exact absurd (List.cons.inj hq).1 (by decide)
    | yes h => exact absurd (List.cons.inj hq).1 (by decide)
    | @no m pl' h => rw [(List.cons.inj (List.cons.inj hq).2).2, show st.length + 1 = m by omega]; exact h
  | @word w p s st pl ho => exact ⟨w1, .inl rfl⟩
/-! ### a whole row -/
def stF : Rst → List (List Nat) → Option Rst
  | a, [] => some a
  | a, p :: ps => (stpF a p).bind fun b => stF b ps
def endF : Option Rst → Option (List T)
  | some ⟨[r], _, []⟩ => some r
  | _ => none
def readF (ps : List (List Nat)) : Option (List T) := endF (stF ⟨[[]], [textC], []⟩ ps)
theorem stF_app : ∀ (ps qs : List (List Nat)) (a : Rst), stF a (ps ++ qs) = (stF a ps).bind fun b => stF b qs
  | [], qs, a => rfl
  | p :: ps, qs, a => by
    rw [List.cons_append, stF, stF]
    cases stpF a p with
    | none => rfl
    | some b => rw [Option.bind_some, Option.bind_some]; exact stF_app ps qs b
theorem stF_of {a b : Rst} {ps : List (List Nat)} (h : Stps a ps b) : stF a ps = some b := by
  induction h with
  | nil => rfl
  | cons h _ ih => rw [stF, stp_stpF h, Option.bind_some]; exact ih
theorem stF_stps : ∀ {ps : List (List Nat)} {a b : Rst}, WF a → stF a ps = some b → Stps a ps b ∧ WF b
  | [], a, b, w, h => by cases h; exact ⟨.nil, w⟩
  | p :: ps, a, b, w, h => by
    rw [stF] at h
    cases hs : stpF a p with
    | none => rw [hs] at h; cases h
    | some c =>
      rw [hs, Option.bind_some] at h
      have h1 := stpF_stp w hs
      obtain ⟨g1, g2⟩ := stF_stps (w.step h1) h
      exact ⟨.cons h1 g1, g2⟩
theorem readF_stps {ps : List (List Nat)} {r : List T} (h : readF ps = some r) : Stps ⟨[[]], [textC], []⟩ ps ⟨[r], [textC], []⟩ := by
  unfold readF at h
  cases hs : stF ⟨[[]], [textC], []⟩ ps with
  | none => rw [hs] at h; cases h
  | some b =>
    rw [hs] at h
    obtain ⟨g1, g2⟩ := stF_stps WF.start hs
    obtain ⟨st, pl, nm⟩ := b
    cases st with
    | nil => cases h
    | cons r' st =>
      cases st with
      | cons _ _ => cases h
      | nil =>
        cases nm with
        | cons _ _ => cases h
        | nil =>
          have h : some r' = some r := h
          cases h
          have hp : pl = [textC] := by
            have w1 : Pl 1 pl := g2.pl
            generalize hn : (1 : Nat) = n at w1
            cases w1 with
            | text => rfl
            | body z => have := z.pos; omega
            | yes z => have := z.pos; omega
            | no z => omega
          rw [hp] at g1
          exact g1
theorem readF_good {ps : List (List Nat)} {r : List T} (h : readF ps = some r) : Good5 ps := good5 (readF_stps h)
theorem readF_ts {ws : List T} {ps : List (List Nat)} (h : Ts ws ps) : readF ps = some ws := by
  unfold readF
  have := stF_of (ts_stps h [] [] [textC])
  rw [List.nil_append] at this
  rw [this]
  rfl
/-- a piece that no step takes -/
theorem readF_bad {p : List Nat} (h : ∀ a, stpF a p = none) (ps qs : List (List Nat)) : readF (ps ++ p :: qs) = none := by
  unfold readF
  rw [stF_app]
  cases stF ⟨[[]], [textC], []⟩ ps with
  | none => rfl
  | some b => rw [Option.bind_some, stF, h b]; rfl
end Sw

/-! ## how large what is read gets, for any row -/
namespace Sw
theorem flat_mem : ∀ {st : List (List T)} {r : List T}, r ∈ st → T.partsL r ≤ T.partsL st.flatten
  | [], _, h => by cases h
  | s :: st, r, h => by
    rw [List.flatten_cons, T.partsL_append]
    rcases List.mem_cons.mp h with rfl | h
    · omega
    · have := flat_mem h; omega
/-- no tree within a piece is deeper than 100 -/
def FlatP (p : List Nat) : Prop := ∀ c l t, p = c :: l → treeP l = some t → t.deep ≤ 100
structure SzI (a : Rst) (n d u : Nat) : Prop where
  st : a.st.length ≤ n
  pl : a.pl.length ≤ n
  dep : ∀ r ∈ a.st, T.deepL r ≤ d
  sum : T.partsL a.st.flatten ≤ u
theorem SzI.sz {a : Rst} {n d u : Nat} (h : SzI a n d u) (hn : n ≤ 100000) (hd : d ≤ 400) (hu : u < 100000) : Sz a :=
  ⟨Nat.le_trans h.st hn, Nat.le_trans h.pl hn, fun r hr => ⟨by rw [T.deep_node]; exact Nat.le_trans (h.dep r hr) hd, by rw [T.parts_node]; have := flat_mem hr; have := h.sum; omega⟩⟩
theorem SzI.start : SzI ⟨[[]], [textC], []⟩ 1 110 0 := ⟨Nat.le_refl _, Nat.le_refl _, fun r hr => by rw [List.mem_singleton.mp hr, T.deepL_nil]; omega, by show T.partsL [] ≤ 0; rw [T.partsL_nil]; omega⟩
theorem one_small {w : T} {p : List Nat} (h : One w p) (hf : FlatP p) : w.deep ≤ 100 ∧ w.parts ≤ p.length + 12 := by
  cases h with
  | odd ho =>
    have h1 := hf 33 w.wr w rfl (treeP_wr w)
    have h2 := T.wr_len w
    exact ⟨h1, by rw [List.length_cons]; omega⟩
  | lay ho hs =>
    have h1 := hf 39 (loadT w).wr (loadT w) rfl (treeP_wr _)
    have h2 := T.wr_len (loadT w)
    have e := lay_of ho hs
    have e1 : w.deep = max 1 (loadT w).deep := by
      have z := congrArg T.deep e
      rw [z]
      unfold wordT leavesT
      rw [T.deep_node, T.deepL_cons, List.replicate_zero, T.deep_node, T.deepL_nil, deep_eq (loadT w)]
    have e2 : w.parts = 1 + (loadT w).parts := by
      have z := congrArg T.parts e
      rw [z]
      unfold wordT leavesT
      rw [T.parts_node, T.partsL_cons, List.replicate_zero, T.parts_node, T.partsL_nil, T.parts_kids (loadT w)]
    exact ⟨by omega, by rw [List.length_cons]; omega⟩
  | plain ho h1 h6 =>
    have e := plain_of ho h1 h6
    generalize sortT w = k at *
    subst e
    have hk : k = 1 ∨ k = 2 ∨ k = 3 ∨ k = 4 ∨ k = 5 ∨ k = 6 := by omega
    have d : (wordT k []).deep ≤ 2 ∧ (wordT k []).parts ≤ 8 := by rcases hk with rfl | rfl | rfl | rfl | rfl | rfl <;> decide
    exact ⟨by omega, by omega⟩
theorem loop_small (r : List T) : (loopW r).deep = max 2 (T.deepL r) ∧ (loopW r).parts = 10 + T.partsL r := by
  have e1 : (leavesT 8).deep = 1 := by decide
  have e2 : (leavesT 8).parts = 9 := by decide
  unfold loopW
  rw [T.deep_node, T.deepL_cons, T.parts_node, T.partsL_cons, e1, e2]
  omega
theorem fork_small (y n : List T) : (forkW y n).deep = max 2 (max (T.deepL y + 1) (T.deepL n)) ∧ (forkW y n).parts = 10 + T.partsL y + T.partsL n := by
  have e1 : (leavesT 7).deep = 1 := by decide
  have e2 : (leavesT 7).parts = 8 := by decide
  unfold forkW
  rw [T.deep_node, T.deepL_cons, T.deepL_cons, T.deep_node, T.parts_node, T.partsL_cons, T.partsL_cons, T.parts_node, e1, e2]
  omega
theorem SzI.step {a b : Rst} {p : List Nat} {n d u : Nat} (h : SzI a n d u) (hd : 110 ≤ d) (g : Stp a p b) (hf : FlatP p) : SzI b (n + 1) (d + 2 * isN [93] p) (u + (p.length + 12)) := by
  obtain ⟨h1, h2, h3, h4⟩ := h
  have e93 : isN [93] [93] = 1 := by decide
  cases g with
  | @openF st pl => exact ⟨by show st.length + 1 ≤ _; have h1 : st.length ≤ n := h1; omega, by show pl.length + 1 ≤ _; have h2 : pl.length ≤ n := h2; omega, fun r hr => by
      rcases List.mem_cons.mp hr with rfl | hr
      · rw [T.deepL_nil]; omega
      · have := h3 r hr; omega, by show T.partsL ([] :: st).flatten ≤ _; rw [List.flatten_cons, List.nil_append]; have h4 : T.partsL st.flatten ≤ u := h4; omega⟩
  | @openW st pl => exact ⟨by show st.length + 1 ≤ _; have h1 : st.length ≤ n := h1; omega, by show pl.length + 1 ≤ _; have h2 : pl.length ≤ n := h2; omega, fun r hr => by
      rcases List.mem_cons.mp hr with rfl | hr
      · rw [T.deepL_nil]; omega
      · have := h3 r hr; omega, by show T.partsL ([] :: st).flatten ≤ _; rw [List.flatten_cons, List.nil_append]; have h4 : T.partsL st.flatten ≤ u := h4; omega⟩
  | @name st pl k hk => exact ⟨by show st.length ≤ _; have h1 : st.length ≤ n := h1; omega, by show pl.length ≤ _; have h2 : pl.length ≤ n := h2; omega, fun r hr => by have := h3 r hr; omega, by show T.partsL st.flatten ≤ _; have h4 : T.partsL st.flatten ≤ u := h4; omega⟩
  | @bar st pl => exact ⟨by show st.length + 1 ≤ _; have h1 : st.length ≤ n := h1; omega, by show pl.length + 1 + 1 ≤ _; have h2 : pl.length + 1 ≤ n := h2; omega, fun r hr => by
      rcases List.mem_cons.mp hr with rfl | hr
      · rw [T.deepL_nil]; omega
      · have := h3 r hr; omega, by show T.partsL ([] :: st).flatten ≤ _; rw [List.flatten_cons, List.nil_append]; have h4 : T.partsL st.flatten ≤ u := h4; omega⟩
  | @shutW r s st pl =>
    obtain ⟨l1, l2⟩ := loop_small r
    have d1 := h3 r List.mem_cons_self
    have d2 := h3 s (List.mem_cons_of_mem _ List.mem_cons_self)
    have h4 : T.partsL (r :: s :: st).flatten ≤ u := h4
    rw [List.flatten_cons, List.flatten_cons, T.partsL_append, T.partsL_append] at h4
    refine ⟨by show st.length + 1 ≤ _; have h1 : st.length + 1 + 1 ≤ n := h1; omega, by show pl.length ≤ _; have h2 : pl.length + 1 ≤ n := h2; omega, fun z hz => ?_, ?_⟩
    · rcases List.mem_cons.mp hz with rfl | hz
      · rw [T.deepL_append, T.deepL_cons, T.deepL_nil]; omega
      · have := h3 z (List.mem_cons_of_mem _ (List.mem_cons_of_mem _ hz)); omega
    · show T.partsL ((s ++ [loopW r]) :: st).flatten ≤ _
      rw [List.flatten_cons, T.partsL_append, T.partsL_append, T.partsL_cons, T.partsL_nil]
      omega
  | @shutF n' y s st pl =>
    obtain ⟨l1, l2⟩ := fork_small y n'
    have d1 := h3 n' List.mem_cons_self
    have d2 := h3 y (List.mem_cons_of_mem _ List.mem_cons_self)
    have d3 := h3 s (List.mem_cons_of_mem _ (List.mem_cons_of_mem _ List.mem_cons_self))
    have h4 : T.partsL (n' :: y :: s :: st).flatten ≤ u := h4
    rw [List.flatten_cons, List.flatten_cons, List.flatten_cons, T.partsL_append, T.partsL_append, T.partsL_append] at h4
    refine ⟨by show st.length + 1 ≤ _; have h1 : st.length + 1 + 1 + 1 ≤ n := h1; omega, by show pl.length ≤ _; have h2 : pl.length + 1 + 1 ≤ n := h2; omega, fun z hz => ?_, ?_⟩
    · rcases List.mem_cons.mp hz with rfl | hz
      · rw [T.deepL_append, T.deepL_cons, T.deepL_nil]; omega
      · have := h3 z (List.mem_cons_of_mem _ (List.mem_cons_of_mem _ (List.mem_cons_of_mem _ hz))); omega
    · show T.partsL ((s ++ [forkW y n']) :: st).flatten ≤ _
      rw [List.flatten_cons, T.partsL_append, T.partsL_append, T.partsL_cons, T.partsL_nil]
      omega
  | @word w p s st pl ho =>
    obtain ⟨w1, w2⟩ := one_small ho hf
    have d2 := h3 s List.mem_cons_self
    have h4 : T.partsL (s :: st).flatten ≤ u := h4
    rw [List.flatten_cons, T.partsL_append] at h4
    refine ⟨by show st.length + 1 ≤ _; have h1 : st.length + 1 ≤ n := h1; omega, by show pl.length ≤ _; have h2 : pl.length ≤ n := h2; omega, fun z hz => ?_, ?_⟩
    · rcases List.mem_cons.mp hz with rfl | hz
      · rw [T.deepL_append, T.deepL_cons, T.deepL_nil]; omega
      · have := h3 z (List.mem_cons_of_mem _ hz); omega
    · show T.partsL ((s ++ [w]) :: st).flatten ≤ _
      rw [List.flatten_cons, T.partsL_append, T.partsL_append, T.partsL_cons, T.partsL_nil]
      omega
/-- what a row's pieces come to -/
def lenP : List (List Nat) → Nat
  | [] => 0
  | p :: ps => p.length + 12 + lenP ps
theorem lenP_app : ∀ a b : List (List Nat), lenP (a ++ b) = lenP a + lenP b
  | [], b => by rw [List.nil_append, lenP]; omega
  | p :: a, b => by rw [List.cons_append, lenP, lenP, lenP_app a b]; omega
theorem lenP_len : ∀ ps : List (List Nat), ps.length ≤ lenP ps
  | [] => Nat.zero_le _
  | p :: ps => by have := lenP_len ps; rw [List.length_cons, lenP]; omega
end Sw

/-! ## k24: how many pieces a drawn text's writing has, and how deep the trees within them are -/
namespace Sw
theorem one_wr {w : T} {p : List Nat} (h : One w p) : Wr w [p] := by
  cases h with
  | odd h => exact .odd h
  | lay h hs => exact .lay h hs
  | plain h h1 h6 => exact .plain h h1 h6
theorem flat_no {p : List Nat} (h : treeP p.tail = none) : FlatP p := fun c l t e ht => by
  subst e
  rw [show (c :: l).tail = l from rfl, ht] at h
  cases h
theorem flat_marks : FlatP (nmC 7) ∧ FlatP (nmC 8) ∧ FlatP [91] ∧ FlatP [124] ∧ FlatP [93] ∧ FlatP [] := by
  refine ⟨flat_no (by decide +kernel), flat_no (by decide +kernel), flat_no (by decide +kernel), flat_no (by decide +kernel), flat_no (by decide +kernel), flat_no (by decide +kernel)⟩
theorem flat_one {w : T} {p : List Nat} (h : One w p) (hb : B 30 200 w) : FlatP p ∧ p.length ≤ 401 := by
  obtain ⟨h1, h2⟩ := hb
  cases h with
  | odd h =>
    refine ⟨fun c l t e ht => ?_, by rw [List.length_cons, T.wr_len]; omega⟩
    cases e
    rw [treeP_wr] at ht
    cases ht
    omega
  | lay h hs =>
    have hd := load_deep w
    have hp : (loadT w).parts ≤ w.parts := by have := load_lt w; have := T.parts_kids (loadT w); omega
    refine ⟨fun c l t e ht => ?_, by rw [List.length_cons, T.wr_len]; omega⟩
    cases e
    rw [treeP_wr] at ht
    cases ht
    omega
  | plain h h3 h6 =>
    generalize sortT w = k at *
    have hk : k = 1 ∨ k = 2 ∨ k = 3 ∨ k = 4 ∨ k = 5 ∨ k = 6 := by omega
    refine ⟨?_, by have := nm_len k; omega⟩
    rcases hk with rfl | rfl | rfl | rfl | rfl | rfl <;> exact flat_no (by decide +kernel)
theorem ts_app : ∀ {as bs : List T} {ps qs : List (List Nat)}, Ts as ps → Ts bs qs → Ts (as ++ bs) (ps ++ qs)
  | _, _, _, _, .nil, g => g
  | _, _, _, _, .cons h g', g => by rw [List.cons_append, List.append_assoc]; exact .cons h (ts_app g' g)
theorem ts_split : ∀ {as bs : List T} {ps : List (List Nat)}, Ts (as ++ bs) ps → ∃ pa pb, ps = pa ++ pb ∧ Ts as pa ∧ Ts bs pb
  | [], bs, ps, h => ⟨[], ps, rfl, .nil, h⟩
  | a :: as, bs, ps, h => by
    cases h with
    | cons h1 h2 =>
      obtain ⟨pa, pb, e, g1, g2⟩ := ts_split h2
      exact ⟨_ ++ pa, pb, by rw [e, List.append_assoc], .cons h1 g1, g2⟩
/-- a row of drawn words so far: n cells at most -/
def Dn (ws : List T) (n : Nat) : Prop := ∃ ps, Ts ws ps ∧ (∀ p ∈ ps, FlatP p) ∧ nP [93] ps ≤ n ∧ lenP ps ≤ 420 * n
/-- a word made of drawn words -/
def Br (ws : List T) (t : T) : Prop := ∀ ps, Ts ws ps → ∃ qs, Wr t qs ∧ nP [93] qs = nP [93] ps + 1 ∧ lenP qs ≤ lenP ps + 60 ∧ ∀ p ∈ qs, p ∈ ps ∨ FlatP p
theorem Dn.nil : Dn [] 0 := ⟨[], .nil, (fun p hp => by cases hp), Nat.le_refl _, Nat.le_refl _⟩
theorem Dn.one {ws : List T} {n : Nat} {w : T} {p : List Nat} (h : Dn ws n) (ho : One w p) (hb : B 30 200 w) : Dn (ws ++ [w]) (n + 1) := by
  obtain ⟨ps, h1, h2, h3, h4⟩ := h
  obtain ⟨f1, f2⟩ := flat_one ho hb
  obtain ⟨_, _, _, _, n5⟩ := one_ne ho
  refine ⟨ps ++ [p], ts_app h1 (ts_one (one_wr ho)), fun q hq => ?_, ?_, ?_⟩
  · rcases List.mem_append.mp hq with z | z
    · exact h2 q z
    · rw [List.mem_singleton.mp z]; exact f1
  · rw [nP_app, nP, nP, if_neg n5]; omega
  · rw [lenP_app, lenP, lenP]; omega
theorem Dn.br {as bs : List T} {n : Nat} {t : T} (h : Dn (as ++ bs) n) (g : Br bs t) : Dn (as ++ [t]) (n + 1) := by
  obtain ⟨ps, h1, h2, h3, h4⟩ := h
  obtain ⟨pa, pb, rfl, g1, g2⟩ := ts_split h1
  obtain ⟨qs, k1, k2, k3, k4⟩ := g pb g2
  rw [nP_app] at h3
  rw [lenP_app] at h4
  refine ⟨pa ++ qs, ts_app g1 (ts_one k1), fun q hq => ?_, ?_, ?_⟩
  · rcases List.mem_append.mp hq with z | z
    · exact h2 q (List.mem_append.mpr (.inl z))
    · rcases k4 q z with y | y
      · exact h2 q (List.mem_append.mpr (.inr y))
      · exact y
  · rw [nP_app]; omega
  · rw [lenP_app]; omega
theorem br_loop {ws : List T} : Br ws (loopW ws) := fun ps h => by
  obtain ⟨f7, f8, f1, f2, f3, _⟩ := flat_marks
  refine ⟨[nmC 8, [91]] ++ ps ++ [[93]], wr_loopW h, ?_, ?_, fun p hp => ?_⟩
  · rw [nP_app, nP_app]
    have e1 : nP [93] [nmC 8, [91]] = 0 := by decide
    have e2 : nP [93] [[93]] = 1 := by decide
    omega
  · rw [lenP_app, lenP_app]
    have e1 : lenP [nmC 8, [91]] = 30 := by decide
    have e2 : lenP [[93]] = 13 := by decide
    omega
  · rcases List.mem_append.mp hp with z | z
    · rcases List.mem_append.mp z with z | z
      · right
        rcases List.mem_cons.mp z with rfl | z
        · exact f8
        · rw [List.mem_singleton.mp z]; exact f1
      · exact .inl z
    · rw [List.mem_singleton.mp z]; exact .inr f3
theorem br_fork {ws : List T} (k : Nat) : Br ws (forkW (ws.take k) (ws.drop k)) := fun ps h => by
  obtain ⟨f7, f8, f1, f2, f3, _⟩ := flat_marks
  rw [← List.take_append_drop k ws] at h
  obtain ⟨pa, pb, rfl, g1, g2⟩ := ts_split h
  refine ⟨[nmC 7, [91]] ++ pa ++ [[124]] ++ pb ++ [[93]], wr_forkW g1 g2, ?_, ?_, fun p hp => ?_⟩
  · rw [nP_app, nP_app, nP_app, nP_app, nP_app]
    have e1 : nP [93] [nmC 7, [91]] = 0 := by decide
    have e2 : nP [93] [[93]] = 1 := by decide
    have e3 : nP [93] [[124]] = 0 := by decide
    omega
  · rw [lenP_app, lenP_app, lenP_app, lenP_app, lenP_app]
    have e1 : lenP [nmC 7, [91]] = 29 := by decide
    have e2 : lenP [[93]] = 13 := by decide
    have e3 : lenP [[124]] = 13 := by decide
    omega
  · rcases List.mem_append.mp hp with z | z
    · rcases List.mem_append.mp z with z | z
      · rcases List.mem_append.mp z with z | z
        · rcases List.mem_append.mp z with z | z
          · right
            rcases List.mem_cons.mp z with rfl | z
            · exact f7
            · rw [List.mem_singleton.mp z]; exact f1
          · exact .inl (List.mem_append.mpr (.inl z))
        · rw [List.mem_singleton.mp z]; exact .inr f2
      · exact .inl (List.mem_append.mpr (.inr z))
    · rw [List.mem_singleton.mp z]; exact .inr f3
/-- a small word is written by one piece -/
theorem small_one {w : T} {ps : List (List Nat)} (h : Wr w ps) (hp : w.parts ≤ 9) : ∃ p, One w p := by
  cases h with
  | odd h => exact ⟨_, .odd h⟩
  | lay h hs => exact ⟨_, .lay h hs⟩
  | plain h h1 h6 => exact ⟨_, .plain h h1 h6⟩
  | fork h hs hy hn =>
    have e := fork_of h hs
    have := (fork_small (ats (loadT w).kids 0).kids (loadT (loadT w)).kids).2
    rw [← e] at this
    omega
  | loop h hs hb =>
    have e := loop_of h hs
    have := (loop_small (loadT w).kids).2
    rw [← e] at this
    omega
mutual
theorem wr_fun : ∀ {w : T} {ps : List (List Nat)}, Wr w ps → ∀ {qs : List (List Nat)}, Wr w qs → ps = qs
  | _, _, .odd h, _, g => by
    cases g with
    | odd _ => rfl
    | lay z _ => rw [h] at z; cases z
    | plain z _ _ => rw [h] at z; cases z
    | fork z _ _ _ => rw [h] at z; cases z
    | loop z _ _ => rw [h] at z; cases z
  | _, _, .lay h hs, _, g => by
    cases g with
    | odd z => rw [h] at z; cases z
    | lay _ _ => rfl
    | plain _ z1 _ => omega
    | fork _ z _ _ => omega
    | loop _ z _ => omega
  | _, _, .plain h h1 h6, _, g => by
    cases g with
    | odd z => rw [h] at z; cases z
    | lay _ z => omega
    | plain _ _ _ => rfl
    | fork _ z _ _ => omega
    | loop _ z _ => omega
  | _, _, .fork h hs hy hn, _, g => by
    cases g with
    | odd z => rw [h] at z; cases z
    | lay _ z => omega
    | plain _ _ z => omega
    | fork _ _ gy gn => rw [ts_fun hy gy, ts_fun hn gn]
    | loop _ z _ => omega
  | _, _, .loop h hs hb, _, g => by
    cases g with
    | odd z => rw [h] at z; cases z
    | lay _ z => omega
    | plain _ _ z => omega
    | fork _ z _ _ => omega
    | loop _ _ gb => rw [ts_fun hb gb]
theorem ts_fun : ∀ {ws : List T} {ps : List (List Nat)}, Ts ws ps → ∀ {qs : List (List Nat)}, Ts ws qs → ps = qs
  | _, _, .nil, _, g => by cases g; rfl
  | _, _, .cons h h', _, g => by
    cases g with
    | cons g1 g2 => rw [wr_fun h g1, ts_fun h' g2]
end
end Sw
namespace Sw
theorem Dn.mono {ws : List T} {n m : Nat} (h : Dn ws n) (hm : n ≤ m) : Dn ws m := by
  obtain ⟨ps, h1, h2, h3, h4⟩ := h
  exact ⟨ps, h1, h2, by omega, by omega⟩
theorem lay_one (t : T) : One (wordT 0 t.kids) (39 :: t.wr) := wordP_one (by rw [wordP_lay, treeP_wr]; rfl)
end Sw

/-! ## k24: spoilt rows are refused -/
namespace Sw
/-- a piece that is refused wherever it stands -/
def BadP (p : List Nat) : Prop := 32 ∉ p ∧ FlatP p ∧ p.length ≤ 1000 ∧ p ≠ [93] ∧ ∀ a, stpF a p = none
theorem stpF_no {p : List Nat} (c1 : p ≠ [91]) (c7 : p ≠ nmC 7) (c8 : p ≠ nmC 8) (c4 : p ≠ [124]) (c5 : p ≠ [93]) (hw : wordP p = none) (a : Rst) : stpF a p = none := by
  unfold stpF
  rw [if_neg c1]
  by_cases c2 : a.nm ≠ []
  · rw [if_pos c2]
  · rw [if_neg c2, if_neg (fun z => z.elim c7 c8), if_neg c4, if_neg c5, hw]
    rfl
theorem badP_nil : BadP [] := ⟨by simp, flat_marks.2.2.2.2.2, by decide, by decide, stpF_no (by decide) (by decide) (by decide) (by decide) (by decide) (by decide +kernel)⟩
theorem badP_of {p : List Nat} (h : (decide (32 ∉ p) && decide (treeP p.tail = none ∨ p.length ≤ 12) && decide (p.length ≤ 12) && decide (p ≠ [91]) && decide (p ≠ nmC 7) && decide (p ≠ nmC 8) && decide (p ≠ [124]) && decide (p ≠ [93]) && (wordP p).isNone) = true) : BadP p := by
  simp only [Bool.and_eq_true, decide_eq_true_eq, Option.isNone_iff_eq_none] at h
  obtain ⟨⟨⟨⟨⟨⟨⟨⟨h1, _⟩, h3⟩, h4⟩, h5⟩, h6⟩, h7⟩, h8⟩, h9⟩ := h
  refine ⟨h1, fun c l t e ht => ?_, by omega, h8, stpF_no h4 h5 h6 h7 h8 h9⟩
  have e1 := T.rd_wr_eq (treeP_rd ht)
  have e2 := T.wr_len t
  have e3 := T.deep_lt t
  rw [e1] at e2
  subst e
  rw [List.length_cons] at h3
  omega
/-- a word's tree behind the bang that is written otherwise -/
theorem badP_bang {t : T} (ho : oddT t = false) (hd : t.deep ≤ 100) (hp : t.parts ≤ 400) : BadP (33 :: t.wr) := by
  refine ⟨?_, fun c l u e hu => ?_, by rw [List.length_cons, T.wr_len]; omega, (fun z => by have := (List.cons.inj z).1; omega), stpF_no (by simp) (by unfold nmC; simp) (by unfold nmC; simp) (by simp) (by simp) ?_⟩
  · intro z
    rcases List.mem_cons.mp z with z | z
    · cases z
    · exact wr_no t z
  · cases e
    rw [treeP_wr] at hu
    cases hu
    exact hd
  · rw [wordP_bang, treeP_wr, Option.bind_some, if_neg (by rw [ho]; decide)]
def IsMk (m : List Nat) : Prop := m = nmC 7 ∨ m = nmC 8 ∨ m = [91] ∨ m = [124] ∨ m = [93]
theorem nP_mid (c m : List Nat) (a b : List (List Nat)) : nP c (a ++ m :: b) = nP c (a ++ b) + isN c m := by
  rw [nP_app, nP_app, nP]
  unfold isN
  omega
theorem mk_counts {m : List Nat} (h : IsMk m) {F Wh O S C : Nat} (g : F = S ∧ F + Wh = O ∧ O = C) : ¬ (F + isN (nmC 7) m = S + isN [124] m ∧ F + isN (nmC 7) m + (Wh + isN (nmC 8) m) = O + isN [91] m ∧ O + isN [91] m = C + isN [93] m) := by
  obtain ⟨g1, g2, g3⟩ := g
  have e1 : isN (nmC 7) (nmC 7) = 1 ∧ isN (nmC 8) (nmC 7) = 0 ∧ isN [91] (nmC 7) = 0 ∧ isN [124] (nmC 7) = 0 ∧ isN [93] (nmC 7) = 0 := by decide
  have e2 : isN (nmC 7) (nmC 8) = 0 ∧ isN (nmC 8) (nmC 8) = 1 ∧ isN [91] (nmC 8) = 0 ∧ isN [124] (nmC 8) = 0 ∧ isN [93] (nmC 8) = 0 := by decide
  have e3 : isN (nmC 7) [91] = 0 ∧ isN (nmC 8) [91] = 0 ∧ isN [91] [91] = 1 ∧ isN [124] [91] = 0 ∧ isN [93] [91] = 0 := by decide
  have e4 : isN (nmC 7) [124] = 0 ∧ isN (nmC 8) [124] = 0 ∧ isN [91] [124] = 0 ∧ isN [124] [124] = 1 ∧ isN [93] [124] = 0 := by decide
  have e5 : isN (nmC 7) [93] = 0 ∧ isN (nmC 8) [93] = 0 ∧ isN [91] [93] = 0 ∧ isN [124] [93] = 0 ∧ isN [93] [93] = 1 := by decide
  rcases h with rfl | rfl | rfl | rfl | rfl <;> omega
theorem ins_mark {a b : List (List Nat)} {m : List Nat} (h : Good5 (a ++ b)) (hm : IsMk m) : readF (a ++ m :: b) = none := by
  cases hr : readF (a ++ m :: b) with
  | none => rfl
  | some r =>
    have g := readF_good hr
    unfold Good5 at g
    rw [nP_mid, nP_mid, nP_mid, nP_mid, nP_mid] at g
    exact absurd g (mk_counts hm h)
theorem del_mark {a b : List (List Nat)} {m : List Nat} (h : Good5 (a ++ m :: b)) (hm : IsMk m) : readF (a ++ b) = none := by
  cases hr : readF (a ++ b) with
  | none => rfl
  | some r =>
    have g := readF_good hr
    unfold Good5 at h
    rw [nP_mid, nP_mid, nP_mid, nP_mid, nP_mid] at h
    exact absurd h (mk_counts hm g)
theorem swap_mark {a b : List (List Nat)} {m m' : List Nat} (h : Good5 (a ++ m :: b)) (hm : (m = nmC 7 ∧ m' = nmC 8) ∨ (m = nmC 8 ∧ m' = nmC 7)) : readF (a ++ m' :: b) = none := by
  cases hr : readF (a ++ m' :: b) with
  | none => rfl
  | some r =>
    have g := readF_good hr
    unfold Good5 at g h
    rw [nP_mid, nP_mid, nP_mid, nP_mid, nP_mid] at g h
    have e1 : isN (nmC 7) (nmC 7) = 1 ∧ isN [124] (nmC 7) = 0 ∧ isN (nmC 7) (nmC 8) = 0 ∧ isN [124] (nmC 8) = 0 := by decide
    rcases hm with ⟨rfl, rfl⟩ | ⟨rfl, rfl⟩ <;> omega
theorem ins_bad {a b : List (List Nat)} {p : List Nat} (h : BadP p) : readF (a ++ p :: b) = none := readF_bad h.2.2.2.2 a b
/-- a spoilt row -/
def Row24 (ps : List (List Nat)) : Prop := (∀ p ∈ ps, 32 ∉ p) ∧ (∀ p ∈ ps, FlatP p) ∧ lenP ps ≤ 90000 ∧ nP [93] ps ≤ 140 ∧ joinL [32] ps ≠ []
def Spoilt (qs : List (List Nat)) : Prop := Row24 qs ∧ readF qs = none
/-- a good one -/
structure GoodR (ps : List (List Nat)) : Prop where
  g5 : Good5 ps
  ne : ps ≠ []
  ok : ∀ p ∈ ps, okP p
  flat : ∀ p ∈ ps, FlatP p
  len : lenP ps ≤ 80000
  sh : nP [93] ps ≤ 130
theorem join_two {a b : List (List Nat)} {p : List Nat} (h : a ++ b ≠ []) : joinL [32] (a ++ p :: b) ≠ [] := by
  have key : ∀ l : List (List Nat), 2 ≤ l.length → joinL [32] l ≠ [] := by
    intro l hl
    match l, hl with
    | x :: y :: r, _ => show x ++ [32] ++ joinL [32] (y :: r) ≠ []; simp
  refine key _ ?_
  rw [List.length_append, List.length_cons]
  have : 1 ≤ (a ++ b).length := by
    cases e : a ++ b with
    | nil => exact absurd e h
    | cons _ _ => rw [List.length_cons]; omega
  rw [List.length_append] at this
  omega
theorem mem_mid {α : Type} {a b : List α} {m x : α} (h : x ∈ a ++ m :: b) : x = m ∨ x ∈ a ++ b := by
  rcases List.mem_append.mp h with z | z
  · exact .inr (List.mem_append.mpr (.inl z))
  · rcases List.mem_cons.mp z with z | z
    · exact .inl z
    · exact .inr (List.mem_append.mpr (.inr z))
theorem lenP_mid (a b : List (List Nat)) (m : List Nat) : lenP (a ++ m :: b) = lenP (a ++ b) + (m.length + 12) := by
  rw [lenP_app, lenP_app, lenP]; omega
theorem mk_small {m : List Nat} (h : IsMk m) : 32 ∉ m ∧ FlatP m ∧ m.length ≤ 5 := by
  obtain ⟨f7, f8, f1, f2, f3, _⟩ := flat_marks
  rcases h with rfl | rfl | rfl | rfl | rfl
  · exact ⟨by decide, f7, by decide⟩
  · exact ⟨by decide, f8, by decide⟩
  · exact ⟨by decide, f1, by decide⟩
  · exact ⟨by decide, f2, by decide⟩
  · exact ⟨by decide, f3, by decide⟩
theorem sp_ins {a b : List (List Nat)} {m : List Nat} (h : GoodR (a ++ b)) (hm : 32 ∉ m) (hf : FlatP m) (hl : m.length ≤ 1000) (hr : readF (a ++ m :: b) = none) : Spoilt (a ++ m :: b) := by
  have e : isN [93] m ≤ 1 := by unfold isN; split <;> omega
  refine ⟨⟨fun p hp => ?_, fun p hp => ?_, ?_, ?_, join_two h.ne⟩, hr⟩
  · rcases mem_mid hp with rfl | z
    · exact hm
    · exact (h.ok p z).2
  · rcases mem_mid hp with rfl | z
    · exact hf
    · exact h.flat p z
  · rw [lenP_mid]; have := h.len; omega
  · rw [nP_mid]; have := h.sh; omega
theorem spoilt_ins {a b : List (List Nat)} {m : List Nat} (h : GoodR (a ++ b)) (hm : IsMk m) : Spoilt (a ++ m :: b) := by
  obtain ⟨m1, m2, m3⟩ := mk_small hm
  exact sp_ins h m1 m2 (by omega) (ins_mark h.g5 hm)
theorem spoilt_bad {a b : List (List Nat)} {p : List Nat} (h : GoodR (a ++ b)) (hp : BadP p) : Spoilt (a ++ p :: b) := sp_ins h hp.1 hp.2.1 hp.2.2.1 (ins_bad hp)
theorem join_some {l : List (List Nat)} {p : List Nat} (hp : p ∈ l) (hn : p ≠ []) : joinL [32] l ≠ [] := by
  induction l with
  | nil => cases hp
  | cons x r ih =>
    cases r with
    | nil => rw [List.mem_singleton.mp hp] at hn; exact hn
    | cons y r => show x ++ [32] ++ joinL [32] (y :: r) ≠ []; simp
theorem spoilt_del {a b : List (List Nat)} {m : List Nat} (h : GoodR (a ++ m :: b)) (hm : IsMk m) : Spoilt (a ++ b) := by
  have sub : ∀ p ∈ a ++ b, p ∈ a ++ m :: b := fun p hp => by
    rcases List.mem_append.mp hp with z | z
    · exact List.mem_append.mpr (.inl z)
    · exact List.mem_append.mpr (.inr (List.mem_cons_of_mem _ z))
  refine ⟨⟨fun p hp => (h.ok p (sub p hp)).2, fun p hp => h.flat p (sub p hp), ?_, ?_, ?_⟩, del_mark h.g5 hm⟩
  · have := h.len; rw [lenP_mid] at this; omega
  · have := h.sh; rw [nP_mid] at this; omega
  · cases e : a ++ b with
    | nil =>
      exfalso
      have g := h.g5
      unfold Good5 at g
      rw [nP_mid, nP_mid, nP_mid, nP_mid, nP_mid, e] at g
      exact mk_counts hm ⟨rfl, rfl, rfl⟩ g
    | cons x r => exact join_some List.mem_cons_self (h.ok x (sub x (by rw [e]; exact List.mem_cons_self))).1
theorem spoilt_swap {a b : List (List Nat)} {m m' : List Nat} (h : GoodR (a ++ m :: b)) (hm : (m = nmC 7 ∧ m' = nmC 8) ∨ (m = nmC 8 ∧ m' = nmC 7)) : Spoilt (a ++ m' :: b) := by
  have sub : ∀ p ∈ a ++ b, p ∈ a ++ m :: b := fun p hp => by
    rcases List.mem_append.mp hp with z | z
    · exact List.mem_append.mpr (.inl z)
    · exact List.mem_append.mpr (.inr (List.mem_cons_of_mem _ z))
  have k : IsMk m' := by rcases hm with ⟨_, rfl⟩ | ⟨_, rfl⟩; exact .inr (.inl rfl); exact .inl rfl
  obtain ⟨m1, m2, m3⟩ := mk_small k
  have e : isN [93] m' ≤ 1 := by unfold isN; split <;> omega
  refine ⟨⟨fun p hp => ?_, fun p hp => ?_, ?_, ?_, ?_⟩, swap_mark h.g5 hm⟩
  · rcases mem_mid hp with rfl | z
    · exact m1
    · exact (h.ok p (sub p z)).2
  · rcases mem_mid hp with rfl | z
    · exact m2
    · exact h.flat p (sub p z)
  · rw [lenP_mid]; have := h.len; rw [lenP_mid] at this; omega
  · rw [nP_mid]; have := h.sh; rw [nP_mid] at this; omega
  · refine join_some (p := m') (by simp) ?_
    rcases hm with ⟨_, rfl⟩ | ⟨_, rfl⟩ <;> decide
/-- a drawn text, a plain word behind it -/
theorem good_row {ws : List T} {w : T} {n : Nat} {ps : List (List Nat)} (h : Dn ws n) (hn : n ≤ 99) {p : List Nat} (ho : One w p) (hb : B 30 200 w) (ht : Ts (ws ++ [w]) ps) : GoodR ps := by
  obtain ⟨qs, k1, k2, k3, k4⟩ := h.one ho hb
  have e := ts_fun ht k1
  subst e
  refine ⟨readF_good (readF_ts ht), ?_, ts_ok ht, k2, by omega, by omega⟩
  intro z
  subst z
  have : ws ++ [w] = [] := by
    have := readF_ts ht
    have e0 : readF [] = some [] := rfl
    rw [e0] at this
    exact (Option.some.inj this).symm
  simp at this
end Sw

namespace Sw24
open PySem PySem.Spec PyProof.Rows L2 Sw
def top (i : Nat) : Stmt := PySem.Challenge.pw_selfword_k24_texts_spoilt.main.body.getD i (.Pass ⟨0, 0, 0, 0⟩)
abbrev s_read_tree : Stmt := top 5
abbrev s_first : Stmt := top 7
abbrev s_rest : Stmt := top 8
abbrev s_sort_of : Stmt := top 17
abbrev s_load_of : Stmt := top 18
abbrev s_lay : Stmt := top 19
abbrev s_plain : Stmt := top 20
abbrev s_fork : Stmt := top 21
abbrev s_loop : Stmt := top 22
abbrev s_odd : Stmt := top 24
abbrev s_read : Stmt := top 26
abbrev s_pieces_of : Stmt := top 27
abbrev s_word_of : Stmt := top 28
abbrev s_tree_of : Stmt := top 29
abbrev s__law_at : Stmt := top 32
abbrev s__law_pick : Stmt := top 33
abbrev s__law_joined : Stmt := top 34
abbrev s__law_grown : Stmt := top 35
abbrev s__law_leaves : Stmt := top 36
abbrev s__law_plain : Stmt := top 37
abbrev s__law_odd : Stmt := top 38
abbrev s__law_text : Stmt := top 39
abbrev s__law_between : Stmt := top 40
abbrev s__law_word : Stmt := top 41
abbrev s__law_words : Stmt := top 42
abbrev s__law_drawn : Stmt := top 43
abbrev s__law_bad_piece : Stmt := top 44
abbrev s__law_marks : Stmt := top 45
abbrev s__law_spoilt : Stmt := top 46
abbrev s__law_refused : Stmt := top 47
abbrev s_law : Stmt := top 48
theorem sc_read_tree : FnScope ["text", "rows", "sign", "items"] ["text"] (defScope s_read_tree) := ⟨rfl, rfl, rfl, by decide +kernel, rfl, by decide +kernel, by decide +kernel⟩
theorem sc_first : FnScope ["tree"] ["tree"] (defScope s_first) := ⟨rfl, rfl, rfl, by decide +kernel, rfl, by decide +kernel, by decide +kernel⟩
theorem sc_rest : FnScope ["tree"] ["tree"] (defScope s_rest) := ⟨rfl, rfl, rfl, by decide +kernel, rfl, by decide +kernel, by decide +kernel⟩
theorem sc_sort_of : FnScope ["word"] ["word"] (defScope s_sort_of) := ⟨rfl, rfl, rfl, by decide +kernel, rfl, by decide +kernel, by decide +kernel⟩
theorem sc_load_of : FnScope ["word"] ["word"] (defScope s_load_of) := ⟨rfl, rfl, rfl, by decide +kernel, rfl, by decide +kernel, by decide +kernel⟩
theorem sc_lay : FnScope ["tree"] ["tree"] (defScope s_lay) := ⟨rfl, rfl, rfl, by decide +kernel, rfl, by decide +kernel, by decide +kernel⟩
theorem sc_plain : FnScope ["sort"] ["sort"] (defScope s_plain) := ⟨rfl, rfl, rfl, by decide +kernel, rfl, by decide +kernel, by decide +kernel⟩
theorem sc_fork : FnScope ["yes", "no"] ["yes", "no"] (defScope s_fork) := ⟨rfl, rfl, rfl, by decide +kernel, rfl, by decide +kernel, by decide +kernel⟩
theorem sc_loop : FnScope ["body"] ["body"] (defScope s_loop) := ⟨rfl, rfl, rfl, by decide +kernel, rfl, by decide +kernel, by decide +kernel⟩
theorem sc_odd : FnScope ["word", "sort"] ["word"] (defScope s_odd) := ⟨rfl, rfl, rfl, by decide +kernel, rfl, by decide +kernel, by decide +kernel⟩
theorem sc_read : FnScope ["signs", "reading", "piece"] ["signs"] (defScope s_read) := ⟨rfl, rfl, rfl, by decide +kernel, rfl, by decide +kernel, by decide +kernel⟩
theorem sc_pieces_of : FnScope ["signs"] ["signs"] (defScope s_pieces_of) := ⟨rfl, rfl, rfl, by decide +kernel, rfl, by decide +kernel, by decide +kernel⟩
theorem sc_word_of : FnScope ["piece", "word"] ["piece"] (defScope s_word_of) := ⟨rfl, rfl, rfl, by decide +kernel, rfl, by decide +kernel, by decide +kernel⟩
theorem sc_tree_of : FnScope ["signs"] ["signs"] (defScope s_tree_of) := ⟨rfl, rfl, rfl, by decide +kernel, rfl, by decide +kernel, by decide +kernel⟩
theorem sc__law_at : FnScope ["_law_script", "_law_k", "_law_number"] ["_law_script", "_law_k"] (defScope s__law_at) := ⟨rfl, rfl, rfl, by decide +kernel, rfl, by decide +kernel, by decide +kernel⟩
theorem sc__law_pick : FnScope ["_law_cell", "_law_turn", "_law_many"] ["_law_cell", "_law_turn", "_law_many"] (defScope s__law_pick) := ⟨rfl, rfl, rfl, by decide +kernel, rfl, by decide +kernel, by decide +kernel⟩
theorem sc__law_joined : FnScope ["_law_kids"] ["_law_kids"] (defScope s__law_joined) := ⟨rfl, rfl, rfl, by decide +kernel, rfl, by decide +kernel, by decide +kernel⟩
theorem sc__law_grown : FnScope ["_law_cells", "_law_held", "_law_cell", "_law_many"] ["_law_cells"] (defScope s__law_grown) := ⟨rfl, rfl, rfl, by decide +kernel, rfl, by decide +kernel, by decide +kernel⟩
theorem sc__law_leaves : FnScope ["_law_many"] ["_law_many"] (defScope s__law_leaves) := ⟨rfl, rfl, rfl, by decide +kernel, rfl, by decide +kernel, by decide +kernel⟩
theorem sc__law_plain : FnScope ["_law_cell", "_law_sort"] ["_law_cell"] (defScope s__law_plain) := ⟨rfl, rfl, rfl, by decide +kernel, rfl, by decide +kernel, by decide +kernel⟩
theorem sc__law_odd : FnScope ["_law_cell", "_law_trees", "_law_way", "_law_one", "_law_other", "_law_kids", "_law_many", "_law_at_here", "_law_inner", "_law_word_here"] ["_law_cell", "_law_trees"] (defScope s__law_odd) := ⟨rfl, rfl, rfl, by decide +kernel, rfl, by decide +kernel, by decide +kernel⟩
theorem sc__law_text : FnScope ["_law_words_here"] ["_law_words_here"] (defScope s__law_text) := ⟨rfl, rfl, rfl, by decide +kernel, rfl, by decide +kernel, by decide +kernel⟩
theorem sc__law_between : FnScope ["_law_some"] ["_law_some"] (defScope s__law_between) := ⟨rfl, rfl, rfl, by decide +kernel, rfl, by decide +kernel, by decide +kernel⟩
theorem sc__law_word : FnScope ["_law_cell", "_law_way", "_law_trees", "_law_held", "_law_one", "_law_cut", "_law_body", "_law_yes", "_law_no"] ["_law_cell", "_law_way", "_law_trees", "_law_held"] (defScope s__law_word) := ⟨rfl, rfl, rfl, by decide +kernel, rfl, by decide +kernel, by decide +kernel⟩
theorem sc__law_words : FnScope ["_law_cells", "_law_trees", "_law_held", "_law_k", "_law_cell", "_law_many", "_law_way", "_law_word_here"] ["_law_cells", "_law_trees"] (defScope s__law_words) := ⟨rfl, rfl, rfl, by decide +kernel, rfl, by decide +kernel, by decide +kernel⟩
theorem sc__law_drawn : FnScope ["_law_script", "_law_start", "_law_cells", "_law_trees"] ["_law_script", "_law_start"] (defScope s__law_drawn) := ⟨rfl, rfl, rfl, by decide +kernel, rfl, by decide +kernel, by decide +kernel⟩
theorem sc__law_bad_piece : FnScope ["_law_cell", "_law_trees", "_law_some", "_law_k", "_law_sort", "_law_load"] ["_law_cell", "_law_trees"] (defScope s__law_bad_piece) := ⟨rfl, rfl, rfl, by decide +kernel, rfl, by decide +kernel, by decide +kernel⟩
theorem sc__law_marks : FnScope ["_law_row"] ["_law_row"] (defScope s__law_marks) := ⟨rfl, rfl, rfl, by decide +kernel, rfl, by decide +kernel, by decide +kernel⟩
theorem sc__law_spoilt : FnScope ["_law_cell", "_law_row", "_law_trees", "_law_way", "_law_at_here", "_law_marks_here"] ["_law_cell", "_law_row", "_law_trees"] (defScope s__law_spoilt) := ⟨rfl, rfl, rfl, by decide +kernel, rfl, by decide +kernel, by decide +kernel⟩
theorem sc__law_refused : FnScope ["_law_thing", "_law_caught", "e"] ["_law_thing"] (defScope s__law_refused) := ⟨rfl, rfl, rfl, by decide +kernel, rfl, by decide +kernel, by decide +kernel⟩
theorem sc_law : FnScope ["_law_script", "_law_words_here", "_law_good", "_law_row", "_law_trees", "_law_some", "_law_bad", "_law_thing"] ["_law_script"] (defScope s_law) := ⟨rfl, rfl, rfl, by decide +kernel, rfl, by decide +kernel, by decide +kernel⟩
end Sw24
namespace Sw24
open PySem PySem.Spec PyProof.Rows L2 Sw
section
variable {P : Program} {w : World} {K : PySem.W.Frag} {mg : Str → Option Value} {base : Heap} {f : Addr} {fd : FuncData}
theorem ok_odd (m_any : mg "any" = none) {u_WHILE : Value} (m_WHILE : mg "WHILE" = some u_WHILE) (r_WHILE : RelV (.int 8) u_WHILE) {u_LAY : Value} (m_LAY : mg "LAY" = some u_LAY) (r_LAY : RelV (.int 0) u_LAY) {u_FORK : Value} (m_FORK : mg "FORK" = some u_FORK) (r_FORK : RelV (.int 7) u_FORK) {u_NAMELESS : Value} (m_NAMELESS : mg "NAMELESS" = some u_NAMELESS) (r_NAMELESS : RelV (.int 9) u_NAMELESS) 
    {a_first : Addr} {d_first : FuncData} (F_first : Fun K "first" "first" s_first a_first d_first) (G_first : FnOk P w K mg base CX0 32 a_first d_first ["tree"] (spFirst K)) (b_first : Binds K d_first ["tree"] []) (m_first : mg "first" = some (.ref a_first))
    {a_sort_of : Addr} {d_sort_of : FuncData} (F_sort_of : Fun K "sort_of" "sort_of" s_sort_of a_sort_of d_sort_of) (G_sort_of : FnOk P w K mg base CX0 32 a_sort_of d_sort_of ["word"] (spSortL K)) (b_sort_of : Binds K d_sort_of ["word"] []) (m_sort_of : mg "sort_of" = some (.ref a_sort_of))
    {a_load_of : Addr} {d_load_of : FuncData} (F_load_of : Fun K "load_of" "load_of" s_load_of a_load_of d_load_of) (G_load_of : FnOk P w K mg base CX0 32 a_load_of d_load_of ["word"] (spRest K)) (b_load_of : Binds K d_load_of ["word"] []) (m_load_of : mg "load_of" = some (.ref a_load_of))
    (F : Fun K "odd" "odd" s_odd f fd) : FnOk P w K mg base CX0 33 f fd ["word"] (spOdd K) := by
  refine okQ F sc_odd (fun vs H Q E h => ?_) (fun cdv A outer s H vs Q E hr h => ?_)
  · obtain ⟨x, w, rfl, _⟩ := h
    rfl
  obtain ⟨x, w, rfl, ht, hb, q⟩ := h
  have hE := hr.un
  have hE : (A.deeper (envOfC "odd" (defScope s_odd) s.heap.objs.size f cdv)).units + 401 < cLine := by omega
  refine ⟨_, (qss_cons (qs_if (QW.pt (qw_or (qt_cmpR (op_eqTr hE) (qv 0) (qe_tup qa_nil) (nomark _)) (qw_or1 (qt_val (qe_callB (call_any rfl) rfl m_any bt_any (qa_cons (qe_lc rfl (lc_free (fr := []) (js := []) (sc := defScope s_odd) rfl rfl rfl (by decide +kernel) (by decide +kernel) (by decide +kernel) (by decide +kernel) (by exact trivial) (by decide +kernel) (fun y hy => cell_has hy)) (qi_tup (qe_call G_first hr rfl m_first F_first.kp b_first .nil pass0 (qa_cons (qv 0) qa_nil))) (fun _ _ _ _ _ => (qe_cmpR (op_neTrK (K := K) rfl rfl hE) (qv 0) (qe_tup qa_nil) (nomark _)))) qa_nil)))))) (qss_one (qs_ret qe_bl)) qss_nil)
      (qss_cons (qs_set (i := 1) sc_odd.nd rfl (Or.inl rfl) (qe_call G_sort_of hr rfl m_sort_of F_sort_of.kp b_sort_of .nil pass0 (qa_cons (qv 0) qa_nil)))
      (qss_cons (qs_if (qt_cmpR op_in_seq (qv 1) (qe_tup (qa_cons (qe_glob (v := .int 0) rfl m_LAY r_LAY) (qa_cons (qe_glob (v := .int 8) rfl m_WHILE r_WHILE) qa_nil))) rfl) (qss_one (qs_ret qe_bl)) qss_nil)
      (qss_cons (qs_if (qt_cmpR op_eq (qv 1) (qe_glob (v := .int 7) rfl m_FORK r_FORK) (nomark _)) (qss_one (qs_ret (qe_cmpR (op_eqTr hE) (qe_call G_load_of hr rfl m_load_of F_load_of.kp b_load_of .nil pass0 (qa_cons (qv 0) qa_nil)) (qe_tup qa_nil) (nomark _)))) qss_nil)
      (qss_one (qs_ret (qe_or (qe_cmpR op_eq (qv 1) (qe_glob (v := .int 9) rfl m_NAMELESS r_NAMELESS) (nomark _)) (qe_one (qe_cmpR (op_neTr hE) (qe_call G_load_of hr rfl m_load_of F_load_of.kp b_load_of .nil pass0 (qa_cons (qv 0) qa_nil)) (qe_tup qa_nil) (nomark _)))))))))), ?_⟩
  have hd := hb.1
  have hp := hb.2
  have beqO : ∀ t : T, t ∈ (ats w.kids 0).kids → t.deep ≤ 400 := fun t ht => by
    have h1 := T.mem_deep ht
    rw [← deep_eq] at h1
    have h2 := first_deep w
    omega
  have kl : (ats w.kids 0).kids.length ≤ 100000 := by
    have := (B_kids (B_ats (B_kids hb) 0)).len
    omega
  have hl400 : (loadT w).deep ≤ 400 := Nat.le_trans (load_deep w) hd
  have hs9 : sortT w ≤ 9 := by unfold sortT; split <;> omega
  refine ⟨_, rfl, Nat.zero_le _, fun p1 g1 => ⟨w, leaf, ht.mono (.new g1), leaf_tr upd_same, by omega, _, rfl, ite2 (fun h1 => ?_) (fun h1 => ?_)⟩⟩
  · have e : oddT w = true := by unfold oddT headOdd; rw [h1]; rfl
    rw [e] at q
    exact iteT (q _ (same_new g1 _))
  have h1 : T.beq w leaf = false := Bool.eq_false_iff.mpr h1
  have S1 := same_new g1 (.tup [])
  refine ⟨_, rfl, x, w, rfl, ht.mono (.of S1), hd, fun y H2 S2 t2 => ?_⟩
  obtain ⟨a2, xs2, rfl, q2, r2⟩ := TR_node.mp (TR_kids t2)
  refine ⟨a2, rfl, ⟨_, q2⟩, lc_mapT (fun t => .bl (!T.beq t leaf)) q2 r2 (small (by rw [r2.length]; omega)) (fun t z H' R hm S tz hR => ⟨_, rfl, Nat.zero_le _, fun p3 g3 => ⟨t, leaf, tz.mono (.new g3), leaf_tr upd_same, by have := beqO t hm; omega, hR _ (same_new g3 _)⟩⟩) (fun D H3 S3 h3 => ?_)⟩
  refine ⟨D, (ats w.kids 0).kids.map fun t => !T.beq t leaf, rfl, SqL.of (by rw [h3, List.map_map]; rfl), _, rfl, ?_⟩
  have S13 := S1.trans (S2.trans S3)
  have eh : headOdd w = ((ats w.kids 0).kids.map fun t => !T.beq t leaf).any id := by unfold headOdd; rw [h1, List.any_map]; rfl
  rw [← eh]
  refine ite2 (fun h2 => ?_) (fun h2 => ?_)
  · have e : oddT w = true := by unfold oddT; rw [h2]; rfl
    rw [e] at q
    exact q _ S13
  have eo : oddT w = if sortT w = 0 ∨ sortT w = 8 then false else if sortT w = 7 then T.beq (loadT w) leaf else (decide (sortT w = 9) || !T.beq (loadT w) leaf) := by unfold oddT; rw [if_neg h2]
  dsimp only [tNext]
  refine setQ (fun v => [some x, some v]) (fun _ => rfl) (fun v H' => v = .int (sortT w : Nat) ∧ Same H H') (fun R r => ⟨_, rfl, x, w, rfl, ht.mono (.of S13), hd, fun H4 S4 => r _ _ ⟨rfl, S13.trans S4⟩⟩) (fun v4 H4 h4 => ?_)
  obtain ⟨rfl, S4⟩ := h4
  refine ⟨_, rfl, (by show 2 ≤ sizeLine; decide), fun p5 g5 => ⟨p5, _, rfl, .inr (SqT.of upd_same), rfl, rfl, _, rfl, ?_⟩⟩
  have S5 := S4.trans (same_new g5 (.tup [.int 0, .int 8]))
  have ei : (if false = true then !inV (.int ((sortT w : Nat) : Int)) [.int 0, .int 8] else inV (.int ((sortT w : Nat) : Int)) [.int 0, .int 8]) = decide (sortT w = 0 ∨ sortT w = 8) := by
    rw [if_neg (by decide)]
    unfold inV
    rw [List.any_cons, List.any_cons, List.any_nil, Bool.or_false]
    show (((0 : Int) == ((sortT w : Nat) : Int)) || ((8 : Int) == ((sortT w : Nat) : Int))) = _
    rw [Bool.eq_iff_iff, Bool.or_eq_true, beq_iff_eq, beq_iff_eq, decide_eq_true_iff]
    omega
  rw [ei]
  refine ite2 (fun h3 => ?_) (fun h3 => ?_)
  · rw [eo, if_pos (of_decide_eq_true h3)] at q
    exact q _ S5
  rw [eo, if_neg (fun z => h3 (decide_eq_true z))] at q
  refine ⟨_, rfl, rfl, _, rfl, ite2 (fun h7 => ?_) (fun h7 => ?_)⟩
  · have e7 : sortT w = 7 := by have := V.int.inj (of_decide_eq_true h7); omega
    rw [if_pos e7] at q
    exact ⟨_, rfl, x, w, rfl, ht.mono (.of S5), fun y H6 S6 t6 => ⟨Nat.zero_le _, fun p7 g7 => ⟨loadT w, leaf, t6.mono (.new g7), leaf_tr upd_same, by omega, q _ (S5.trans (S6.trans (same_new g7 _)))⟩⟩⟩
  · have e7 : sortT w ≠ 7 := fun z => h7 (by rw [z]; exact decide_eq_true rfl)
    rw [if_neg e7] at q
    refine ⟨_, rfl, rfl, _, rfl, ite2 (fun h9 => ?_) (fun h9 => ?_)⟩
    · have e9 : sortT w = 9 := by have := V.int.inj (of_decide_eq_true h9); omega
      rw [decide_eq_true e9, Bool.true_or] at q
      exact q _ S5
    · have e9 : sortT w ≠ 9 := fun z => h9 (by rw [z]; exact decide_eq_true rfl)
      rw [decide_eq_false e9, Bool.false_or] at q
      exact ⟨_, rfl, x, w, rfl, ht.mono (.of S5), fun y H6 S6 t6 => ⟨Nat.zero_le _, fun p7 g7 => ⟨loadT w, leaf, t6.mono (.new g7), leaf_tr upd_same, by omega, q _ (S5.trans (S6.trans (same_new g7 _)))⟩⟩⟩
end
end Sw24

namespace Sw24
open PySem PySem.Spec PyProof.Rows L2 Sw
abbrev s___init__ : Stmt := inClass (top 30) 0
abbrev s_take : Stmt := inClass (top 30) 1
abbrev s_enter : Stmt := inClass (top 30) 2
abbrev s_leave : Stmt := inClass (top 30) 3
abbrev s_bracketed : Stmt := inClass (top 30) 4
abbrev s_add_word : Stmt := inClass (top 30) 5
abbrev s_whole : Stmt := inClass (top 30) 6
theorem sc___init__ : FnScope ["self"] ["self"] (defScope s___init__) := ⟨rfl, rfl, rfl, by decide +kernel, rfl, by decide +kernel, by decide +kernel⟩
theorem sc_take : FnScope ["self", "piece"] ["self", "piece"] (defScope s_take) := ⟨rfl, rfl, rfl, by decide +kernel, rfl, by decide +kernel, by decide +kernel⟩
theorem sc_enter : FnScope ["self", "place"] ["self", "place"] (defScope s_enter) := ⟨rfl, rfl, rfl, by decide +kernel, rfl, by decide +kernel, by decide +kernel⟩
theorem sc_leave : FnScope ["self"] ["self"] (defScope s_leave) := ⟨rfl, rfl, rfl, by decide +kernel, rfl, by decide +kernel, by decide +kernel⟩
theorem sc_bracketed : FnScope ["self", "no"] ["self"] (defScope s_bracketed) := ⟨rfl, rfl, rfl, by decide +kernel, rfl, by decide +kernel, by decide +kernel⟩
theorem sc_add_word : FnScope ["self", "word"] ["self", "word"] (defScope s_add_word) := ⟨rfl, rfl, rfl, by decide +kernel, rfl, by decide +kernel, by decide +kernel⟩
theorem sc_whole : FnScope ["self"] ["self"] (defScope s_whole) := ⟨rfl, rfl, rfl, by decide +kernel, rfl, by decide +kernel, by decide +kernel⟩
end Sw24
namespace Sw24
open PySem PySem.Spec PyProof.Rows L2 Sw
section
variable {P : Program} {w : World} {K : PySem.W.Frag} {mg : Str → Option Value} {base : Heap} {f : Addr} {fd : FuncData}

abbrev bmV : List Value := [.type "ValueError", .type "Exception", .type "BaseException", .type "object"]
section
variable {P : Program} {w : World} {K : PySem.W.Frag} {mg : Str → Option Value} {base : Heap} {N : List Str} {qual : Str} {scope : Scope} {f : Addr} {cd : Value} {A : Around} {outer : List Env} {s₀ : Shared} {H₀ : Hp} {E : XK}
theorem qs_tryTurn {xB x2 : Str} {D0 C2 : Addr} {B newId initId : String} {bmB : List Value} {body : List Stmt} {ts : TS} {np np2 cpos cp rpos hp pos3 : Pos} {kk : Nat}
    (hb : ∀ EE, Passes (CXC P w) ((cxOf (CXE P w) P w K mg base N qual scope f cd A outer s₀ H₀ E).wish EE) (ETurn K D0 C2 E) → QSs ((cxOf (CXE P w) P w K mg base N qual scope f cd A outer s₀ H₀ E).wish EE) body ts)
    (hgB : Gl (cxOf (CXE P w) P w K mg base N qual scope f cd A outer s₀ H₀ E) xB) (hmB : mg xB = some (.ref D0)) (h1 : PySem.W.typeIn K (.ref D0) = some (.type "type")) (h2 : PySem.W.subIn K (.ref D0) (.type "BaseException") = some true) (hD : ∃ cd, PySem.W.clsIn K D0 = some cd)
    (FB : ExcBaseFacts B newId initId bmB) (q : PySem.W.excIn K C2 bmB newId = true) (hk : PySem.W.keepIn K (.ref C2) = true) (hg : Gl (cxOf (CXE P w) P w K mg base N qual scope f cd A outer s₀ H₀ E) x2) (hm : mg x2 = some (.ref C2))
    (hdB : (xB == ("__debug__" : Str)) = false := by decide) (hd2 : (x2 == ("__debug__" : Str)) = false := by decide) :
    QS (cxOf (CXE P w) P w K mg base N qual scope f cd A outer s₀ H₀ E) (.Try body [.ExceptHandler (some (.Name xB np)) none [.Raise (some (.Call (.Name x2 np2) [] [] cpos)) (some (.Constant .none kk cp)) rpos] hp] [] [] pos3) ts := ⟨ps_tryTurn hb hgB hmB h1 h2 hD FB q hk hg hm hdB hd2⟩
end

/-- no text -/
def NoStr (K : PySem.W.Frag) (H : Hp) (x : V) : Prop := ∃ ty, TyOf K H x ty ∧ PySem.W.kitOne K ty (.type "str") = some false
def spReadTree (K : PySem.W.Frag) (cT : Addr) : Sp := fun vs H Q E => ∃ l, vs = [.str (tx l)] ∧ l.length ≤ 400000 ∧ (∀ t, treeP l = some t → ∀ y H', Same H H' → TR K H' t y → Q y H') ∧ (treeP l = none → ∀ H', Same H H' → E (.ref cT) none H')
def spTreeOfX (K : PySem.W.Frag) (cX : Addr) : Sp := fun vs H Q E => ∃ l, vs = [.str (tx l)] ∧ l.length ≤ 400000 ∧ (∀ t, treeP l = some t → ∀ y H', Same H H' → TR K H' t y → Q y H') ∧ (treeP l = none → ∀ H', Same H H' → E (.ref cX) none H')
def spWofX (K : PySem.W.Frag) (cX : Addr) : Sp := fun vs H Q E => ∃ p, vs = [.str (tx p)] ∧ p.length ≤ 90000 ∧ FlatP p ∧ (∀ w, wordP p = some w → ∀ y H', Same H H' → TR K H' w y → Q y H') ∧ (wordP p = none → ∀ H', Same H H' → E (.ref cX) none H')
def spBrackX (K : PySem.W.Frag) (C cX : Addr) : Sp := fun vs H Q E => ∃ (o : Addr) (H₀ : Hp) (st : List (List T)) (pl : List (List Nat)) (nm : List Nat), vs = [.ref o] ∧ RdAt K C H₀ H o st pl nm ∧
  ((∃ st2 pl2 t, ((∃ r, st = r :: st2 ∧ pl = bodyC :: pl2 ∧ t = loopW r ∧ B 400 1000000 (.node r)) ∨ (∃ n y, st = n :: y :: st2 ∧ pl = noC :: yesC :: pl2 ∧ t = forkW y n ∧ B 400 1000000 (.node n) ∧ B 400 1000000 (.node y))) ∧ ∀ x H', Kt H H' → RdAt K C H₀ H' o st2 pl2 nm → TR K H' t x → Q x H') ∨
   (∃ c pl2, pl = c :: pl2 ∧ c ≠ bodyC ∧ c ≠ noC ∧ ∀ H', Same H₀ H' → E (.ref cX) none H'))
def spWholeX (K : PySem.W.Frag) (C cX : Addr) : Sp := fun vs H Q E => ∃ (o : Addr) (H₀ : Hp) (st : List (List T)) (pl : List (List Nat)) (nm : List Nat), vs = [.ref o] ∧ RdAt K C H₀ H o st pl nm ∧ (∀ r, st = [r] → nm = [] → ∀ y H', Same H₀ H' → TR K H' (.node r) y → Q y H') ∧ ((nm ≠ [] ∨ st.length ≠ 1) → ∀ H', Same H₀ H' → E (.ref cX) none H')
def spTakeX (K : PySem.W.Frag) (C cX : Addr) : Sp := fun vs H Q E => ∃ (o : Addr) (p : List Nat) (H₀ : Hp) (a : Rst), vs = [.ref o, .str (tx p)] ∧ RdAt K C H₀ H o a.st a.pl a.nm ∧ WF a ∧ Sz a ∧ p.length ≤ 90000 ∧ FlatP p ∧ (∀ b H', stpF a p = some b → Kt H H' → RdAt K C H₀ H' o b.st b.pl b.nm → Q .non H') ∧ (stpF a p = none → ∀ H', Same H₀ H' → E (.ref cX) none H')
def RowP (ps : List (List Nat)) : Prop := (∀ p ∈ ps, 32 ∉ p) ∧ (ps = [] ∨ joinL [32] ps ≠ [])
def spPiecesX (K : PySem.W.Frag) : Sp := fun vs H Q _ => ∃ ps : List (List Nat), vs = [.str (tx (joinL [32] ps))] ∧ RowP ps ∧ (joinL [32] ps).length ≤ 8000000 ∧ ∀ D, H D = none → Q (.ref D) (upd H D (.lst (ps.map fun p => V.str (tx p))))
def RowOk (ps : List (List Nat)) : Prop := RowP ps ∧ (∀ p ∈ ps, FlatP p) ∧ lenP ps ≤ 90000 ∧ nP [93] ps ≤ 140
def spReadAny (K : PySem.W.Frag) (cX : Addr) : Sp := fun vs H Q E => ∃ x, vs = [x] ∧ ((∃ ps, x = .str (tx (joinL [32] ps)) ∧ RowOk ps ∧ (∀ r, readF ps = some r → ∀ y H', Same H H' → TR K H' (.node r) y → Q y H') ∧ (readF ps = none → ∀ H', Same H H' → E (.ref cX) none H')) ∨ (NoStr K H x ∧ E (.ref cX) none H))
theorem ok___init__ {C : Addr} (cC : Cls K C) (nR : NoAttr K C "rows") (nP : NoAttr K C "places") (nN : NoAttr K C "named") 
    (F : Fun K "__init__" "Reading.__init__" s___init__ f fd) : FnOk P w K mg base CX0 31 f fd ["self"] (spInit K C) := by
  refine okQ F sc___init__ (fun vs H Q E h => ?_) (fun cdv A outer s H vs Q E hr h => ?_)
  · obtain ⟨o, dx, H₀, rfl, _⟩ := h
    rfl
  obtain ⟨o, dx, H₀, rfl, S0, o0, ho, q⟩ := h
  refine ⟨_, (qss_cons (qs_fld (qv 0) (qe_lst (qa_cons (qe_lst qa_nil) qa_nil)) rfl)
      (qss_cons (qs_fld (qv 0) (qe_lst (qa_cons qe_str qa_nil)) rfl)
      (qss_one (qs_fld (qv 0) qe_str rfl)))), ?_⟩
  refine ⟨Nat.zero_le _, fun q1 g1 => ⟨(by show 1 ≤ sizeLine; decide), fun q2 g2 => ?_⟩⟩
  have S1 := same_new g1 (.lst [])
  have S2 := same_new g2 (.lst [.ref q1])
  have n21 : q1 ≠ q2 := fun z => by rw [← z, upd_same] at g2; cases g2
  have o1 : o ≠ q1 := ne_of_none ho g1
  have o2 : o ≠ q2 := ne_of_none (S1 _ _ ho) g2
  have ho2 := S2 _ _ (S1 _ _ ho)
  have h1a := S2 _ _ (upd_same (H := H) (a := q1) (o := .lst []))
  have h2a : upd (upd H q1 (.lst [])) q2 (.lst [.ref q1]) q2 = some (.lst [.ref q1]) := upd_same
  have S12 := S1.trans S2
  generalize upd (upd H q1 (.lst [])) q2 (.lst [.ref q1]) = Ha at ho2 h1a h2a S12
  refine ⟨_, rfl, o, C, dx, _, rfl, ho2, cC, nR, (by show 0 < 1000; decide), (by show 1 ≤ sizeLine; decide), fun q3 g3 => ?_⟩
  have k1 := Kt.ins (x := .ins C dx (putF "rows" (.ref q2) [])) ho2
  have hb0 : upd Ha o (.ins C dx (putF "rows" (.ref q2) [])) o = some (.ins C dx (putF "rows" (.ref q2) [])) := upd_same
  have hb1 : upd Ha o (.ins C dx (putF "rows" (.ref q2) [])) q1 = some (.lst []) := by rw [upd_ne (Ne.symm o1)]; exact h1a
  have hb2 : upd Ha o (.ins C dx (putF "rows" (.ref q2) [])) q2 = some (.lst [.ref q1]) := by rw [upd_ne (Ne.symm o2)]; exact h2a
  have Sb : Same H₀ (upd Ha o (.ins C dx (putF "rows" (.ref q2) []))) := same_upd (S0.trans S12) o0
  generalize upd Ha o (.ins C dx (putF "rows" (.ref q2) [])) = Hb at g3 k1 hb0 hb1 hb2 Sb ⊢
  have S3 := same_new g3 (.lst [.str (PySem.Str.ofString "text")])
  have o3 : o ≠ q3 := ne_of_none hb0 g3
  have n13 : q1 ≠ q3 := ne_of_none hb1 g3
  have n23 : q2 ≠ q3 := ne_of_none hb2 g3
  have hl1 : (putF "rows" (.ref q2) []).length ≤ 1 := putF_len _ _ _
  have hl2 := putF_len "places" (.ref q3) (putF "rows" (.ref q2) [])
  refine ⟨_, rfl, o, C, dx, _, rfl, S3 _ _ hb0, cC, nP, by omega, ?_⟩
  refine ⟨_, rfl, o, C, dx, _, rfl, upd_same, cC, nN, by omega, ?_⟩
  have kc0 := S3 _ _ hb0
  have hc1 := S3 _ _ hb1
  have hc2 := S3 _ _ hb2
  have hc3 : upd Hb q3 (.lst [.str (PySem.Str.ofString "text")]) q3 = some (.lst [.str (PySem.Str.ofString "text")]) := upd_same
  have Sc := Sb.trans S3
  have q30 : H₀ q3 = none := Sb.free g3
  have q20 : H₀ q2 = none := (S0.trans S1).free g2
  have q10 : H₀ q1 = none := S0.free g1
  have kc := (Kt.of S12).trans (k1.trans (Kt.of S3))
  generalize upd Hb q3 (.lst [.str (PySem.Str.ofString "text")]) = Hc at kc0 hc1 hc2 hc3 Sc kc ⊢
  have k3 := Kt.ins (x := .ins C dx (putF "places" (.ref q3) (putF "rows" (.ref q2) []))) kc0
  have hd0 : upd Hc o (.ins C dx (putF "places" (.ref q3) (putF "rows" (.ref q2) []))) o = some (.ins C dx (putF "places" (.ref q3) (putF "rows" (.ref q2) []))) := upd_same
  have k4 := Kt.ins (x := .ins C dx (putF "named" (.str (PySem.Str.ofString "")) (putF "places" (.ref q3) (putF "rows" (.ref q2) [])))) hd0
  have at4 : ∀ {b : Addr} {z : HO}, b ≠ o → Hc b = some z → upd (upd Hc o (.ins C dx (putF "places" (.ref q3) (putF "rows" (.ref q2) [])))) o (.ins C dx (putF "named" (.str (PySem.Str.ofString "")) (putF "places" (.ref q3) (putF "rows" (.ref q2) [])))) b = some z := fun hb e => by rw [upd_ne hb, upd_ne hb]; exact e
  refine q _ (kc.trans (k3.trans k4)) ⟨dx, q2, q3, [.ref q1], ?_, o0, q30, ⟨q20, same_upd (same_upd Sc o0) o0, at4 (Ne.symm o2) hc2, All2.one ⟨q1, [], rfl, q10, at4 (Ne.symm o1) hc1, TRs_nil.mpr rfl⟩, ?_⟩, ?_, ?_⟩
  · rw [upd_same, tx_nil]
    rfl
  · refine List.nodup_cons.mpr ⟨fun z => n21 (V.ref.inj (List.mem_singleton.mp z)).symm, by simp⟩
  · rw [at4 (Ne.symm o3) hc3, tx_text]
    rfl
  · intro z
    rcases List.mem_cons.mp z with z | z
    · exact n23 (V.ref.inj z).symm
    · exact n13 (V.ref.inj (List.mem_singleton.mp z)).symm
theorem ok_enter {C : Addr} (cC : Cls K C) (nR : NoAttr K C "rows") (nP : NoAttr K C "places") (nN : NoAttr K C "named") 
    (F : Fun K "enter" "Reading.enter" s_enter f fd) : FnOk P w K mg base CX0 31 f fd ["self", "place"] (spEnter K C) := by
  refine okQ F sc_enter (fun vs H Q E h => ?_) (fun cdv A outer s H vs Q E hr h => ?_)
  · obtain ⟨o, c, H₀, st, pl, nm, rfl, _⟩ := h
    rfl
  obtain ⟨o, c, H₀, st, pl, nm, rfl, h, hst, hpl, q⟩ := h
  refine ⟨_, (qss_cons (qs_expr (qe_bm PySem.F.plainAttrs_list PySem.F.slot_list_append PySem.F.type_list_append mt_append (qe_fld (qv 0) rfl) (qa_cons (qe_lst qa_nil) qa_nil)))
      (qss_one (qs_expr (qe_bm PySem.F.plainAttrs_list PySem.F.slot_list_append PySem.F.type_list_append mt_append (qe_fld (qv 0) rfl) (qa_cons (qv 1) qa_nil))))), ?_⟩
  obtain ⟨dx, R, P, ys, h⟩ := h
  have hyl : ys.length = st.length := by rw [h.rows.rows.length, List.length_reverse]
  refine ⟨_, rfl, o, C, dx, _, _, rfl, h.ob, cC, nR, fl_rows, .inl ⟨rfl, _, SqL.of h.rows.at_⟩, Nat.zero_le _, fun q1 g1 => ⟨R, ys, _, rfl, rfl, (same_new g1 _) _ _ h.rows.at_, smallL (by omega), ?_⟩⟩
  have h2 := h.enter g1
  have k1 : Kt H (upd (upd H q1 (.lst [])) R (.lst (ys ++ [.ref q1]))) := (Kt.new g1).trans (Kt.lst ((same_new g1 _) _ _ h.rows.at_))
  refine ⟨_, rfl, o, C, dx, _, _, rfl, h2.ob, cC, nP, fl_places, .inl ⟨rfl, _, SqL.of h2.at_⟩, _, rfl, P, _, _, rfl, rfl, h2.at_, smallL (by rw [plV_len]; omega), ?_⟩
  exact q _ (k1.trans (Kt.lst h2.at_)) ⟨dx, R, P, _, h2.place (plV_cons c pl).symm⟩
theorem ok_leave {C : Addr} (cC : Cls K C) (nR : NoAttr K C "rows") (nP : NoAttr K C "places") (nN : NoAttr K C "named") (m_tuple : mg "tuple" = none) 
    (F : Fun K "leave" "Reading.leave" s_leave f fd) : FnOk P w K mg base CX0 31 f fd ["self"] (spLeave K C) := by
  refine okQ F sc_leave (fun vs H Q E h => ?_) (fun cdv A outer s H vs Q E hr h => ?_)
  · obtain ⟨o, c, H₀, r, st, pl, nm, rfl, _⟩ := h
    rfl
  obtain ⟨o, c, H₀, r, st, pl, nm, rfl, h, q⟩ := h
  refine ⟨_, (qss_cons (qs_expr (qe_bm0 PySem.F.plainAttrs_list PySem.F.slot_list_pop PySem.F.type_list_pop mt_pop (qe_fld (qv 0) rfl)))
      (qss_one (qs_ret (qe_callTy call_tuple_of rfl m_tuple bt_tuple (qa_cons (qe_bm0 PySem.F.plainAttrs_list PySem.F.slot_list_pop PySem.F.type_list_pop mt_pop (qe_fld (qv 0) rfl)) qa_nil))))), ?_⟩
  obtain ⟨dx, R, P, ys, h⟩ := h
  refine ⟨_, rfl, o, C, dx, _, _, rfl, h.ob, cC, nP, fl_places, .inl ⟨rfl, _, SqL.of h.at_⟩, P, _, _, rfl, rfl, h.at_, (by rw [plV_cons]; exact snoc_last _ _), ?_⟩
  have h2 : RdX K C H₀ _ o dx R P ys (r :: st) pl nm := h.place (zs := (plV (c :: pl)).dropLast) (by rw [plV_cons, snoc_drop])
  obtain ⟨ys0, a, xs, rfl, nRa, ha, hr, h3⟩ := h2.shut
  have k1 := Kt.lst (o := .lst (plV (c :: pl)).dropLast) h.at_
  have k2 := Kt.lst (o := .lst (ys0 ++ [V.ref a]).dropLast) h2.rows.at_
  refine ⟨_, rfl, o, C, dx, _, _, rfl, h2.ob, cC, nR, fl_rows, .inl ⟨rfl, _, SqL.of h2.rows.at_⟩, R, _, _, rfl, rfl, h2.rows.at_, snoc_last _ _, ?_⟩
  rw [snoc_drop] at k2 ⊢
  refine ⟨a, xs, rfl, .inl ⟨SqL.of (by rw [upd_ne (Ne.symm nRa)]; exact ha), fun l gl => q _ _ (k1.trans (k2.trans (Kt.new gl))) ⟨dx, R, P, _, h3.grow (same_new gl _)⟩ (TR_mk (SqT.of upd_same) ((hr.mono k2).mono (Kt.new gl)))⟩⟩
theorem ok_add_word {C : Addr} (cC : Cls K C) (nR : NoAttr K C "rows") (nP : NoAttr K C "places") (nN : NoAttr K C "named") 
    (F : Fun K "add_word" "Reading.add_word" s_add_word f fd) : FnOk P w K mg base CX0 31 f fd ["self", "word"] (spAddW K C) := by
  refine okQ F sc_add_word (fun vs H Q E h => ?_) (fun cdv A outer s H vs Q E hr h => ?_)
  · obtain ⟨o, x, t, H₀, r, st, pl, nm, rfl, _⟩ := h
    rfl
  obtain ⟨o, x, t, H₀, r, st, pl, nm, rfl, ht, h, hrl, q⟩ := h
  refine ⟨_, (qss_one (qs_expr (qe_bm PySem.F.plainAttrs_list PySem.F.slot_list_append PySem.F.type_list_append mt_append (qe_ix ix_list (qe_fld (qv 0) rfl) (qe_un un_neg qe_int) (fun _ _ => rfl)) (qa_cons (qv 1) qa_nil)))), ?_⟩
  obtain ⟨dx, R, P, ys, h⟩ := h
  obtain ⟨ys0, a, xs, rfl, ha, hxl, h2⟩ := h.add ht
  exact ⟨_, rfl, o, C, dx, _, _, rfl, h.ob, cC, nR, fl_rows, 1, rfl, R, _, _, _, rfl, rfl, SqL.of h.rows.at_, at_last, .inl ⟨rfl, _, SqL.of ha⟩, _, rfl, a, _, _, rfl, rfl, ha, smallL (by omega), q _ (Kt.lst ha) ⟨dx, R, P, _, h2⟩⟩
theorem ok_bracketed {C : Addr} (cC : Cls K C) (nR : NoAttr K C "rows") (nP : NoAttr K C "places") (nN : NoAttr K C "named") {cX : Addr} (x_NoText : PySem.W.excIn K cX bmV "ValueError.__new__" = true) (m_NoText : mg "NoText" = some (.ref cX)) 
    {a_loop : Addr} {d_loop : FuncData} (F_loop : Fun K "loop" "loop" s_loop a_loop d_loop) (G_loop : FnOk P w K mg base CX0 32 a_loop d_loop ["body"] (spLoop K)) (b_loop : Binds K d_loop ["body"] []) (m_loop : mg "loop" = some (.ref a_loop))
    {a_fork : Addr} {d_fork : FuncData} (F_fork : Fun K "fork" "fork" s_fork a_fork d_fork) (G_fork : FnOk P w K mg base CX0 32 a_fork d_fork ["yes", "no"] (spFork K)) (b_fork : Binds K d_fork ["yes", "no"] []) (m_fork : mg "fork" = some (.ref a_fork))
    {a_leave : Addr} {d_leave : FuncData} (M_leave : Meth K C "leave" a_leave) (G_leave : FnOk P w K mg base CX0 32 a_leave d_leave ["self"] (spLeave K C)) (b_leave : Binds K d_leave ["self"] [])
    (F : Fun K "bracketed" "Reading.bracketed" s_bracketed f fd) : FnOk P w K mg base (CXE P w) 33 f fd ["self"] (spBrackX K C cX) := by
  refine okXQ F sc_bracketed (fun vs H Q E h => ?_) (fun cdv A outer s H vs Q E hr h => ?_)
  · obtain ⟨o, H₀, st, pl, nm, rfl, _⟩ := h
    rfl
  obtain ⟨o, H₀, st, pl, nm, rfl, h, hc⟩ := h
  refine ⟨_, (qss_cons (qs_if (qt_cmpR op_eq (qe_ix ix_list (qe_fld (qv 0) rfl) (qe_un un_neg qe_int) (fun _ _ => rfl)) qe_str (nomark _)) (qss_one (qs_ret (qe_call G_loop hr rfl m_loop F_loop.kp b_loop .nil pass0 (qa_cons (qe_meth0 (qv 0) cC M_leave G_leave hr b_leave .nil pass0) qa_nil)))) qss_nil)
      (qss_cons (qs_if (qt_cmpR op_ne (qe_ix ix_list (qe_fld (qv 0) rfl) (qe_un un_neg qe_int) (fun _ _ => rfl)) qe_str (nomark _)) (qss_one (qs_raise PySem.F.excBase_ValueError x_NoText rfl m_NoText)) qss_nil)
      (qss_cons (qs_set (i := 1) sc_bracketed.nd rfl (Or.inl rfl) (qe_meth0 (qv 0) cC M_leave G_leave hr b_leave .nil pass0))
      (qss_one (qs_ret (qe_call G_fork hr rfl m_fork F_fork.kp b_fork .nil pass0 (qa_cons (qe_meth0 (qv 0) cC M_leave G_leave hr b_leave .nil pass0) (qa_cons (qv 1) qa_nil)))))))), ?_⟩
  have hsame := h.same
  obtain ⟨dx, R, P, ys, h⟩ := h
  have noL : ∀ {R P : Addr} {nm : List Nat}, (fl R P nm).lookup ("leave" : Str) = none := fl_no (by decide +kernel) (by decide +kernel) (by decide +kernel)
  rcases hc with ⟨st2, pl2, t, hc, q⟩ | ⟨c, pl2, rfl, hb, hn, qe⟩
  rotate_left
  · refine ⟨_, rfl, o, C, dx, _, _, rfl, h.ob, cC, nP, fl_places, 1, rfl, P, _, _, _, rfl, rfl, SqL.of h.at_, (by rw [plV_cons]; exact at_last), rfl, _, rfl, ?_⟩
    refine iteFb (by rw [dec_txs _ bodyC tx_body]; exact decide_eq_false hb) ?_
    refine ⟨_, rfl, o, C, dx, _, _, rfl, h.ob, cC, nP, fl_places, 1, rfl, P, _, _, _, rfl, rfl, SqL.of h.at_, (by rw [plV_cons]; exact at_last), rfl, _, rfl, ?_⟩
    refine iteTb (by rw [dec_txs _ noC tx_no, decide_eq_false hn]; rfl) (qe _ hsame)
  rcases hc with ⟨r, rfl, rfl, rfl, hb⟩ | ⟨n, y, rfl, rfl, rfl, hn, hy⟩
  · refine ⟨_, rfl, o, C, dx, _, _, rfl, h.ob, cC, nP, fl_places, 1, rfl, P, _, _, _, rfl, rfl, SqL.of h.at_, (by rw [plV_cons]; exact at_last), rfl, _, rfl, ?_⟩
    rw [decide_eq_true (congrArg V.str tx_body.symm)]
    refine iteT ⟨_, rfl, o, dx, _, rfl, h.ob, noL, o, bodyC, H₀, r, st2, pl2, nm, rfl, ⟨dx, R, P, ys, h⟩, fun y H' k1 h1 t1 => ⟨y, .node r, rfl, t1, hb.1, hb.2, fun z H2 S2 t2 => q _ _ (k1.trans (.of S2)) (h1.grow S2) t2⟩⟩
  · refine ⟨_, rfl, o, C, dx, _, _, rfl, h.ob, cC, nP, fl_places, 1, rfl, P, _, _, _, rfl, rfl, SqL.of h.at_, (by rw [plV_cons]; exact at_last), rfl, _, rfl, ?_⟩
    rw [decide_eq_false (fun z => absurd (tx_inj.mp ((V.str.inj z).trans tx_body)) (by decide))]
    refine iteF ?_
    refine ⟨_, rfl, o, C, dx, _, _, rfl, h.ob, cC, nP, fl_places, 1, rfl, P, _, _, _, rfl, rfl, SqL.of h.at_, (by rw [plV_cons]; exact at_last), rfl, _, rfl, ?_⟩
    rw [decide_eq_true (congrArg V.str tx_no.symm)]
    refine iteF ?_
    refine ⟨_, rfl, o, dx, _, rfl, h.ob, noL, o, noC, H₀, n, y :: st2, yesC :: pl2, nm, rfl, ⟨dx, R, P, ys, h⟩, fun vn H1 k1 h1 t1 => ?_⟩
    obtain ⟨dx1, R1, P1, ys1, h1⟩ := h1
    refine ⟨_, rfl, o, dx1, _, rfl, h1.ob, noL, o, yesC, H₀, y, st2, pl2, nm, rfl, ⟨dx1, R1, P1, ys1, h1⟩, fun vy H2 k2 h2 t2 => ⟨_, rfl, vy, .node y, vn, .node n, rfl, t2, t1.mono k2, ⟨hy.1, hy.2⟩, ⟨hn.1, hn.2⟩, fun z H3 S3 t3 => q _ _ (k1.trans (k2.trans (.of S3))) (h2.grow S3) t3⟩⟩
theorem ok_whole {C : Addr} (cC : Cls K C) (nR : NoAttr K C "rows") (nP : NoAttr K C "places") (nN : NoAttr K C "named") {cX : Addr} (x_NoText : PySem.W.excIn K cX bmV "ValueError.__new__" = true) (m_NoText : mg "NoText" = some (.ref cX)) (m_len : mg "len" = none) (m_tuple : mg "tuple" = none) 
    (F : Fun K "whole" "Reading.whole" s_whole f fd) : FnOk P w K mg base (CXE P w) 31 f fd ["self"] (spWholeX K C cX) := by
  refine okXQ F sc_whole (fun vs H Q E h => ?_) (fun cdv A outer s H vs Q E hr h => ?_)
  · obtain ⟨o, H₀, st, pl, nm, rfl, _⟩ := h
    rfl
  obtain ⟨o, H₀, st, pl, nm, rfl, h, q, qe⟩ := h
  refine ⟨_, (qss_cons (qs_if (QW.pt (qw_or (qt_cmpR op_ne (qe_fld (qv 0) rfl) qe_str (nomark _)) (qw_or1 (qt_cmpR op_ne (qe_callB call_len_seq rfl m_len bt_len (qa_cons (qe_fld (qv 0) rfl) qa_nil)) qe_int (nomark _))))) (qss_one (qs_raise PySem.F.excBase_ValueError x_NoText rfl m_NoText)) qss_nil)
      (qss_one (qs_ret (qe_callTy call_tuple_of rfl m_tuple bt_tuple (qa_cons (qe_ix ix_list (qe_fld (qv 0) rfl) qe_int (fun _ _ => rfl)) qa_nil))))), ?_⟩
  have hsame := h.same
  obtain ⟨dx, R, P, ys, h⟩ := h
  have hyl : ys.length = st.length := by rw [h.rows.rows.length, List.length_reverse]
  refine ⟨_, rfl, o, C, dx, _, _, rfl, h.ob, cC, nN, fl_named, rfl, _, rfl, ?_⟩
  rw [dec_txs _ [] tx_nil]
  by_cases hnm : nm = []
  rotate_left
  · exact iteTb (by rw [decide_eq_false hnm]; rfl) (qe (.inl hnm) _ hsame)
  refine iteFb (by rw [decide_eq_true hnm]; rfl) ⟨_, rfl, o, C, dx, _, _, rfl, h.ob, cC, nR, fl_rows, R, _, rfl, .inl (SqL.of h.rows.at_), rfl, _, rfl, ?_⟩
  by_cases hl1 : st.length = 1
  rotate_left
  · exact iteTb (by rw [decide_eq_false (fun z => hl1 (by have := V.int.inj z; omega))]; rfl) (qe (.inr hl1) _ hsame)
  refine iteFb (by rw [hyl, hl1]; rfl) ?_
  obtain ⟨r, rfl⟩ : ∃ r, st = [r] := by
    match st, hl1 with
    | [r], _ => exact ⟨r, rfl⟩
  obtain ⟨ys0, a, xs, rfl, nRa, ha, hr, _⟩ := h.shut
  have e0 : ys0 = [] := List.length_eq_zero_iff.mp (by have h5 : (ys0 ++ [V.ref a]).length = 1 := hyl; rw [List.length_append] at h5; have h5 : ys0.length + 1 = 1 := h5; omega)
  subst e0
  refine ⟨_, rfl, o, C, dx, _, _, rfl, h.ob, cC, nR, fl_rows, R, _, 0, _, rfl, rfl, SqL.of h.rows.at_, atI_nat (j := 0) rfl, a, xs, rfl, .inl ⟨SqL.of ha, fun l gl => q r rfl hnm _ _ (h.rows.same.trans (same_new gl _)) (TR_mk (SqT.of upd_same) (hr.mono (Kt.new gl)))⟩⟩
theorem ok_pieces_of 
    (F : Fun K "pieces_of" "pieces_of" s_pieces_of f fd) : FnOk P w K mg base CX0 31 f fd ["signs"] (spPiecesX K) := by
  refine okQ F sc_pieces_of (fun vs H Q E h => ?_) (fun cdv A outer s H vs Q E hr h => ?_)
  · obtain ⟨ps, rfl, _⟩ := h
    rfl
  obtain ⟨ps, rfl, hok, hlen, q⟩ := h
  refine ⟨_, (qss_cons (qs_if (qt_cmpR op_eq (qv 0) qe_str (nomark _)) (qss_one (qs_ret (qe_lst qa_nil))) qss_nil)
      (qss_one (qs_ret (qe_bm PySem.F.plainAttrs_str PySem.F.slot_str_split PySem.F.type_str_split mt_split (qv 0) (qa_cons qe_str qa_nil))))), ?_⟩
  obtain ⟨h32, hne⟩ := hok
  refine ⟨_, rfl, rfl, _, rfl, ?_⟩
  rw [dec_txs _ [] tx_nil]
  refine ite2 (fun e => ?_) (fun e => ?_)
  · have e0 : ps = [] := hne.elim id fun z => absurd (of_decide_eq_true e) z
    subst e0
    exact ⟨Nat.zero_le _, fun D gD => q D gD⟩
  · have hne : ps ≠ [] := fun z => e (by rw [z]; rfl)
    refine ⟨_, rfl, rfl, _, 32, rfl, (by rw [tx_blank]), hlen, fun D ls gD hj hl hc => ?_⟩
    rw [join_uniq hl hne hc h32 hj]
    exact q D gD
theorem ok_tree_of {cT : Addr} {cX : Addr} (m_NoTree : mg "NoTree" = some (.ref cT)) (t1_NoTree : PySem.W.typeIn K (.ref cT) = some (.type "type")) (t2_NoTree : PySem.W.subIn K (.ref cT) (.type "BaseException") = some true) (t3_NoTree : ∃ cd, PySem.W.clsIn K cT = some cd) (sTT : PySem.W.subIn K (.ref cT) (.ref cT) = some true) (k_NoText : PySem.W.keepIn K (.ref cX) = true) (x_NoText : PySem.W.excIn K cX bmV "ValueError.__new__" = true) (m_NoText : mg "NoText" = some (.ref cX)) 
    {a_read_tree : Addr} {d_read_tree : FuncData} (F_read_tree : Fun K "read_tree" "read_tree" s_read_tree a_read_tree d_read_tree) (G_read_tree : FnOk P w K mg base (CXC P w) 32 a_read_tree d_read_tree ["text"] (spReadTree K cT)) (b_read_tree : Binds K d_read_tree ["text"] []) (m_read_tree : mg "read_tree" = some (.ref a_read_tree))
    (F : Fun K "tree_of" "tree_of" s_tree_of f fd) : FnOk P w K mg base (CXE P w) 33 f fd ["signs"] (spTreeOfX K cX) := by
  refine okXQ F sc_tree_of (fun vs H Q E h => ?_) (fun cdv A outer s H vs Q E hr h => ?_)
  · obtain ⟨l, rfl, _⟩ := h
    rfl
  obtain ⟨l, rfl, hz, q, qe⟩ := h
  refine ⟨_, (qss_one (qs_tryTurn (fun EE hP => (qss_one (qs_ret (qe_call G_read_tree hr rfl m_read_tree F_read_tree.kp b_read_tree .nil hP (qa_cons (qv 0) qa_nil))))) rfl m_NoTree t1_NoTree t2_NoTree t3_NoTree PySem.F.excBase_ValueError x_NoText k_NoText rfl m_NoText)), ?_⟩
  exact ⟨_, rfl, l, rfl, hz, fun t ht y H' S ty => q t ht y H' S ty, fun hn H' S => ⟨cT, rfl, sTT, fun a ha => qe hn _ (S.trans (same_new ha _))⟩⟩
theorem ok_word_of {cX : Addr} (x_NoText : PySem.W.excIn K cX bmV "ValueError.__new__" = true) (m_NoText : mg "NoText" = some (.ref cX)) {a_NAMES : Addr} (m_NAMES : mg "NAMES" = some (.ref a_NAMES)) (q_NAMES : ∀ H, SqT K H a_NAMES [.str (PySem.Str.ofString "lay"), .str (PySem.Str.ofString "drop"), .str (PySem.Str.ofString "twin"), .str (PySem.Str.ofString "swap"), .str (PySem.Str.ofString "front"), .str (PySem.Str.ofString "part"), .str (PySem.Str.ofString "turn"), .str (PySem.Str.ofString "fork"), .str (PySem.Str.ofString "while")]) {u_DROP : Value} (m_DROP : mg "DROP" = some u_DROP) (r_DROP : RelV (.int 1) u_DROP) {u_TURN : Value} (m_TURN : mg "TURN" = some u_TURN) (r_TURN : RelV (.int 6) u_TURN) 
    {a_plain : Addr} {d_plain : FuncData} (F_plain : Fun K "plain" "plain" s_plain a_plain d_plain) (G_plain : FnOk P w K mg base CX0 35 a_plain d_plain ["sort"] (spPlain K)) (b_plain : Binds K d_plain ["sort"] []) (m_plain : mg "plain" = some (.ref a_plain))
    {a_lay : Addr} {d_lay : FuncData} (F_lay : Fun K "lay" "lay" s_lay a_lay d_lay) (G_lay : FnOk P w K mg base CX0 35 a_lay d_lay ["tree"] (spLay K)) (b_lay : Binds K d_lay ["tree"] []) (m_lay : mg "lay" = some (.ref a_lay))
    {a_tree_of : Addr} {d_tree_of : FuncData} (F_tree_of : Fun K "tree_of" "tree_of" s_tree_of a_tree_of d_tree_of) (G_tree_of : FnOk P w K mg base (CXE P w) 35 a_tree_of d_tree_of ["signs"] (spTreeOfX K cX)) (b_tree_of : Binds K d_tree_of ["signs"] []) (m_tree_of : mg "tree_of" = some (.ref a_tree_of))
    {a_odd : Addr} {d_odd : FuncData} (F_odd : Fun K "odd" "odd" s_odd a_odd d_odd) (G_odd : FnOk P w K mg base CX0 35 a_odd d_odd ["word"] (spOdd K)) (b_odd : Binds K d_odd ["word"] []) (m_odd : mg "odd" = some (.ref a_odd))
    (t_NAMES : ∃ ob, K.lookup a_NAMES = some ob ∧ ob.cls = .type "tuple" ∧ ob.dict = none)
    (F : Fun K "word_of" "word_of" s_word_of f fd) : FnOk P w K mg base (CXE P w) 36 f fd ["piece"] (spWofX K cX) := by
  refine okXQ F sc_word_of (fun vs H Q E h => ?_) (fun cdv A outer s H vs Q E hr h => ?_)
  · obtain ⟨p, rfl, _⟩ := h
    rfl
  obtain ⟨p, rfl, hz, hf, q, qe⟩ := h
  refine ⟨_, (qss_cons (qs_if (qt_cmpR op_in_seq (qv 0) (qe_slice sl_tupA (qe_glob (v := .ref a_NAMES) rfl m_NAMES rfl) (qo_some (qe_glob (v := .int 1) rfl m_DROP r_DROP)) (qo_some (qe_op op_add (qe_glob (v := .int 6) rfl m_TURN r_TURN) qe_int))) rfl) (qss_one (qs_ret (qe_call G_plain hr rfl m_plain F_plain.kp b_plain .nil pass0 (qa_cons (qe_bm PySem.F.plainAttrs_tuple PySem.F.slot_tuple_index PySem.F.type_tuple_index mt_index (qe_glob (v := .ref a_NAMES) rfl m_NAMES rfl) (qa_cons (qv 0) qa_nil)) qa_nil)))) qss_nil)
      (qss_cons (qs_if (qt_val (qe_bm PySem.F.plainAttrs_str PySem.F.slot_str_startswith PySem.F.type_str_startswith mt_starts (qv 0) (qa_cons qe_str qa_nil))) (qss_one (qs_ret (qe_call G_lay hr rfl m_lay F_lay.kp b_lay .nil pass0 (qa_cons (qe_call G_tree_of hr rfl m_tree_of F_tree_of.kp b_tree_of .nil passX (qa_cons (qe_slice sl_str (qv 0) (qo_some qe_int) qo_none) qa_nil)) qa_nil)))) qss_nil)
      (qss_cons (qs_if (qt_val (qe_bm PySem.F.plainAttrs_str PySem.F.slot_str_startswith PySem.F.type_str_startswith mt_starts (qv 0) (qa_cons qe_str qa_nil))) (qss_cons (qs_set (i := 1) sc_word_of.nd rfl (Or.inl rfl) (qe_call G_tree_of hr rfl m_tree_of F_tree_of.kp b_tree_of .nil passX (qa_cons (qe_slice sl_str (qv 0) (qo_some qe_int) qo_none) qa_nil)))
      (qss_one (qs_if (qt_val (qe_call G_odd hr rfl m_odd F_odd.kp b_odd .nil pass0 (qa_cons (qv 1) qa_nil))) (qss_one (qs_ret (qv 1))) qss_nil))) qss_nil)
      (qss_one (qs_raise PySem.F.excBase_ValueError x_NoText rfl m_NoText))))), ?_⟩
  have nmq : ∀ H, SqT K H a_NAMES namesV := fun H => by rw [← names_tx]; exact q_NAMES H
  refine ⟨_, rfl, 1, rfl, _, _, rfl, rfl, 7, rfl, a_NAMES, _, rfl, nmq _, fun p1 H1 S1 q1 => ?_⟩
  rw [cut17] at q1
  refine ⟨p1, _, rfl, .inr q1, rfl, rfl, _, rfl, ?_⟩
  rw [show (if false = true then !inV (.str (tx p)) sixV else inV (.str (tx p)) sixV) = [1, 2, 3, 4, 5, 6].any fun k => decide (nmC k = p) from in_six p, six_any]
  by_cases h6 : sixK p ≠ 0
  · refine iteTb (decide_eq_true h6) ?_
    have e6 := sixK_of h6
    have hle := sixK_le p
    have q := q _ (wordP_plain h6)
    obtain ⟨f1, f2⟩ := nm_first (k := sixK p) (by omega)
    refine ⟨.inr (.inl ⟨rfl, t_NAMES⟩), _, rfl, a_NAMES, _, p, sixK p, rfl, rfl, (by rw [← names_map]; exact nmq _), (by rw [f1, ← e6]), (fun m hm z => f2 m hm (by rw [z, ← e6])), sixK p, rfl, by omega, by omega, fun y H2 S2 t2 => q _ _ (S1.trans S2) t2⟩
  refine iteFb (decide_eq_false h6) ?_
  have h0 : sixK p = 0 := Decidable.not_not.mp h6
  cases p with
  | nil =>
    have e := wordP_no (p := []) h0 (by decide) (by decide)
    refine ⟨_, rfl, rfl, [], 39, rfl, (by rw [tx_tick]), _, rfl, iteFb rfl ?_⟩
    exact ⟨_, rfl, rfl, [], 33, rfl, (by rw [tx_bang]), _, rfl, iteFb rfl (qe e _ S1)⟩
  | cons c l =>
    rw [List.length_cons] at hz
    by_cases c39 : c = 39
    · subst c39
      rw [wordP_lay] at q qe
      refine ⟨_, rfl, rfl, _, 39, rfl, (by rw [tx_tick]), _, rfl, iteTb rfl ?_⟩
      refine ⟨_, rfl, 1, rfl, _, rfl, small (by rw [List.length_cons]; omega), l, (by rw [cut_tail]; rfl), by omega, fun t ht y H2 S2 t2 => ?_, fun hn H2 S2 => qe (by rw [hn]; rfl) _ (S1.trans S2)⟩
      have hd := hf 39 l t rfl ht
      have hp : t.parts ≤ 90000 := by have := T.wr_len t; rw [T.rd_wr_eq (treeP_rd ht)] at this; omega
      exact ⟨y, t, rfl, t2, by omega, by omega, fun z H3 S3 t3 => q _ (by rw [ht]; rfl) _ _ (S1.trans (S2.trans S3)) t3⟩
    · have e1 : (c :: l).head? ≠ some 39 := by simpa using c39
      refine ⟨_, rfl, rfl, _, 39, rfl, (by rw [tx_tick]), _, rfl, iteFb (by simpa using c39) ?_⟩
      by_cases c33 : c = 33
      · subst c33
        rw [wordP_bang] at q qe
        refine ⟨_, rfl, rfl, _, 33, rfl, (by rw [tx_bang]), _, rfl, iteTb rfl ?_⟩
        refine ⟨_, rfl, 1, rfl, _, rfl, small (by rw [List.length_cons]; omega), l, (by rw [cut_tail]; rfl), by omega, fun t ht y H2 S2 t2 => ?_, fun hn H2 S2 => qe (by rw [hn]; rfl) _ (S1.trans S2)⟩
        have hd := hf 33 l t rfl ht
        have hp : t.parts ≤ 90000 := by have := T.wr_len t; rw [T.rd_wr_eq (treeP_rd ht)] at this; omega
        refine ⟨_, rfl, y, t, rfl, t2, ⟨by omega, by omega⟩, fun H3 S3 => ⟨_, rfl, ite2 (fun ho => ?_) (fun ho => ?_)⟩⟩
        · exact ⟨_, rfl, q t (by rw [ht, Option.bind_some, if_pos ho]) _ _ (S1.trans (S2.trans S3)) (t2.mono (.of S3))⟩
        · exact qe (by rw [ht, Option.bind_some, if_neg ho]) _ (S1.trans (S2.trans S3))
      · have e2 : (c :: l).head? ≠ some 33 := by simpa using c33
        exact ⟨_, rfl, rfl, _, 33, rfl, (by rw [tx_bang]), _, rfl, iteFb (by simpa using c33) (qe (wordP_no h0 e1 e2) _ S1)⟩
end
end Sw24

namespace Sw24
open PySem PySem.Spec PyProof.Rows L2 Sw
section
variable {P : Program} {w : World} {K : PySem.W.Frag} {mg : Str → Option Value} {base : Heap} {f : Addr} {fd : FuncData}

theorem pl_body {n : Nat} {pl : List (List Nat)} (h : Pl n (bodyC :: pl)) : ∃ m, n = m + 2 := by
  generalize hq : bodyC :: pl = q at h
  cases h with
  | text => exact absurd (List.cons.inj hq).1 (by decide)
  | @body m _ z => have := z.pos; exact ⟨m - 1, by omega⟩
  | yes z => exact absurd (List.cons.inj hq).1 (by decide)
  | no z => exact absurd (List.cons.inj hq).1 (by decide)
theorem pl_no {n : Nat} {pl : List (List Nat)} (h : Pl n (noC :: pl)) : ∃ m pl', n = m + 3 ∧ pl = yesC :: pl' := by
  generalize hq : noC :: pl = q at h
  cases h with
  | text => exact absurd (List.cons.inj hq).1 (by decide)
  | body z => exact absurd (List.cons.inj hq).1 (by decide)
  | yes z => exact absurd (List.cons.inj hq).1 (by decide)
  | @no m pl' z => have := z.pos; exact ⟨m - 1, pl', by omega, (List.cons.inj hq).2⟩
theorem pl_ne {n : Nat} {pl : List (List Nat)} (h : Pl n pl) : pl ≠ [] := by cases h <;> simp
theorem stpF_word {st : List (List T)} {pl : List (List Nat)} {p : List Nat} (c1 : p ≠ [91]) (c3 : ¬ (p = nmC 7 ∨ p = nmC 8)) (c4 : p ≠ [124]) (c5 : p ≠ [93]) : stpF ⟨st, pl, []⟩ p = addF (wordP p) st pl := by
  unfold stpF
  rw [if_neg c1, if_neg (fun z => z rfl), if_neg c3, if_neg c4, if_neg c5]
theorem stpF_shut {st : List (List T)} {pl : List (List Nat)} : stpF ⟨st, pl, []⟩ [93] = shutR st pl := by
  unfold stpF
  rw [if_neg (by decide), if_neg (fun z => z rfl), if_neg (by decide), if_neg (by decide), if_pos rfl]
theorem stpF_bar {st : List (List T)} {pl : List (List Nat)} {c : List Nat} (h : c ≠ yesC) : stpF ⟨st, c :: pl, []⟩ [124] = none := by
  unfold stpF
  rw [if_neg (by decide), if_neg (fun z => z rfl), if_neg (by decide), if_pos rfl]
  exact if_neg (fun z => h (Option.some.inj z))
theorem word_bar : wordP [124] = none := by decide +kernel
theorem ok_take {C : Addr} (cC : Cls K C) (nR : NoAttr K C "rows") (nP : NoAttr K C "places") (nN : NoAttr K C "named") {cX : Addr} (x_NoText : PySem.W.excIn K cX bmV "ValueError.__new__" = true) (m_NoText : mg "NoText" = some (.ref cX)) {a_NAMES : Addr} (m_NAMES : mg "NAMES" = some (.ref a_NAMES)) (q_NAMES : ∀ H, SqT K H a_NAMES [.str (PySem.Str.ofString "lay"), .str (PySem.Str.ofString "drop"), .str (PySem.Str.ofString "twin"), .str (PySem.Str.ofString "swap"), .str (PySem.Str.ofString "front"), .str (PySem.Str.ofString "part"), .str (PySem.Str.ofString "turn"), .str (PySem.Str.ofString "fork"), .str (PySem.Str.ofString "while")]) {u_FORK : Value} (m_FORK : mg "FORK" = some u_FORK) (r_FORK : RelV (.int 7) u_FORK) {u_WHILE : Value} (m_WHILE : mg "WHILE" = some u_WHILE) (r_WHILE : RelV (.int 8) u_WHILE) 
    {a_word_of : Addr} {d_word_of : FuncData} (F_word_of : Fun K "word_of" "word_of" s_word_of a_word_of d_word_of) (G_word_of : FnOk P w K mg base (CXE P w) 41 a_word_of d_word_of ["piece"] (spWofX K cX)) (b_word_of : Binds K d_word_of ["piece"] []) (m_word_of : mg "word_of" = some (.ref a_word_of))
    {a_enter : Addr} {d_enter : FuncData} (M_enter : Meth K C "enter" a_enter) (G_enter : FnOk P w K mg base CX0 41 a_enter d_enter ["self", "place"] (spEnter K C)) (b_enter : Binds K d_enter ["self", "place"] [])
    {a_add_word : Addr} {d_add_word : FuncData} (M_add_word : Meth K C "add_word" a_add_word) (G_add_word : FnOk P w K mg base CX0 41 a_add_word d_add_word ["self", "word"] (spAddW K C)) (b_add_word : Binds K d_add_word ["self", "word"] [])
    {a_bracketed : Addr} {d_bracketed : FuncData} (M_bracketed : Meth K C "bracketed" a_bracketed) (G_bracketed : FnOk P w K mg base (CXE P w) 41 a_bracketed d_bracketed ["self"] (spBrackX K C cX)) (b_bracketed : Binds K d_bracketed ["self"] [])
    (F : Fun K "take" "Reading.take" s_take f fd) : FnOk P w K mg base (CXE P w) 42 f fd ["self", "piece"] (spTakeX K C cX) := by
  refine okXQ F sc_take (fun vs H Q E h => ?_) (fun cdv A outer s H vs Q E hr h => ?_)
  · obtain ⟨o, p, H₀, sa, rfl, _⟩ := h
    rfl
  obtain ⟨o, p, H₀, sa, rfl, h, wf, za, hz, hf, q, qe⟩ := h
  refine ⟨_, (qss_cons (qs_if (qt_cmpR op_ne (qe_cmpR op_eq (qv 1) qe_str (nomark _)) (qe_cmpR op_ne (qe_fld (qv 0) rfl) qe_str (nomark _)) (nomark _)) (qss_one (qs_raise PySem.F.excBase_ValueError x_NoText rfl m_NoText)) qss_nil)
      (qss_one (qs_if (qt_cmpR op_eq (qv 1) qe_str (nomark _)) (qss_cons (qs_expr (qe_meth (qv 0) cC M_enter G_enter hr b_enter .nil pass0 (qa_cons (qe_ifExp (qt_cmpR op_eq (qe_fld (qv 0) rfl) (qe_ix ix_tup (qe_glob (v := .ref a_NAMES) rfl m_NAMES rfl) (qe_glob (v := .int 7) rfl m_FORK r_FORK) (fun _ _ => rfl)) (nomark _)) qe_str qe_str) qa_nil)))
      (qss_one (qs_fld (qv 0) qe_str rfl))) (qss_one (qs_if (qt_cmpR op_in_seq (qv 1) (qe_tup (qa_cons (qe_ix ix_tup (qe_glob (v := .ref a_NAMES) rfl m_NAMES rfl) (qe_glob (v := .int 7) rfl m_FORK r_FORK) (fun _ _ => rfl)) (qa_cons (qe_ix ix_tup (qe_glob (v := .ref a_NAMES) rfl m_NAMES rfl) (qe_glob (v := .int 8) rfl m_WHILE r_WHILE) (fun _ _ => rfl)) qa_nil))) rfl) (qss_one (qs_fld (qv 0) (qv 1) rfl)) (qss_one (qs_if (QW.pt (qw_and (qt_cmpR op_eq (qv 1) qe_str (nomark _)) (qw_and1 (qt_cmpR op_eq (qe_ix ix_list (qe_fld (qv 0) rfl) (qe_un un_neg qe_int) (fun _ _ => rfl)) qe_str (nomark _))))) (qss_one (qs_expr (qe_meth (qv 0) cC M_enter G_enter hr b_enter .nil pass0 (qa_cons qe_str qa_nil)))) (qss_one (qs_if (qt_cmpR op_eq (qv 1) qe_str (nomark _)) (qss_one (qs_expr (qe_meth (qv 0) cC M_add_word G_add_word hr b_add_word .nil pass0 (qa_cons (qe_meth0 (qv 0) cC M_bracketed G_bracketed hr b_bracketed .nil passX) qa_nil)))) (qss_one (qs_expr (qe_meth (qv 0) cC M_add_word G_add_word hr b_add_word .nil pass0 (qa_cons (qe_call G_word_of hr rfl m_word_of F_word_of.kp b_word_of .nil passX (qa_cons (qv 1) qa_nil)) qa_nil))))))))))))), ?_⟩
  have nmq : ∀ H, SqT K H a_NAMES namesV := fun H => by rw [← names_tx]; exact q_NAMES H
  have noE : ∀ {R P : Addr} {nm : List Nat}, (fl R P nm).lookup ("enter" : Str) = none := fl_no (by decide +kernel) (by decide +kernel) (by decide +kernel)
  have noA : ∀ {R P : Addr} {nm : List Nat}, (fl R P nm).lookup ("add_word" : Str) = none := fl_no (by decide +kernel) (by decide +kernel) (by decide +kernel)
  have noB : ∀ {R P : Addr} {nm : List Nat}, (fl R P nm).lookup ("bracketed" : Str) = none := fl_no (by decide +kernel) (by decide +kernel) (by decide +kernel)
  have hsame := h.same
  obtain ⟨dx, R, P, ys, h⟩ := h
  obtain ⟨st, pl, nm⟩ := sa
  obtain ⟨w1, w2⟩ := wf
  dsimp only at h w1 w2
  refine ⟨_, rfl, rfl, _, rfl, o, C, dx, _, _, rfl, h.ob, cC, nN, fl_named, rfl, rfl, _, rfl, ?_⟩
  rw [dec_txs _ [91] tx_lb, dec_txs _ [] tx_nil]
  by_cases c1 : p = [91]
  · subst c1
    rcases w2 with z | z | z
    · subst z
      refine iteTb (by decide) (qe ?_ _ hsame)
      unfold stpF
      rw [if_pos rfl, if_neg (show ¬ ([] : List Nat) = nmC 7 by decide), if_neg (show ¬ ([] : List Nat) = nmC 8 by decide)]
    · subst z
      refine iteFb (by decide) ?_
      refine ⟨_, rfl, rfl, _, rfl, ?_⟩
      rw [dec_txs _ [91] tx_lb]
      refine iteTb (by decide) ?_
      refine ⟨_, rfl, o, dx, _, rfl, h.ob, noE, _, rfl, o, C, dx, _, _, rfl, h.ob, cC, nN, fl_named, a_NAMES, _, 7, _, rfl, rfl, nmq _, name_at (k := 7) (by decide), rfl, _, rfl, ?_⟩
      rw [dec_txs _ (nmC 7) rfl]
      refine iteTb (by decide) ⟨o, yesC, H₀, st, pl, _, (by show [V.ref o, V.str (PySem.Str.ofString "yes")] = _; rw [tx_yes]), ⟨dx, R, P, ys, h⟩, za.st, za.pl, fun H1 k1 h1 => ?_⟩
      obtain ⟨dx1, R1, P1, ys1, h1⟩ := h1
      refine ⟨_, rfl, o, C, dx1, _, rfl, h1.ob, cC, nN, fl_len, ?_⟩
      exact q _ _ (stp_stpF .openF) (k1.trans (Kt.ins h1.ob)) ⟨dx1, R1, P1, ys1, by rw [tx_nil, fl_put]; exact h1.name []⟩
    · subst z
      refine iteFb (by decide) ?_
      refine ⟨_, rfl, rfl, _, rfl, ?_⟩
      rw [dec_txs _ [91] tx_lb]
      refine iteTb (by decide) ?_
      refine ⟨_, rfl, o, dx, _, rfl, h.ob, noE, _, rfl, o, C, dx, _, _, rfl, h.ob, cC, nN, fl_named, a_NAMES, _, 7, _, rfl, rfl, nmq _, name_at (k := 7) (by decide), rfl, _, rfl, ?_⟩
      rw [dec_txs _ (nmC 7) rfl]
      refine iteFb (by decide) ⟨o, bodyC, H₀, st, pl, _, (by show [V.ref o, V.str (PySem.Str.ofString "body")] = _; rw [tx_body]), ⟨dx, R, P, ys, h⟩, za.st, za.pl, fun H1 k1 h1 => ?_⟩
      obtain ⟨dx1, R1, P1, ys1, h1⟩ := h1
      refine ⟨_, rfl, o, C, dx1, _, rfl, h1.ob, cC, nN, fl_len, ?_⟩
      exact q _ _ (stp_stpF .openW) (k1.trans (Kt.ins h1.ob)) ⟨dx1, R1, P1, ys1, by rw [tx_nil, fl_put]; exact h1.name []⟩

  by_cases c2 : nm = []
  rotate_left
  · refine iteTb (by rw [decide_eq_false c1, decide_eq_false c2]; decide) (qe ?_ _ hsame)
    unfold stpF
    rw [if_neg c1, if_pos c2]
  subst c2
  refine iteFb (by rw [decide_eq_false c1]; decide) ?_
  refine ⟨_, rfl, rfl, _, rfl, ?_⟩
  rw [dec_txs _ [91] tx_lb]
  refine iteFb (decide_eq_false c1) ?_
  refine ⟨_, rfl, a_NAMES, _, 7, _, rfl, rfl, nmq _, name_at (k := 7) (by decide), a_NAMES, _, 8, _, rfl, rfl, nmq _, name_at (k := 8) (by decide), (by show 2 ≤ sizeLine; decide), fun q1 g1 => ⟨q1, _, rfl, .inr (SqT.of upd_same), rfl, rfl, _, rfl, ?_⟩⟩
  rw [show (if false = true then !inV (.str (tx p)) [.str (tx (nmC 7)), .str (tx (nmC 8))] else inV (.str (tx p)) [.str (tx (nmC 7)), .str (tx (nmC 8))]) = (decide (nmC 7 = p) || decide (nmC 8 = p)) from in_two _ _ _]
  have S1 := same_new g1 (.tup [.str (tx (nmC 7)), .str (tx (nmC 8))])
  have h' := h.grow S1
  have hsame1 := hsame.trans S1
  by_cases c3 : p = nmC 7 ∨ p = nmC 8
  · refine iteTb (by rcases c3 with rfl | rfl <;> decide) ?_
    refine ⟨_, rfl, _, rfl, o, C, dx, _, rfl, h'.ob, cC, nN, fl_len, ?_⟩
    refine q ⟨st, pl, p⟩ _ ?_ ((Kt.of S1).trans (Kt.ins h'.ob)) ⟨dx, R, P, ys, by rw [fl_put]; exact h'.name _⟩
    unfold stpF
    rw [if_neg c1, if_neg (fun z => z rfl), if_pos c3]
  refine iteFb (by rw [decide_eq_false (fun z => c3 (.inl z.symm)), decide_eq_false (fun z => c3 (.inr z.symm))]; rfl) ?_
  refine ⟨_, rfl, rfl, _, rfl, ?_⟩
  rw [dec_txs _ [124] tx_bar]
  obtain ⟨s', st', est⟩ : ∃ s' st', st = s' :: st' := by
    cases st with
    | nil => have := w1.pos; exact absurd this (by decide)
    | cons a b => exact ⟨a, b, rfl⟩
  obtain ⟨c, pl', epl⟩ : ∃ c pl', pl = c :: pl' := by
    cases pl with
    | nil => exact absurd rfl (pl_ne w1)
    | cons a b => exact ⟨a, b, rfl⟩
  by_cases c4 : p = [124]
  · subst c4
    subst epl
    refine iteTb (by decide) ⟨_, rfl, o, C, dx, _, _, rfl, h'.ob, cC, nP, fl_places, 1, rfl, P, _, _, _, rfl, rfl, SqL.of h'.at_, (by rw [plV_cons]; exact at_last), rfl, _, rfl, ?_⟩
    rw [dec_txs _ yesC tx_yes]
    by_cases cy : c = yesC
    · subst cy
      refine iteTb (by decide) ?_
      exact ⟨_, rfl, o, dx, _, rfl, h'.ob, noE, o, noC, H₀, st, yesC :: pl', _, (by show [V.ref o, V.str (PySem.Str.ofString "no")] = _; rw [tx_no]), ⟨dx, R, P, ys, h'⟩, za.st, za.pl, fun H1 k1 h1 => q _ _ (stp_stpF .bar) ((Kt.of S1).trans k1) h1⟩
    · refine iteFb (decide_eq_false cy) ?_
      refine ⟨_, rfl, rfl, _, rfl, ?_⟩
      rw [dec_txs _ [93] tx_rb]
      refine iteFb (by decide) ?_
      exact ⟨_, rfl, o, dx, _, rfl, h'.ob, noA, _, rfl, [124], rfl, hz, hf, fun w hw => absurd (word_bar.symm.trans hw) (by simp), fun _ H2 S2 => qe (stpF_bar cy) _ (hsame1.trans S2)⟩
  refine iteFb (decide_eq_false c4) (iteF ?_)
  refine ⟨_, rfl, rfl, _, rfl, ?_⟩
  rw [dec_txs _ [93] tx_rb]
  by_cases c5 : p = [93]
  · subst c5
    rw [stpF_shut] at q qe
    refine iteTb (by decide) ?_
    refine ⟨_, rfl, o, dx, _, rfl, h'.ob, noA, _, rfl, o, dx, _, rfl, h'.ob, noB, o, H₀, st, pl, [], rfl, ⟨dx, R, P, ys, h'⟩, ?_⟩
    by_cases cb : c = bodyC
    · subst cb
      subst epl
      obtain ⟨m, em⟩ := pl_body w1
      match st, em with
      | r :: u :: st2, _ =>
        exact .inl ⟨u :: st2, pl', loopW r, .inl ⟨r, rfl, rfl, rfl, (za.each r List.mem_cons_self).le (by omega) (by omega)⟩, fun x H2 k2 h2 t2 => ⟨o, x, _, H₀, u, st2, pl', [], rfl, t2, h2, (by have := (za.each u (by simp)).len; omega), fun H3 k3 h3 => q ⟨(u ++ [loopW r]) :: st2, pl', []⟩ _ (by unfold shutR; exact if_pos rfl) ((Kt.of S1).trans (k2.trans k3)) h3⟩⟩
    · by_cases cn : c = noC
      · subst cn
        subst epl
        obtain ⟨m, pl2, em, rfl⟩ := pl_no w1
        match st, em with
        | r :: y :: u :: st2, _ =>
          exact .inl ⟨u :: st2, pl2, forkW y r, .inr ⟨r, y, rfl, rfl, rfl, (za.each r List.mem_cons_self).le (by omega) (by omega), (za.each y (by simp)).le (by omega) (by omega)⟩, fun x H2 k2 h2 t2 => ⟨o, x, _, H₀, u, st2, pl2, [], rfl, t2, h2, (by have := (za.each u (by simp)).len; omega), fun H3 k3 h3 => q ⟨(u ++ [forkW y r]) :: st2, pl2, []⟩ _ (by unfold shutR; dsimp only; rw [if_neg (by decide), if_pos rfl]; rfl) ((Kt.of S1).trans (k2.trans k3)) h3⟩⟩
      · refine .inr ⟨c, pl', epl, cb, cn, fun H2 S2 => qe ?_ _ S2⟩
        rw [epl]
        unfold shutR
        match st with
        | [] => rfl
        | [_] => rfl
        | r :: u :: st2 => dsimp only; rw [if_neg cb, if_neg cn]
  refine iteFb (decide_eq_false c5) ?_
  rw [stpF_word c1 c3 c4 c5] at q qe
  subst est
  exact ⟨_, rfl, o, dx, _, rfl, h'.ob, noA, _, rfl, p, rfl, hz, hf, fun w hw x H2 S2 t2 => ⟨o, x, w, H₀, s', st', pl, [], rfl, t2, ⟨dx, R, P, ys, h'.grow S2⟩, (by have := (za.each s' List.mem_cons_self).len; omega), fun H3 k3 h3 => q ⟨(s' ++ [w]) :: st', pl, []⟩ _ (by rw [hw]; rfl) ((Kt.of (S1.trans S2)).trans k3) h3⟩, fun hn H2 S2 => qe (by rw [hn]; rfl) _ (hsame1.trans S2)⟩
theorem ok_read {C : Addr} (cC : Cls K C) (nR : NoAttr K C "rows") (nP : NoAttr K C "places") (nN : NoAttr K C "named") {cX : Addr} (x_NoText : PySem.W.excIn K cX bmV "ValueError.__new__" = true) (m_NoText : mg "NoText" = some (.ref cX)) (m_isinstance : mg "isinstance" = none) (m_str : mg "str" = none) 
    {a_pieces_of : Addr} {d_pieces_of : FuncData} (F_pieces_of : Fun K "pieces_of" "pieces_of" s_pieces_of a_pieces_of d_pieces_of) (G_pieces_of : FnOk P w K mg base CX0 44 a_pieces_of d_pieces_of ["signs"] (spPiecesX K)) (b_pieces_of : Binds K d_pieces_of ["signs"] []) (m_pieces_of : mg "pieces_of" = some (.ref a_pieces_of))
    {a___init__ : Addr} {d___init__ : FuncData} (MK : Mk K C a___init__) (G___init__ : FnOk P w K mg base CX0 43 a___init__ d___init__ ["self"] (spInit K C)) (b___init__ : Binds K d___init__ ["self"] []) (m_Reading : mg "Reading" = some (.ref C))
    {a_take : Addr} {d_take : FuncData} (M_take : Meth K C "take" a_take) (G_take : FnOk P w K mg base (CXE P w) 44 a_take d_take ["self", "piece"] (spTakeX K C cX)) (b_take : Binds K d_take ["self", "piece"] [])
    {a_whole : Addr} {d_whole : FuncData} (M_whole : Meth K C "whole" a_whole) (G_whole : FnOk P w K mg base (CXE P w) 44 a_whole d_whole ["self"] (spWholeX K C cX)) (b_whole : Binds K d_whole ["self"] [])
    (F : Fun K "read" "read" s_read f fd) : FnOk P w K mg base (CXE P w) 45 f fd ["signs"] (spReadAny K cX) := by
  refine okXQ F sc_read (fun vs H Q E h => ?_) (fun cdv A outer s H vs Q E hr h => ?_)
  · obtain ⟨x, rfl, _⟩ := h
    rfl
  obtain ⟨x, rfl, hx⟩ := h
  refine ⟨_, (qss_cons (qs_if (qt_not (qt_val (qe_callB call_isinst rfl m_isinstance bt_isinstance (qa_cons (qv 0) (qa_cons (qe_bltn (v := .ty "str") rfl m_str bt_str rfl) qa_nil))))) (qss_one (qs_raise PySem.F.excBase_ValueError x_NoText rfl m_NoText)) qss_nil)
      (qss_cons (qs_set (i := 1) sc_read.nd rfl (Or.inl rfl) (qe_make0 MK G___init__ hr rfl m_Reading b___init__ .nil pass0))
      (qss_cons (qs_for PassesOwn.leaving rfl (qi_list (qe_call G_pieces_of hr rfl m_pieces_of F_pieces_of.kp b_pieces_of .nil pass0 (qa_cons (qv 0) qa_nil))) (qg_name (i := 2) sc_read.nd rfl (Or.inl rfl)) (qss_one (qs_expr (qe_meth (qv 1) cC M_take G_take hr b_take .nil passX (qa_cons (qv 2) qa_nil)))))
      (qss_one (qs_ret (qe_meth0 (qv 1) cC M_whole G_whole hr b_whole .nil passX)))))), ?_⟩
  rcases hx with ⟨ps, rfl, hrow, q, qe⟩ | ⟨⟨ty, hty, hk⟩, qe⟩
  rotate_left
  · exact ⟨_, rfl, x, "str", ty, false, rfl, hty, hk, _, rfl, iteT qe⟩
  obtain ⟨hrp, hfl, hlen, hsh⟩ := hrow
  have hjl : (joinL [32] ps).length ≤ 8000000 := by
    have h1 := joinL_len [32] ps
    have h2 : ∀ l : List (List Nat), l.flatten.length + l.length ≤ lenP l := by
      intro l
      induction l with
      | nil => exact Nat.zero_le _
      | cons p l ih => rw [List.flatten_cons, List.length_append, List.length_cons, lenP]; omega
    have h3 := h2 ps
    simp only [List.length_singleton, Nat.mul_one] at h1
    omega
  have noT : ∀ {R P : Addr} {nm : List Nat}, (fl R P nm).lookup ("take" : Str) = none := fl_no (by decide +kernel) (by decide +kernel) (by decide +kernel)
  have noW : ∀ {R P : Addr} {nm : List Nat}, (fl R P nm).lookup ("whole" : Str) = none := fl_no (by decide +kernel) (by decide +kernel) (by decide +kernel)
  refine ⟨_, rfl, .str _, "str", .type "str", true, rfl, TyOf.str _, by rfl, _, rfl, iteF ?_⟩
  refine fun o dx no ndx nex => ⟨o, dx, H, rfl, (same_new ndx _).trans (same_new (by rw [upd_ne (Ne.symm nex)]; exact no) _), no, upd_same, fun H1 k1 h1 => ⟨rfl, ?_⟩⟩
  obtain ⟨dx1, R1, P1, ys1, h1⟩ := h1
  refine ⟨_, rfl, ps, rfl, hrp, hjl, fun D gD => ⟨D, rfl, ⟨_, SqL.of upd_same⟩, ?_⟩⟩
  have hD : H D = none := h1.rows.same.free gD
  refine for_list (xs := ps.map fun p => V.str (tx p)) (fun i σ' H' => ∃ (o2 : Option V) (sa : Rst), σ' = [some (.str (tx (joinL [32] ps))), some (.ref o), o2] ∧ RdAt K C (upd H D (.lst (ps.map fun p => V.str (tx p)))) H' o sa.st sa.pl sa.nm ∧ stF ⟨[[]], [textC], []⟩ (ps.take i) = some sa ∧ WF sa ∧ SzI sa (1 + i) (110 + 2 * Sw.nP [93] (ps.take i)) (lenP (ps.take i))) ?_ ?_ ?_ ?_
  · exact ⟨_, ⟨[[]], [textC], []⟩, rfl, ⟨dx1, R1, P1, ys1, h1.base gD _⟩, rfl, WF.start, SzI.start⟩
  · rintro i σ' H' _ ⟨o2, sa, rfl, h, _⟩
    exact SqL.of (h.same _ _ upd_same)
  · rintro i x σ' H' hx ⟨o2, sa, rfl, h, hst, hwf, hsz⟩
    rw [List.getElem?_map] at hx
    cases hi : ps[i]? with
    | none => rw [hi] at hx; cases hx
    | some p =>
      rw [hi] at hx
      have hx : V.str (tx p) = x := Option.some.inj hx
      subst hx
      have hlt : i < ps.length := (List.getElem?_eq_some_iff.mp hi).1
      have hmem := List.mem_of_getElem? hi
      have et : ps.take (i + 1) = ps.take i ++ [p] := by rw [List.take_add_one, hi]; rfl
      have ed : ps = ps.take (i + 1) ++ ps.drop (i + 1) := (List.take_append_drop _ _).symm
      have l1 : lenP (ps.take i) + (p.length + 12) ≤ 90000 := by
        have z := congrArg lenP ed
        rw [lenP_app, et, lenP_app] at z
        have e1 : lenP [p] = p.length + 12 := by rw [lenP, lenP]
        omega
      have l2 : Sw.nP [93] (ps.take i) ≤ 140 := by
        have z := congrArg (Sw.nP [93]) ed
        rw [nP_app, et, nP_app] at z
        omega
      have l3 := lenP_len ps
      have h0 := h
      obtain ⟨dx2, R2, P2, ys2, h2⟩ := h
      refine ⟨_, rfl, o, dx2, _, rfl, h2.ob, noT, _, rfl, o, p, _, sa, rfl, h0, hwf, hsz.sz (by omega) (by omega) (by omega), by omega, hfl p hmem, fun sb H3 hsb k3 h3 => ?_, fun hno H3 S3 => qe ?_ _ ((same_new hD _).trans S3)⟩
      · have hstp := stpF_stp hwf hsb
        have hsz2 := hsz.step (by omega) hstp (hfl p hmem)
        refine ⟨_, sb, rfl, h3, ?_, hwf.step hstp, ?_⟩
        · rw [et, stF_app, hst, Option.bind_some, stF, hsb, Option.bind_some, stF]
        · rw [et, nP_app, lenP_app]
          have e1 : lenP [p] = p.length + 12 := by rw [lenP, lenP]
          have e2 : Sw.nP [93] [p] = isN [93] p := by rw [Sw.nP, Sw.nP]; rfl
          rw [e1, e2, show 110 + 2 * (Sw.nP [93] (ps.take i) + isN [93] p) = 110 + 2 * Sw.nP [93] (ps.take i) + 2 * isN [93] p by omega, show 1 + (i + 1) = 1 + i + 1 by omega]
          exact hsz2
      · unfold readF
        rw [ed, stF_app, et, stF_app, hst, Option.bind_some, stF, hno]
        rfl
  · rintro σ' H' ⟨o2, sa, rfl, h, hst, hwf, hsz⟩
    rw [List.length_map, List.take_length] at hst
    have h0 := h
    obtain ⟨dx2, R2, P2, ys2, h2⟩ := h
    refine ⟨_, rfl, o, dx2, _, rfl, h2.ob, noW, o, _, sa.st, sa.pl, sa.nm, rfl, h0, fun r e1 e2 y H2 S2 t2 => ?_, fun hbad H2 S2 => ?_⟩
    · refine q r ?_ _ _ ((same_new hD _).trans S2) t2
      unfold readF
      rw [hst]
      obtain ⟨st, pl, nm⟩ := sa
      dsimp only at e1 e2
      subst e1 e2
      rfl
    · refine qe ?_ _ ((same_new hD _).trans S2)
      unfold readF
      rw [hst]
      obtain ⟨st, pl, nm⟩ := sa
      dsimp only at hbad
      match st, nm, hbad with
      | [r], [], hb => exact absurd hb (by simp)
      | [], _, _ => rfl
      | [_], _ :: _, _ => rfl
      | _ :: _ :: _, _, _ => rfl
end
end Sw24

namespace Sw
open PySem PySem.Spec PyProof.Rows L2
theorem T.rd_fail {l : List Nat} {st : List (List T)} {i c : Nat} (hi : T.rd [[]] (l.take i) = some st) (hc : l[i]? = some c) (h : T.rd1 st c = none) : T.rd [[]] l = none := by
  have hlt : i < l.length := (List.getElem?_eq_some_iff.mp hc).1
  have e1 : l.take (i + 1) = l.take i ++ [c] := by rw [List.take_add_one, hc]; rfl
  have e2 : l = l.take (i + 1) ++ l.drop (i + 1) := (List.take_append_drop _ _).symm
  have h3 : T.rd [[]] (l.take (i + 1)) = none := by
    rw [e1, T.rd_append, hi, Option.bind_some, T.rd_cons, h]
    rfl
  rw [e2, T.rd_append, h3]
  rfl
theorem T.rd_next {l : List Nat} {st st2 : List (List T)} {i c : Nat} (hi : T.rd [[]] (l.take i) = some st) (hc : l[i]? = some c) (h : T.rd1 st c = some st2) : T.rd [[]] (l.take (i + 1)) = some st2 := by
  have e1 : l.take (i + 1) = l.take i ++ [c] := by rw [List.take_add_one, hc]; rfl
  rw [e1, T.rd_append, hi, Option.bind_some, T.rd_cons, h]
  rfl
theorem treeP_no {l : List Nat} (h : ∀ t, T.rd [[]] l ≠ some [[t]]) : treeP l = none := by
  unfold treeP
  split
  · rename_i t e
    exact absurd e (h t)
  · rfl
end Sw
namespace Sw24
open PySem PySem.Spec PyProof.Rows L2 Sw
section
variable {P : Program} {w : World} {K : PySem.W.Frag} {mg : Str → Option Value} {base : Heap} {f : Addr} {fd : FuncData} {cT : Addr}
def PvRead (K : PySem.W.Frag) (H : Hp) (l : List Nat) (p : Addr) (i : Nat) (σ : Sg) (H' : Hp) : Prop := ∃ (st : List (List T)) (ys : List V) (o2 o3 : Option V),
  σ = [some (.str (tx l)), some (.ref p), o2, o3] ∧ T.rd [[]] (l.take i) = some st ∧ st ≠ [] ∧ RowsR K H H' p st ys ∧ T.partsL st.flatten + st.length ≤ i + 1
theorem ok_read_tree (m_isinstance : mg "isinstance" = none) (m_str : mg "str" = none) (m_len : mg "len" = none) (m_tuple : mg "tuple" = none) (x_NoTree : PySem.W.excIn K cT bmV "ValueError.__new__" = true) (m_NoTree : mg "NoTree" = some (.ref cT))
    (F : Fun K "read_tree" "read_tree" s_read_tree f fd) : FnOk P w K mg base (CXC P w) 31 f fd ["text"] (spReadTree K cT) := by
  refine okC F sc_read_tree (fun vs H Q E h => ?_) (fun cdv A outer s H vs Q E hr h => ?_)
  · obtain ⟨l, rfl, _⟩ := h
    rfl
  obtain ⟨l, rfl, hz, q, qe⟩ := h
  have q := fun t ht => q t (treeP_of ht)
  have qe := fun (hh : ∀ t, T.rd [[]] l ≠ some [[t]]) => qe (treeP_no hh)
  refine ⟨_, (pss_cons (ps_if (pt_not (pt_val (pe_callB call_isinst rfl m_isinstance bt_isinstance (pa_cons (pv 0) (pa_cons (pe_bltn (v := .ty "str") rfl m_str bt_str rfl) pa_nil))))) (pss_one (ps_raiseC PySem.F.excBase_ValueError x_NoTree rfl m_NoTree)) pss_nil)
      (pss_cons (ps_set (i := 1) sc_read_tree.nd rfl (Or.inl rfl) (pe_lst (pa_cons (pe_lst pa_nil) pa_nil)))
      (pss_cons (ps_for PassesOwn.leaving rfl (pi_str (pv 0)) (pg_name (i := 2) sc_read_tree.nd rfl (Or.inl rfl)) (pss_one (ps_if (pt_cmpR op_eq (pv 2) pe_str (nomark _)) (pss_one (ps_expr (pe_bm PySem.F.plainAttrs_list PySem.F.slot_list_append PySem.F.type_list_append mt_append (pv 1) (pa_cons (pe_lst pa_nil) pa_nil)))) (pss_one (ps_if (PW.pt (pw_and (pt_cmpR op_eq (pv 2) pe_str (nomark _)) (pw_and1 (pt_cmpR op_gt (pe_callB call_len_seq rfl m_len bt_len (pa_cons (pv 1) pa_nil)) pe_int (nomark _))))) (pss_cons (ps_set (i := 3) sc_read_tree.nd rfl (Or.inl rfl) (pe_bm0 PySem.F.plainAttrs_list PySem.F.slot_list_pop PySem.F.type_list_pop mt_pop (pv 1)))
      (pss_one (ps_expr (pe_bm PySem.F.plainAttrs_list PySem.F.slot_list_append PySem.F.type_list_append mt_append (pe_ix ix_list (pv 1) (pe_un un_neg pe_int) (fun _ _ => rfl)) (pa_cons (pe_callTy call_tuple_of rfl m_tuple bt_tuple (pa_cons (pv 3) pa_nil)) pa_nil))))) (pss_one (ps_raiseC PySem.F.excBase_ValueError x_NoTree rfl m_NoTree)))))))
      (pss_cons (ps_if (PW.pt (pw_or (pt_cmpR op_ne (pe_callB call_len_seq rfl m_len bt_len (pa_cons (pv 1) pa_nil)) pe_int (nomark _)) (pw_or1 (pt_cmpR op_ne (pe_callB call_len_seq rfl m_len bt_len (pa_cons (pe_ix ix_list (pv 1) pe_int (fun _ _ => rfl)) pa_nil)) pe_int (nomark _))))) (pss_one (ps_raiseC PySem.F.excBase_ValueError x_NoTree rfl m_NoTree)) pss_nil)
      (pss_one (ps_ret (pe_ix ix_list (pe_ix ix_list (pv 1) pe_int (fun _ _ => rfl)) pe_int (fun _ _ => rfl)))))))), ?_⟩
  refine ⟨_, rfl, .str (tx l), "str", .type "str", true, rfl, TyOf.str _, by rfl, _, rfl, iteF ?_⟩
  refine ⟨Nat.zero_le _, fun q0 hq0 => ⟨(by show 1 ≤ sizeLine; decide), fun p hp => ?_⟩⟩
  have npq : p ≠ q0 := fun z => by rw [z, upd_same] at hp; cases hp
  have hpH : H p = none := by rw [upd_ne npq] at hp; exact hp
  refine ⟨_, rfl, _, rfl, ?_⟩
  refine for_str (l := l) (PvRead K H l p) ?_ ?_ ?_
  · refine ⟨[[]], [.ref q0], _, _, rfl, rfl, by simp, ⟨hpH, (same_new hq0 _).trans (same_new hp _), upd_same, ?_, ?_⟩, by rw [List.flatten_cons, List.flatten_nil, List.append_nil, T.partsL_nil]; simp⟩
    · exact All2.one ⟨q0, [], rfl, hq0, (same_new hp _) _ _ upd_same, TRs_nil.mpr rfl⟩
    · simp [npq]
  · rintro i c σ' H' hc ⟨st, ys, o2, o3, rfl, hi, hne, R, hsz⟩
    have hlt : i < l.length := (List.getElem?_eq_some_iff.mp hc).1
    have hyl : ys.length = st.length := by rw [R.rows.length, List.length_reverse]
    have bad : T.rd1 st c = none → E (.ref cT) none H' := fun hb => qe (fun t ht => by rw [T.rd_fail hi hc hb] at ht; cases ht) _ R.same
    by_cases h40 : c = 40
    · -- a bracket opens
      subst h40
      refine ⟨_, rfl, rfl, _, rfl, ite2 (fun _ => ?_) (fun hb => absurd (by rw [tx_lp]; exact decide_eq_true rfl) hb)⟩
      refine ⟨_, rfl, .inl ⟨rfl, _, SqL.of R.at_⟩, Nat.zero_le _, fun q2 hq2 => ?_⟩
      have npq2 : p ≠ q2 := ne_of_none R.at_ hq2
      refine ⟨p, ys, .ref q2, rfl, rfl, by rw [upd_ne npq2]; exact R.at_, smallL (by omega), ?_⟩
      cases st with
      | nil => exact absurd rfl hne
      | cons r rs =>
        refine ⟨[] :: r :: rs, ys ++ [.ref q2], _, _, rfl, T.rd_next hi hc (T.rd1_open r rs), by simp, rows_open R hq2, ?_⟩
        rw [List.flatten_cons, List.nil_append, List.length_cons]
        omega
    · have e1 : decide (V.str (tx [c]) = V.str (Str.ofString "(")) = false := by rw [tx_lp, dec_tx]; exact decide_eq_false (by simpa using h40)
      refine ⟨_, rfl, rfl, _, rfl, ite2 (fun hb => absurd (e1.symm.trans hb) Bool.false_ne_true) (fun _ => ?_)⟩
      by_cases h41 : c = 41
      · subst h41
        refine ⟨_, rfl, rfl, _, rfl, ite2 (fun _ => ?_) (fun hb => absurd (by rw [tx_rp]; exact decide_eq_true rfl) hb)⟩
        refine ⟨_, rfl, p, ys, rfl, .inl (SqL.of R.at_), _, _, rfl, rfl, _, rfl, ?_⟩
        cases st with
        | nil => exact absurd rfl hne
        | cons r rs =>
          cases rs with
          | nil => exact ite2 (fun hb => absurd (of_decide_eq_true hb) (by rw [hyl]; simp)) (fun _ => bad rfl)
          | cons r' rs =>
            refine ite2 (fun _ => ?_) (fun hb => absurd (decide_eq_true (by rw [hyl]; simp only [List.length_cons]; omega)) hb)
            obtain ⟨ys0, a', a, xs', xs, rfl, ha, ha', npa, npa', lx, lx', next⟩ := rows_shut R
            refine ⟨_, rfl, .inl ⟨rfl, _, SqL.of R.at_⟩, p, _, .ref a, rfl, rfl, R.at_, by simp, ?_⟩
            rw [List.dropLast_concat]
            refine ⟨_, rfl, _, rfl, p, _, -1, .ref a', rfl, rfl, SqL.of upd_same, at_last, .inl ⟨rfl, xs', SqL.of (by rw [upd_ne (Ne.symm npa')]; exact ha')⟩, ?_⟩
            refine ⟨_, rfl, a, xs, rfl, .inl ⟨SqL.of (by rw [upd_ne (Ne.symm npa)]; exact ha), fun b hb => ?_⟩⟩
            have nab : a' ≠ b := fun z => by
              rw [← z, upd_ne (Ne.symm npa'), ha'] at hb
              cases hb
            have hpr : T.partsL r' ≤ T.partsL (r :: r' :: rs).flatten := by
              rw [List.flatten_cons, List.flatten_cons, T.partsL_append, T.partsL_append]
              omega
            have hlr := T.len_le_parts r'
            refine ⟨a', xs', .ref b, rfl, rfl, by rw [upd_ne nab, upd_ne (Ne.symm npa')]; exact ha', smallL (by omega), ?_⟩
            refine ⟨(r' ++ [.node r]) :: rs, ys0 ++ [.ref a'], _, _, rfl, T.rd_next hi hc (T.rd1_shut r r' rs), by simp, next b hb, ?_⟩
            rw [List.flatten_cons, List.flatten_cons, T.partsL_append, T.partsL_append, List.length_cons, List.length_cons] at hsz
            rw [List.flatten_cons, T.partsL_append, T.partsL_append, T.partsL_cons, T.partsL_nil, T.parts_node, List.length_cons]
            omega
      · have e2 : decide (V.str (tx [c]) = V.str (Str.ofString ")")) = false := by rw [tx_rp, dec_tx]; exact decide_eq_false (by simpa using h41)
        refine ⟨_, rfl, rfl, _, rfl, ite2 (fun hb => absurd (e2.symm.trans hb) Bool.false_ne_true) (fun _ => ?_)⟩
        exact iteF (bad (T.rd1_bad h40 h41))
  · rintro σ' H' ⟨st, ys, o2, o3, rfl, hi, hne, R, hsz⟩
    rw [List.take_of_length_le (Nat.le_refl _)] at hi
    have hyl : ys.length = st.length := by rw [R.rows.length, List.length_reverse]
    refine ⟨_, rfl, p, _, rfl, .inl (SqL.of R.at_), rfl, _, rfl, ?_⟩
    by_cases hlen : st.length = 1
    · refine ite2 (fun hb => absurd hb (by rw [hyl, hlen]; simp)) (fun _ => ?_)
      match st, hlen, R, hi with
      | [r], _, R, hi =>
        have hr' := R.rows
        cases hr' with
        | cons r0 r1 =>
          cases r1
          obtain ⟨a, xs, rfl, _, ha, hta⟩ := r0
          have hxl := hta.length
          refine ⟨_, rfl, p, _, 0, .ref a, rfl, rfl, SqL.of R.at_, atI_nat (j := 0) rfl, a, xs, rfl, .inl (SqL.of ha), rfl, _, rfl, ?_⟩
          by_cases h1 : r.length = 1
          · refine ite2 (fun hb => absurd hb (by rw [hxl, h1]; simp)) (fun _ => ?_)
            match r, h1, hta, hi with
            | [t], _, hta, hi =>
              obtain ⟨y, r2, rfl, hy, hnil⟩ := TRs_cons.mp hta
              rw [TRs_nil] at hnil
              subst hnil
              exact ⟨_, rfl, p, _, 0, .ref a, rfl, rfl, SqL.of R.at_, atI_nat (j := 0) rfl, a, [y], 0, y, rfl, rfl, SqL.of ha, atI_nat (j := 0) rfl, q t hi y _ R.same hy⟩
          · refine ite2 (fun _ => ?_) (fun hb => absurd ?_ hb)
            · exact qe (fun t ht => h1 (by rw [hi] at ht; have := Option.some.inj ht; simp at this; rw [this]; rfl)) _ R.same
            · rw [hxl]
              simp
              omega
    · refine ite2 (fun _ => ?_) (fun hb => absurd ?_ hb)
      · exact qe (fun t ht => hlen (by rw [hi] at ht; rw [Option.some.inj ht]; rfl)) _ R.same
      · rw [hyl]
        simp
        omega
end
end Sw24

namespace Sw24
open PySem PySem.Spec PyProof.Rows L2 Sw
section
variable {P : Program} {w : World} {K : PySem.W.Frag} {mg : Str → Option Value} {base : Heap} {f : Addr} {fd : FuncData}
theorem ok_first 
    (F : Fun K "first" "first" s_first f fd) : FnOk P w K mg base CX0 31 f fd ["tree"] (spFirst K) := by
  refine okQ F sc_first (fun vs H Q E h => ?_) (fun cdv A outer s H vs Q E hr h => ?_)
  · obtain ⟨x, t, rfl, _⟩ := h
    rfl
  obtain ⟨x, t, rfl, ht, hd, q⟩ := h
  have hE := hr.un
  have hE : (A.deeper (envOfC "first" (defScope s_first) s.heap.objs.size f cdv)).units + 401 < cLine := by omega
  refine ⟨_, (qss_cons (qs_if (qt_cmpR (op_eqTr hE) (qv 0) (qe_tup qa_nil) (nomark _)) (qss_one (qs_ret (qe_tup qa_nil))) qss_nil)
      (qss_one (qs_ret (qe_ix ix_tup (qv 0) qe_int (fun _ _ => rfl))))), ?_⟩
  refine ⟨_, rfl, Nat.zero_le _, fun p1 g1 => ⟨t, leaf, ht.mono (.new g1), leaf_tr upd_same, by omega, _, rfl, ite2 (fun hb => ?_) (fun hb => ?_)⟩⟩
  · have e := (T.beq_iff _ _).mp hb
    rw [e] at q
    exact ⟨Nat.zero_le _, fun p2 g2 => q _ _ ((same_new g1 _).trans (same_new g2 _)) (leaf_tr upd_same)⟩
  · cases t with
    | node ts =>
      cases ts with
      | nil => exact absurd ((T.beq_iff _ _).mpr rfl) hb
      | cons u us => exact ⟨_, rfl, nIxP (ht.mono (.new g1)) 0 rfl (fun z tz => q _ _ (same_new g1 _) tz)⟩
theorem ok_rest 
    (F : Fun K "rest" "rest" s_rest f fd) : FnOk P w K mg base CX0 31 f fd ["tree"] (spRest K) := by
  refine okQ F sc_rest (fun vs H Q E h => ?_) (fun cdv A outer s H vs Q E hr h => ?_)
  · obtain ⟨x, t, rfl, _⟩ := h
    rfl
  obtain ⟨x, t, rfl, ht, q⟩ := h
  refine ⟨_, (qss_one (qs_ret (qe_slice sl_tupA (qv 0) (qo_some qe_int) qo_none))), ?_⟩
  cases t with
  | node ts => exact ⟨_, rfl, 1, rfl, nFromP ht 1 (fun z H' S tz => q z H' S tz)⟩
theorem ok_sort_of (m_min : mg "min" = none) (m_len : mg "len" = none) {u_NAMELESS : Value} (m_NAMELESS : mg "NAMELESS" = some u_NAMELESS) (r_NAMELESS : RelV (.int 9) u_NAMELESS) 
    {a_first : Addr} {d_first : FuncData} (F_first : Fun K "first" "first" s_first a_first d_first) (G_first : FnOk P w K mg base CX0 31 a_first d_first ["tree"] (spFirst K)) (b_first : Binds K d_first ["tree"] []) (m_first : mg "first" = some (.ref a_first))
    (F : Fun K "sort_of" "sort_of" s_sort_of f fd) : FnOk P w K mg base CX0 32 f fd ["word"] (spSortL K) := by
  refine okQ F sc_sort_of (fun vs H Q E h => ?_) (fun cdv A outer s H vs Q E hr h => ?_)
  · obtain ⟨x, t, rfl, _⟩ := h
    rfl
  obtain ⟨x, t, rfl, ht, h1, q⟩ := h
  refine ⟨_, (qss_one (qs_ret (qe_callB (call_min2 rfl) rfl m_min bt_min (qa_cons (qe_callB call_len_seq rfl m_len bt_len (qa_cons (qe_call G_first hr rfl m_first F_first.kp b_first .nil pass0 (qa_cons (qv 0) qa_nil)) qa_nil)) (qa_cons (qe_glob (v := .int 9) rfl m_NAMELESS r_NAMELESS) qa_nil))))), ?_⟩
  refine ⟨_, rfl, x, t, rfl, ht, h1, fun y H1 S1 t1 => ?_⟩
  obtain ⟨b, ys, rfl, hb', rb⟩ := TR_node.mp (TR_kids t1)
  refine ⟨b, ys, rfl, .inr hb', _, _, rfl, ?_⟩
  rw [rb.length, show (if (9 : Int) < ((ats t.kids 0).kids.length : Int) then (9 : Int) else ((ats t.kids 0).kids.length : Int)) = ((sortT t : Nat) : Int) by rw [sort_ats]; split <;> omega]
  exact q _ S1
theorem ok_load_of 
    {a_rest : Addr} {d_rest : FuncData} (F_rest : Fun K "rest" "rest" s_rest a_rest d_rest) (G_rest : FnOk P w K mg base CX0 31 a_rest d_rest ["tree"] (spRest K)) (b_rest : Binds K d_rest ["tree"] []) (m_rest : mg "rest" = some (.ref a_rest))
    (F : Fun K "load_of" "load_of" s_load_of f fd) : FnOk P w K mg base CX0 32 f fd ["word"] (spRest K) := by
  refine okQ F sc_load_of (fun vs H Q E h => ?_) (fun cdv A outer s H vs Q E hr h => ?_)
  · obtain ⟨x, t, rfl, _⟩ := h
    rfl
  obtain ⟨x, t, rfl, ht, q⟩ := h
  refine ⟨_, (qss_one (qs_ret (qe_call G_rest hr rfl m_rest F_rest.kp b_rest .nil pass0 (qa_cons (qv 0) qa_nil)))), ?_⟩
  exact ⟨_, rfl, x, t, rfl, ht, fun y H' S ty => q _ _ S ty⟩
theorem ok_lay 
    (F : Fun K "lay" "lay" s_lay f fd) : FnOk P w K mg base CX0 31 f fd ["tree"] (spLay K) := by
  refine okQ F sc_lay (fun vs H Q E h => ?_) (fun cdv A outer s H vs Q E hr h => ?_)
  · obtain ⟨x, t, rfl, _⟩ := h
    rfl
  obtain ⟨x, t, rfl, ht, h1, h2, q⟩ := h
  refine ⟨_, (qss_one (qs_ret (qe_op op_catTA (qe_tup (qa_cons (qe_tup qa_nil) qa_nil)) (qv 0)))), ?_⟩
  have hl := (show B 400 1000000 t from ⟨h1, h2⟩)
  rw [← kids_node t] at hl
  have hl := hl.len
  refine ⟨Nat.zero_le _, fun p1 g1 => ⟨(by show 1 ≤ sizeLine; decide), fun p2 g2 => ?_⟩⟩
  obtain ⟨S1, t1⟩ := tupN (K := K) (ts := []) g1 (TRs_nil.mpr rfl)
  obtain ⟨S2, t2⟩ := tupN (K := K) g2 (trs1 t1)
  exact ⟨_, rfl, nCat t2 (TR_kids (ht.mono (.of (S1.trans S2)))) (small (by rw [List.length_singleton]; omega)) (fun z H' S tz => q _ _ (S1.trans (S2.trans S)) tz)⟩
theorem ok_plain 
    (F : Fun K "plain" "plain" s_plain f fd) : FnOk P w K mg base CX0 31 f fd ["sort"] (spPlain K) := by
  refine okQ F sc_plain (fun vs H Q E h => ?_) (fun cdv A outer s H vs Q E hr h => ?_)
  · obtain ⟨n, rfl, _⟩ := h
    rfl
  obtain ⟨n, rfl, h1, h6, q⟩ := h
  refine ⟨_, (qss_one (qs_ret (qe_tup (qa_cons (qe_op op_repTA (qe_tup (qa_cons (qe_tup qa_nil) qa_nil)) (qv 0)) qa_nil)))), ?_⟩
  refine ⟨Nat.zero_le _, fun p1 g1 => ⟨(by show 1 ≤ sizeLine; decide), fun p2 g2 => ?_⟩⟩
  obtain ⟨S1, t1⟩ := tupN (K := K) (ts := []) g1 (TRs_nil.mpr rfl)
  obtain ⟨S2, t2⟩ := tupN (K := K) g2 (trs1 t1)
  refine ⟨_, rfl, nRep n t2 rfl (by omega) (by omega) (by omega) (fun z H' S tz => ⟨(by show 1 ≤ sizeLine; decide), fun p3 g3 => ?_⟩)⟩
  obtain ⟨S3, t3⟩ := tupN (K := K) g3 (trs1 tz)
  exact q _ _ (S1.trans (S2.trans (S.trans S3))) t3
theorem ok_fork {u_FORK : Value} (m_FORK : mg "FORK" = some u_FORK) (r_FORK : RelV (.int 7) u_FORK) 
    (F : Fun K "fork" "fork" s_fork f fd) : FnOk P w K mg base CX0 31 f fd ["yes", "no"] (spFork K) := by
  refine okQ F sc_fork (fun vs H Q E h => ?_) (fun cdv A outer s H vs Q E hr h => ?_)
  · obtain ⟨x, t, y, u, rfl, _⟩ := h
    rfl
  obtain ⟨x, t, y, u, rfl, ht, hu, ⟨h1, h2⟩, ⟨h3, h4⟩, q⟩ := h
  refine ⟨_, (qss_one (qs_ret (qe_op op_catTA (qe_tup (qa_cons (qe_op op_repTA (qe_tup (qa_cons (qe_tup qa_nil) qa_nil)) (qe_glob (v := .int 7) rfl m_FORK r_FORK)) (qa_cons (qv 0) qa_nil))) (qv 1)))), ?_⟩
  have hl := (show B 400 1000000 u from ⟨h3, h4⟩)
  rw [← kids_node u] at hl
  have hl := hl.len
  refine ⟨Nat.zero_le _, fun p1 g1 => ⟨(by show 1 ≤ sizeLine; decide), fun p2 g2 => ?_⟩⟩
  obtain ⟨S1, t1⟩ := tupN (K := K) (ts := []) g1 (TRs_nil.mpr rfl)
  obtain ⟨S2, t2⟩ := tupN (K := K) g2 (trs1 t1)
  refine nRepP (k := 7) 7 t2 rfl rfl (by decide) (by decide) (fun z H' S tz => ⟨_, rfl, (by show 2 ≤ sizeLine; decide), fun p3 g3 => ?_⟩)
  obtain ⟨S3, t3⟩ := tupN (K := K) g3 (trs2 tz (ht.mono (.of (S1.trans (S2.trans S)))))
  exact ⟨_, rfl, nCat t3 (TR_kids (hu.mono (.of (S1.trans (S2.trans (S.trans S3)))))) (smallM (by show 2 + _ ≤ _; omega)) (fun z4 H4 S4 t4 => q _ _ (S1.trans (S2.trans (S.trans (S3.trans S4)))) t4)⟩
theorem ok_loop {u_WHILE : Value} (m_WHILE : mg "WHILE" = some u_WHILE) (r_WHILE : RelV (.int 8) u_WHILE) 
    (F : Fun K "loop" "loop" s_loop f fd) : FnOk P w K mg base CX0 31 f fd ["body"] (spLoop K) := by
  refine okQ F sc_loop (fun vs H Q E h => ?_) (fun cdv A outer s H vs Q E hr h => ?_)
  · obtain ⟨x, t, rfl, _⟩ := h
    rfl
  obtain ⟨x, t, rfl, ht, h1, h2, q⟩ := h
  refine ⟨_, (qss_one (qs_ret (qe_op op_catTA (qe_tup (qa_cons (qe_op op_repTA (qe_tup (qa_cons (qe_tup qa_nil) qa_nil)) (qe_glob (v := .int 8) rfl m_WHILE r_WHILE)) qa_nil)) (qv 0)))), ?_⟩
  have hl := (show B 400 1000000 t from ⟨h1, h2⟩)
  rw [← kids_node t] at hl
  have hl := hl.len
  refine ⟨Nat.zero_le _, fun p1 g1 => ⟨(by show 1 ≤ sizeLine; decide), fun p2 g2 => ?_⟩⟩
  obtain ⟨S1, t1⟩ := tupN (K := K) (ts := []) g1 (TRs_nil.mpr rfl)
  obtain ⟨S2, t2⟩ := tupN (K := K) g2 (trs1 t1)
  refine nRepP (k := 8) 8 t2 rfl rfl (by decide) (by decide) (fun z H' S tz => ⟨(by show 1 ≤ sizeLine; decide), fun p3 g3 => ?_⟩)
  obtain ⟨S3, t3⟩ := tupN (K := K) g3 (trs1 tz)
  exact ⟨_, rfl, nCat t3 (TR_kids (ht.mono (.of (S1.trans (S2.trans (S.trans S3)))))) (small (by show 1 + _ ≤ _; omega)) (fun z4 H4 S4 t4 => q _ _ (S1.trans (S2.trans (S.trans (S3.trans S4)))) t4)⟩
end
end Sw24

namespace Sw
open PySem PySem.Spec PyProof.Rows L2
def KidR (K : PySem.W.Frag) (H : Hp) (t : T) (x : V) : Prop := ∃ a v, x = .ref a ∧ SqT K H a [v, .str (tx t.wr)] ∧ TR K H t v
abbrev Kids (K : PySem.W.Frag) (H : Hp) : List T → List V → Prop := All2 (KidR K H)
theorem KidR.mono {K : PySem.W.Frag} {H H' : Hp} {t : T} {x : V} (S : Kt H H') (h : KidR K H t x) : KidR K H' t x := by
  obtain ⟨a, v, e, h1, h2⟩ := h
  exact ⟨a, v, e, sqT_mono S h1, h2.mono S⟩
theorem Kids.mono {K : PySem.W.Frag} {H H' : Hp} {ts : List T} {xs : List V} (S : Kt H H') (h : Kids K H ts xs) : Kids K H' ts xs := All2.imp (fun _ _ => KidR.mono S) h
end Sw
namespace Sw24
open PySem PySem.Spec PyProof.Rows L2 Sw
section
variable {P : Program} {w : World} {K : PySem.W.Frag} {mg : Str → Option Value} {base : Heap} {f g1 g2 : Addr} {fd gd1 gd2 : FuncData}
/-! ### _law_joined -/
def spJoinedP (K : PySem.W.Frag) : Sp := fun vs H Q _ => ∃ (l : Addr) (xs : List V) (ts : List T), vs = [.ref l] ∧ SqL K H l xs ∧ Kids K H ts xs ∧ T.partsL ts ≤ 100000 ∧ ∀ r H', Same H H' → KidR K H' (.node ts) r → Q r H'
theorem ok_joined (m_tuple : mg "tuple" = none) (F : Fun K "_law_joined" "_law_joined" s__law_joined f fd) : FnOk P w K mg base CX0 31 f fd ["_law_kids"] (spJoinedP K) := by
  refine F.ok sc__law_joined (fun vs H Q E h => ?_) (fun cdv A outer s H vs Q E hr h => ?_)
  · obtain ⟨l, xs, ts, rfl, _⟩ := h
    rfl
  obtain ⟨l, xs, ts, rfl, hl, hk, hz, q⟩ := h
  refine ⟨_, (pss_one (ps_ret (pe_tup (pa_cons (pe_callTy call_tuple_of rfl m_tuple bt_tuple (pa_cons (pe_lc rfl (by exact lc_own rfl rfl rfl) (pi_list (pv 0)) (fun _ _ _ _ _ => (pe_ix (ix_tupK (K := K) rfl) (pv 0) pe_int (fun _ _ => rfl)))) pa_nil)) (pa_cons (pe_op op_add_str (pe_op op_add_str pe_str (pe_bm PySem.F.plainAttrs_str PySem.F.slot_str_join PySem.F.type_str_join mt_join pe_str (pa_cons (pe_lc rfl (by exact lc_own rfl rfl rfl) (pi_list (pv 0)) (fun _ _ _ _ _ => (pe_ix (ix_tupK (K := K) rfl) (pv 0) pe_int (fun _ _ => rfl)))) pa_nil))) pe_str) pa_nil))))), ?_⟩
  have hlen := hk.length
  have hlp := T.len_le_parts ts
  have hz1 : xs.length ≤ sizeLine := small (by omega)
  have hwl := T.wrL_len ts
  -- the trees
  refine ⟨_, rfl, l, rfl, ⟨xs, hl⟩, lc_list (fun i y => ∃ t, ts[i]? = some t ∧ TR K H t y) hl hz1 (fun i x H' R hx S hR => ?_) (fun D4 ys4 hD4 l4 p4 => ?_)⟩
  · obtain ⟨t, ht, a, v, rfl, h1, h2⟩ := hk.get hx
    exact ⟨_, rfl, a, _, 0, _, rfl, rfl, sqT_mono (.of S) h1, atI_nat (j := 0) rfl, hR _ ⟨t, ht, h2⟩⟩
  refine ⟨D4, ys4, rfl, .inl ⟨SqL.of upd_same, fun p5 hp5 => ?_⟩⟩
  have S5 := (same_new hD4 (.lst ys4)).trans (same_new hp5 (.tup ys4))
  have t5 := All2.of_get (R := fun t y => TR K H t y) (l4.trans hlen) p4
  have hl5 := S5.seq hl
  have hk5 := Kids.mono (.of S5) hk
  -- the texts
  refine ⟨rfl, _, rfl, l, rfl, ⟨xs, hl5⟩, lc_list (fun i y => ∃ t, ts[i]? = some t ∧ y = V.str (tx t.wr)) hl5 hz1 (fun i x H' R hx S hR => ?_) (fun D6 ys6 hD6 l6 p6 => ?_)⟩
  · obtain ⟨t, ht, a, v, rfl, h1, h2⟩ := hk5.get hx
    exact ⟨_, rfl, a, _, 1, _, rfl, rfl, sqT_mono (.of S) h1, atI_nat (j := 1) rfl, hR _ ⟨t, ht, rfl⟩⟩
  have e6 : ys6 = ts.map (fun t => V.str (tx t.wr)) := (All2.of_get (R := fun t y => y = V.str (tx t.wr)) (l6.trans hlen) p6).map_eq
  refine ⟨D6, ts.map T.wr, tx_nil ▸ rfl, rfl, SqL.of (by rw [upd_same, e6, List.map_map]; rfl), ?_, ?_⟩
  · rw [T.wrL_flat]; omega
  rw [T.wrL_flat]
  have e8 : (Str.ofString "(" : Str) = tx [40] := tx_lp
  have e9 : (Str.ofString ")" : Str) = tx [41] := tx_rp
  refine ⟨_, _, rfl, rfl, ?_, ?_⟩
  · rw [e8, tx_len, tx_len]; exact small (by simp only [List.length_cons, List.length_nil]; omega)
  refine ⟨_, _, rfl, rfl, ?_, ?_⟩
  · rw [e8, e9, tx_append, tx_len, tx_len]; exact small (by simp only [List.length_cons, List.length_nil, List.length_append]; omega)
  have ew : (Str.ofString "(" ++ tx (T.wrL ts) ++ Str.ofString ")" : Str) = tx (T.node ts).wr := by
    rw [e8, e9, tx_append, tx_append, T.wr_node]; rfl
  rw [ew]
  refine ⟨(by show 2 ≤ sizeLine; decide), fun p7 hp7 => ?_⟩
  have S7 := (same_new hD6 (.lst ys6)).trans (same_new hp7 (.tup [.ref p5, .str (tx (T.node ts).wr)]))
  refine q _ _ (S5.trans S7) ⟨p7, .ref p5, rfl, SqT.of upd_same, ?_⟩
  exact TR_mk (xs := ys4) (SqT.of (S7 _ _ upd_same)) ((trs_of t5).mono (.of (S5.trans S7)))

theorem at_mem {ns : List Int} {k : Int} (h0 : 0 ≤ k) (h : k < (ns.length : Int)) : ∃ i ∈ ns, atI (ns.map V.int) k = some (.int i) := by
  have hk : k.toNat < ns.length := by omega
  have e : (ns.map V.int)[k.toNat]? = some (.int ns[k.toNat]) := by rw [List.getElem?_map, List.getElem?_eq_getElem hk]; rfl
  have := atI_nat e
  rw [show ((k.toNat : Nat) : Int) = k by omega] at this
  exact ⟨_, List.getElem_mem hk, this⟩

/-! ### _law_grown -/
def spGrownP (K : PySem.W.Frag) : Sp := fun vs H Q _ => ∃ (l : Addr) (ns : List Int), vs = [.ref l] ∧ SqL K H l (ns.map V.int) ∧ ns.length ≤ 900 ∧
  ∀ (r : Addr) (xs : List V) (ts : List T) (H' : Hp), Same H H' → H' r = some (.lst xs) → Kids K H' ts xs → T.partsL ts ≤ ns.length → (0 < ns.length → ts ≠ []) → Q (.ref r) H'
theorem ok_grown (m_min : mg "min" = none) (m_len : mg "len" = none)
    (F__law_pick : Fun K "_law_pick" "_law_pick" s__law_pick g1 gd1) (G__law_pick : FnOk P w K mg base CX0 31 g1 gd1 ["_law_cell", "_law_turn", "_law_many"] spPick) (b__law_pick : Binds K gd1 ["_law_cell", "_law_turn", "_law_many"] []) (m__law_pick : mg "_law_pick" = some (.ref g1))
    (F__law_joined : Fun K "_law_joined" "_law_joined" s__law_joined g2 gd2) (G__law_joined : FnOk P w K mg base CX0 31 g2 gd2 ["_law_kids"] (spJoinedP K)) (b__law_joined : Binds K gd2 ["_law_kids"] []) (m__law_joined : mg "_law_joined" = some (.ref g2))
    (F : Fun K "_law_grown" "_law_grown" s__law_grown f fd) : FnOk P w K mg base CX0 32 f fd ["_law_cells"] (spGrownP K) := by
  refine F.ok sc__law_grown (fun vs H Q E h => ?_) (fun cdv A outer s H vs Q E hr h => ?_)
  · obtain ⟨l, ns, rfl, _⟩ := h
    rfl
  obtain ⟨l, ns, rfl, hl, hz, q⟩ := h
  refine ⟨_, (pss_cons (ps_set (i := 1) sc__law_grown.nd rfl (Or.inl rfl) (pe_lst pa_nil))
      (pss_cons (ps_for PassesOwn.never rfl (pi_list (pv 0)) (pg_name (i := 2) sc__law_grown.nd rfl (Or.inl rfl)) (pss_cons (ps_set (i := 3) sc__law_grown.nd rfl (Or.inl rfl) (pe_callB (call_min2 rfl) rfl m_min bt_min (pa_cons (pe_callB call_len_seq rfl m_len bt_len (pa_cons (pv 1) pa_nil)) (pa_cons (pe_ix ix_list (pe_lst (pa_cons pe_int (pa_cons pe_int (pa_cons pe_int (pa_cons pe_int (pa_cons pe_int (pa_cons pe_int (pa_cons pe_int (pa_cons pe_int pa_nil))))))))) (pe_call G__law_pick hr rfl m__law_pick F__law_pick.kp b__law_pick .nil pass0 (pa_cons (pv 2) (pa_cons pe_int (pa_cons pe_int pa_nil)))) (fun _ _ => rfl)) pa_nil))))
      (pss_one (ps_set (i := 1) sc__law_grown.nd rfl (Or.inl rfl) (pe_op op_cat (pe_slice sl_list (pv 1) po_none (po_some (pe_op op_sub (pe_callB call_len_seq rfl m_len bt_len (pa_cons (pv 1) pa_nil)) (pv 3)))) (pe_lst (pa_cons (pe_call G__law_joined hr rfl m__law_joined F__law_joined.kp b__law_joined .nil pass0 (pa_cons (pe_slice sl_list (pv 1) (po_some (pe_op op_sub (pe_callB call_len_seq rfl m_len bt_len (pa_cons (pv 1) pa_nil)) (pv 3))) po_none) pa_nil)) pa_nil)))))))
      (pss_one (ps_ret (pv 1))))), ?_⟩
  refine ⟨Nat.zero_le _, fun p0 hp0 => ?_⟩
  have hl0 := sqL_new (o := .lst []) hl hp0
  refine ⟨_, rfl, l, rfl, ⟨_, hl0⟩, ?_⟩
  refine for_list (xs := ns.map V.int) (fun i σ' H' => ∃ p xs ts o2 o3, σ' = [some (.ref l), some (.ref p), o2, o3] ∧ Same H H' ∧ H' p = some (.lst xs) ∧ Kids K H' ts xs ∧ T.partsL ts ≤ i ∧ (0 < i → ts ≠ [])) ?_ ?_ ?_ ?_
  · exact ⟨p0, [], [], _, _, rfl, same_new hp0 _, upd_same, .nil, by rw [T.partsL_nil]; omega, fun h => absurd h (by omega)⟩
  · rintro i σ' H' _ ⟨p, xs, ts, o2, o3, rfl, S, _⟩
    exact S.seq hl
  · rintro i x σ' H' hx ⟨p, xs, ts, o2, o3, rfl, S, hp, hk, hpl, _⟩
    have hi : i < ns.length := by
      have := (List.getElem?_eq_some_iff.mp hx).1
      rw [List.length_map] at this
      exact this
    obtain ⟨c, rfl⟩ : ∃ c, x = .int c := by
      rw [List.getElem?_map, List.getElem?_eq_getElem hi] at hx
      exact ⟨_, (Option.some.inj hx).symm⟩
    have hlen := hk.length
    have hlp := T.len_le_parts ts
    refine ⟨_, rfl, p, xs, rfl, .inl (SqL.of hp), (by show 8 ≤ sizeLine; decide), fun p2 hp2 => ?_⟩
    refine ⟨_, rfl, c, 1, 8, rfl, by decide, fun j hj0 hj1 => ?_⟩
    obtain ⟨m, hm, em⟩ := at_mem (ns := [0, 0, 1, 2, 3, 4, 7, 0]) hj0 (by simpa using hj1)
    have hm0 : 0 ≤ m := by
      simp only [List.mem_cons, List.not_mem_nil, or_false] at hm
      omega
    refine ⟨p2, _, j, _, rfl, rfl, SqL.of upd_same, em, _, _, rfl, ?_⟩
    generalize hmv : (if m < (xs.length : Int) then m else (xs.length : Int)) = mv
    have hv0 : 0 ≤ mv := by rw [← hmv]; split <;> omega
    have hv1 : mv ≤ (xs.length : Int) := by rw [← hmv]; split <;> omega
    obtain ⟨k, hk1, hk2⟩ : ∃ k : Nat, (xs.length : Int) - mv = (k : Int) ∧ k ≤ xs.length := ⟨((xs.length : Int) - mv).toNat, by omega, by omega⟩
    have n2 : p ≠ p2 := fun z => by rw [← z, hp] at hp2; cases hp2
    have S2 := S.trans (same_new hp2 (.lst [.int 0, .int 0, .int 1, .int 2, .int 3, .int 4, .int 7, .int 0]))
    have K2 : Kt H' (upd H' p2 (.lst [.int 0, .int 0, .int 1, .int 2, .int 3, .int 4, .int 7, .int 0])) := Kt.new hp2
    generalize hH2 : upd H' p2 (.lst [.int 0, .int 0, .int 1, .int 2, .int 3, .int 4, .int 7, .int 0]) = H2 at S2 K2
    have hpx : H2 p = some (.lst xs) := by rw [← hH2, upd_ne n2]; exact hp
    have hx2 : SqL K H2 p xs := SqL.of hpx
    have hk2' := Kids.mono K2 hk
    have c1 : cutV xs none (some ((xs.length : Int) - mv)) = xs.take k := by rw [hk1, cut_to]
    have c2 : cutV xs (some ((xs.length : Int) - mv)) none = xs.drop k := by rw [hk1, cut_from]
    refine ⟨_, rfl, _, rfl, p, xs, rfl, .inl hx2, _, rfl, _, _, rfl, rfl, _, rfl, p, xs, rfl, hx2, fun p4 hp4 => ?_⟩
    have S4 : Same H2 (upd H2 p4 (.lst (cutV xs none (some ((xs.length : Int) - mv))))) := same_new hp4 _
    have e4 : upd H2 p4 (.lst (cutV xs none (some ((xs.length : Int) - mv)))) p4 = some (.lst (xs.take k)) := by rw [upd_same, c1]
    refine ⟨_, rfl, _, rfl, p, xs, rfl, .inl (S4.seq hx2), _, rfl, _, _, rfl, rfl, _, rfl, p, xs, rfl, S4.seq hx2, fun p5 hp5 => ?_⟩
    have S5 := S4.trans (same_new hp5 (.lst (cutV xs (some ((xs.length : Int) - mv)) none)))
    refine ⟨p5, xs.drop k, ts.drop k, rfl, SqL.of (by rw [upd_same, c2]), (Kids.mono (.of S5) hk2').drop k, by (have := T.partsL_take_drop k ts); omega, fun r H6 S6 kr => ?_⟩
    refine ⟨(by show 1 ≤ sizeLine; decide), fun p7 hp7 => ?_⟩
    have e4' := S6 _ _ ((same_new hp5 _) _ _ e4)
    have n7 : p4 ≠ p7 := ne_of_none e4' hp7
    refine ⟨p4, p7, xs.take k, [r], rfl, rfl, by rw [upd_ne n7]; exact e4', upd_same, small (by rw [List.length_take, List.length_singleton]; omega), fun p8 hp8 => ?_⟩
    have S8 := S6.trans ((same_new hp7 (.lst [r])).trans (same_new hp8 (.lst (xs.take k ++ [r]))))
    have S8' := ((same_new hp7 (.lst [r])).trans (same_new hp8 (.lst (xs.take k ++ [r]))))
    have hdl := T.len_le_parts (ts.take k)
    have hpt := T.partsL_take_drop k ts
    refine ⟨p8, xs.take k ++ [r], ts.take k ++ [.node (ts.drop k)], _, _, rfl, S2.trans (S5.trans S8), upd_same, ?_, ?_, fun _ => by simp⟩
    · exact All2.append ((Kids.mono (.of (S5.trans S8)) hk2').take k) (All2.one (kr.mono (.of S8')))
    · rw [T.partsL_append, T.partsL_cons, T.partsL_nil, T.parts_node]
      omega
  · rintro σ' H' ⟨p, xs, ts, o2, o3, rfl, S, hp, hk, hpl, hne⟩
    rw [List.length_map] at hpl hne
    exact ⟨_, rfl, q p xs ts H' S hp hk hpl hne⟩
end
end Sw24

namespace Sw24
open PySem PySem.Spec PyProof.Rows L2 Sw
section
variable {P : Program} {w : World} {K : PySem.W.Frag} {mg : Str → Option Value} {base : Heap} {f : Addr} {fd : FuncData}

def spOddY (K : PySem.W.Frag) : Sp := fun vs H Q _ => ∃ (c : Int) (lt : Addr) (xts : List V) (ts : List T), vs = [.int c, .ref lt] ∧ SqL K H lt xts ∧ All2 (fun (t : T) (x : V) => ∃ a v, x = .ref a ∧ SqT K H a [v, .str (tx t.wr)] ∧ TR K H t v) ts xts ∧ ts ≠ [] ∧ (∀ t ∈ ts, B 20 60 t) ∧ ∀ r t H', Same H H' → WRd K H' t r → B 30 200 t → oddT t = true → Q r H'
def spWordY (K : PySem.W.Frag) : Sp := fun vs H Q _ => ∃ (c way : Int) (lt lh : Addr) (xts xs : List V) (ts ws : List T), vs = [.int c, .int way, .ref lt, .ref lh] ∧ SqL K H lt xts ∧ All2 (fun (t : T) (x : V) => ∃ a v, x = .ref a ∧ SqT K H a [v, .str (tx t.wr)] ∧ TR K H t v) ts xts ∧ ts ≠ [] ∧ (∀ t ∈ ts, B 20 60 t) ∧ SqL K H lh xs ∧ All2 (WRd K H) ws xs ∧ ws.length ≤ 200 ∧ T.partsL ws ≤ 60000 ∧
  ∀ r t H', Same H H' → WRd K H' t r → (t.parts ≤ 200 + T.partsL ws ∧ t.deep ≤ 30 + T.deepL ws) → (way ≤ 4 → B 30 200 t) → (4 < way → t.deep ≤ 3 + T.deepL ws) → (way ≤ 4 → ∃ p, One t p) → (4 < way → Br ws t) → Q r H'
def spLeavesP (K : PySem.W.Frag) : Sp := fun vs H Q _ => ∃ n : Nat, vs = [.int (n : Int)] ∧ n ≤ 1000 ∧ ∀ r H', Same H H' → KidR K H' (leavesT n) r → Q r H'
theorem ok__law_at (m_len : mg "len" = none) (m_sum : mg "sum" = none) 
    (F : Fun K "_law_at" "_law_at" s__law_at f fd) : FnOk P w K mg base CX0 31 f fd ["_law_script", "_law_k"] (spAt K) := by
  refine okQ F sc__law_at (fun vs H Q E h => ?_) (fun cdv A outer s H vs Q E hr h => ?_)
  · obtain ⟨l, k, ns, rfl, _⟩ := h
    rfl
  obtain ⟨l, k, ns, rfl, hl, h0, q⟩ := h
  refine ⟨_, (qss_cons (qs_if (qt_cmpR op_lt (qv 1) (qe_callB call_len_seq rfl m_len bt_len (qa_cons (qv 0) qa_nil)) (nomark _)) (qss_one (qs_ret (qe_ix ix_list (qv 0) (qv 1) (fun _ _ => rfl)))) qss_nil)
      (qss_cons (qs_set (i := 2) sc__law_at.nd rfl (Or.inl rfl) (qe_op op_mod (qe_op op_add (qe_op op_add (qe_callB (call_sum rfl) rfl m_sum bt_sum (qa_cons (qe_slice sl_list (qv 0) qo_none (qo_some qe_int)) qa_nil)) (qe_op op_mul qe_int (qv 1))) qe_int) qe_int))
      (qss_one (qs_ret (qe_op op_mod (qe_op op_mul (qv 2) (qv 2)) qe_int))))), ?_⟩
  refine ⟨_, rfl, _, rfl, l, _, rfl, .inl hl, _, _, rfl, rfl, _, rfl, ?_⟩
  refine ite2 (fun c => ?_) (fun c => ?_)
  · have c' : k < ((ns.map V.int).length : Int) := of_decide_eq_true c
    obtain ⟨i, hi⟩ := at_int h0 c'
    exact ⟨_, rfl, _, rfl, l, _, k, _, rfl, rfl, hl, hi, q i H (Same.refl H)⟩
  · refine ⟨_, rfl, 63, rfl, l, _, rfl, hl, fun p hp => ?_⟩
    have ecut : cutV (ns.map V.int) none (some 63) = (ns.take 63).map V.int := by
      rw [show (some (63 : Int)) = some ((63 : Nat) : Int) from rfl, cut_to, List.map_take]
    rw [ecut]
    refine ⟨p, ns.take 63, rfl, SqL.of upd_same, ?_⟩
    refine ⟨_, rfl, _, _, rfl, rfl, .inl ⟨by decide, by decide⟩, ?_⟩
    refine ⟨_, _, rfl, rfl, _, _, rfl, rfl, _, _, rfl, rfl, (by show (0 : Int) < 1000003; decide), ?_⟩
    generalize hz : ((ns.take 63).sum + 769 * k + 29) % 1000003 = z
    have hz0 : 0 ≤ z := by rw [← hz]; exact Int.emod_nonneg _ (by decide)
    have hz1 : z < 1000003 := by rw [← hz]; exact Int.emod_lt_of_pos _ (by decide)
    refine ⟨_, rfl, _, rfl, _, _, rfl, rfl, .inl ⟨?_, ?_⟩, _, _, rfl, rfl, (by show (0 : Int) < 999983; decide), ?_⟩
    · have : -(2 ^ 64 : Int) = -18446744073709551616 := by decide
      omega
    · have : (2 ^ 64 : Int) = 18446744073709551616 := by decide
      omega
    · exact q _ _ (same_new hp _)
theorem ok__law_pick 
    (F : Fun K "_law_pick" "_law_pick" s__law_pick f fd) : FnOk P w K mg base CX0 31 f fd ["_law_cell", "_law_turn", "_law_many"] spPick := by
  refine okQ F sc__law_pick (fun vs H Q E h => ?_) (fun cdv A outer s H vs Q E hr h => ?_)
  · obtain ⟨c, t, m, rfl, _⟩ := h
    rfl
  obtain ⟨c, t, m, rfl, hm, q⟩ := h
  refine ⟨_, (qss_one (qs_ret (qe_op op_mod (qe_op op_mod (qe_op op_add (qe_op op_mul (qe_op op_mod (qv 0) qe_int) (qe_op op_add qe_int (qe_op op_mul qe_int (qv 1)))) (qe_op op_mul qe_int (qv 1))) qe_int) (qv 2)))), ?_⟩
  have hc0 : 0 ≤ c % 1000003 := Int.emod_nonneg _ (by decide)
  have hc1 : c % 1000003 < 1000003 := Int.emod_lt_of_pos _ (by decide)
  have big : (2 ^ 64 : Int) = 18446744073709551616 := by decide
  refine ⟨_, rfl, _, _, rfl, rfl, (by show (0 : Int) < 1000003; decide), ?_⟩
  refine ⟨_, rfl, _, _, rfl, rfl, .inl ⟨by decide, by decide⟩, _, _, rfl, rfl, _, _, rfl, rfl, .inl ⟨by omega, by omega⟩, ?_⟩
  refine ⟨_, rfl, _, _, rfl, rfl, .inl ⟨by decide, by decide⟩, _, _, rfl, rfl, _, _, rfl, rfl, (by show (0 : Int) < 999983; decide), ?_⟩
  exact ⟨_, rfl, _, _, rfl, rfl, hm, q _ (Int.emod_nonneg _ (by omega)) (Int.emod_lt_of_pos _ hm)⟩
theorem ok__law_leaves (m_tuple : mg "tuple" = none) (m_range : mg "range" = none) 
    (F : Fun K "_law_leaves" "_law_leaves" s__law_leaves f fd) : FnOk P w K mg base CX0 31 f fd ["_law_many"] (spLeavesP K) := by
  refine okQ F sc__law_leaves (fun vs H Q E h => ?_) (fun cdv A outer s H vs Q E hr h => ?_)
  · obtain ⟨n, rfl, _⟩ := h
    rfl
  obtain ⟨n, rfl, hn, q⟩ := h
  refine ⟨_, (qss_one (qs_ret (qe_tup (qa_cons (qe_callTy call_tuple_of rfl m_tuple bt_tuple (qa_cons (qe_lc rfl (lc_free (fr := []) (js := []) (sc := defScope s__law_leaves) rfl rfl rfl (by decide +kernel) (by decide +kernel) (by decide +kernel) (by decide +kernel) (by exact trivial) (by decide +kernel) (fun y hy => cell_has hy)) (qi_range1 rfl m_range (qa_cons (qv 0) qa_nil)) (fun _ _ _ _ _ => (qe_tup qa_nil))) qa_nil)) (qa_cons (qe_op op_add_str (qe_op op_add_str qe_str (qe_op op_repSS qe_str (qv 0))) qe_str) qa_nil))))), ?_⟩
  refine ⟨_, rfl, (n : Int), rfl, by omega, by omega, ?_⟩
  refine lc_grow (K := K) (fun t => t = .node []) (small (by omega)) (fun i H' R hi S hR => ⟨Nat.zero_le _, fun p1 g1 => hR _ _ _ (same_new g1 _) (leaf_tr upd_same) rfl⟩) (fun D ys ts H' S h1 hl htr hsh => ⟨D, ys, rfl, .inl ⟨SqL.of h1, fun l2 gl2 => ?_⟩⟩)
  have S2 := same_new gl2 (.tup ys)
  have t2 : TR K _ (.node ts) (.ref l2) := TR_mk (SqT.of upd_same) (htr.mono (.new gl2))
  have hl : ts.length = n := by rw [hl]; omega
  have et : ts = List.replicate n (.node []) := List.eq_replicate_iff.mpr ⟨hl, hsh⟩
  subst et
  refine ⟨_, rfl, [40, 41], n, (by rw [tx_leaf]), rfl, by decide, by omega, _, _, rfl, rfl, ?_, _, _, rfl, rfl, ?_, (by show 2 ≤ sizeLine; decide), fun p3 g3 => q _ _ ((S.trans S2).trans (same_new g3 _)) ⟨p3, .ref l2, rfl, SqT.of ?_, t2.mono (.new g3)⟩⟩
  · rw [tx_lp, tx_len, tx_len]
    exact small (by simp; omega)
  · rw [tx_lp, tx_append, tx_rp, tx_len, tx_len]
    exact small (by simp; omega)
  · rw [upd_same, tx_lp, tx_append, tx_rp, tx_append, wr_leaves]
    rfl
end
end Sw24

namespace Sw24
open PySem PySem.Spec PyProof.Rows L2 Sw
section
variable {P : Program} {w : World} {K : PySem.W.Frag} {mg : Str → Option Value} {base : Heap} {f : Addr} {fd : FuncData}
theorem ok__law_text (m_tuple : mg "tuple" = none) 
    (F : Fun K "_law_text" "_law_text" s__law_text f fd) : FnOk P w K mg base CX0 31 f fd ["_law_words_here"] (spTextX K) := by
  refine okQ F sc__law_text (fun vs H Q E h => ?_) (fun cdv A outer s H vs Q E hr h => ?_)
  · obtain ⟨l, xs, ws, rfl, _⟩ := h
    rfl
  obtain ⟨l, xs, ws, rfl, hl, hw, hp, q⟩ := h
  refine ⟨_, (qss_one (qs_ret (qe_tup (qa_cons (qe_callTy call_tuple_of rfl m_tuple bt_tuple (qa_cons (qe_lc rfl (lc_free (fr := []) (js := []) (sc := defScope s__law_text) rfl rfl rfl (by decide +kernel) (by decide +kernel) (by decide +kernel) (by decide +kernel) (by exact trivial) (by decide +kernel) (fun y hy => cell_has hy)) (qi_list (qv 0)) (fun _ _ _ _ _ => (qe_ix (ix_tupK (K := K) rfl) (qv 0) qe_int (fun _ _ => rfl)))) qa_nil)) (qa_cons (qe_bm PySem.F.plainAttrs_str PySem.F.slot_str_join PySem.F.type_str_join mt_joinS qe_str (qa_cons (qe_lc rfl (lc_free (fr := []) (js := []) (sc := defScope s__law_text) rfl rfl rfl (by decide +kernel) (by decide +kernel) (by decide +kernel) (by decide +kernel) (by exact trivial) (by decide +kernel) (fun y hy => cell_has hy)) (qi_list (qv 0)) (fun _ _ _ _ _ => (qe_ix (ix_tupK (K := K) rfl) (qv 0) qe_int (fun _ _ => rfl)))) qa_nil)) qa_nil))))), ?_⟩
  have hal := hw.length
  have hlen : ws.length ≤ 80000 := by have := T.len_le_parts ws; omega
  have hzl : xs.length ≤ sizeLine := small (by omega)
  refine ⟨_, rfl, l, rfl, ⟨_, hl⟩, lc_list (fun i y => ∃ w, ws[i]? = some w ∧ TR K H w y) hl hzl (fun i x H' R hx S hR => ?_) (fun D ys hD ly py => ?_)⟩
  · obtain ⟨w', ew, a, x0, ps, rfl, h1, h2, h3⟩ := hw.get hx
    exact ⟨_, rfl, a, _, 0, x0, rfl, rfl, sqT_mono (.of S) h1, atI_nat (j := 0) rfl, hR _ ⟨w', ew, h2⟩⟩
  have S1 := same_new hD (.lst ys)
  have hty : TRs K H ws ys := trs_of (All2.of_get (by omega) fun i y e => by obtain ⟨w', e1, e2⟩ := py i y e; exact ⟨w', e1, e2⟩)
  refine ⟨D, ys, rfl, .inl ⟨SqL.of upd_same, fun l2 gl2 => ?_⟩⟩
  have S2 := S1.trans (same_new gl2 (.tup ys))
  have t2 : TR K _ (.node ws) (.ref l2) := TR_mk (SqT.of upd_same) (hty.mono (.of S2))
  refine ⟨rfl, _, rfl, l, rfl, ⟨_, S2.seq hl⟩, lc_list (fun i y => ∃ w ps, ws[i]? = some w ∧ y = .str (tx (joinL [32] ps)) ∧ Wr w ps) (S2.seq hl) hzl (fun i x H' R hx S hR => ?_) (fun D3 zs hD3 lz pz => ?_)⟩
  · obtain ⟨w', ew, a, x0, ps, rfl, h1, h2, h3⟩ := hw.get hx
    exact ⟨_, rfl, a, _, 1, _, rfl, rfl, sqT_mono (.of (S2.trans S)) h1, atI_nat (j := 1) rfl, hR _ ⟨w', ps, ew, rfl, h3⟩⟩
  obtain ⟨pss, rfl, hne, hts⟩ := pieces_all (ws := ws) (zs := zs) (All2.of_get (by omega) fun i y e => by obtain ⟨w', ps, e1, e2, e3⟩ := pz i y e; exact ⟨w', e1, ps, e2, e3⟩)
  have hsz := ts_sz hts
  have hjz := join_sz pss hne
  refine ⟨D3, [32], pss.map (joinL [32]), (by rw [tx_blank]), rfl, SqL.of upd_same, ?_, (by show 2 ≤ sizeLine; decide), fun p4 g4 => ?_⟩
  · rw [List.length_map]
    show _ + _ * 1 ≤ _
    omega
  have S3 := same_new hD3 (.lst ((pss.map (joinL [32])).map fun c => V.str (tx c)))
  exact q _ _ (S2.trans (S3.trans (same_new g4 _))) ⟨p4, .ref l2, pss.flatten, rfl, SqT.of (upd_same.trans (by rw [join_join hne])), (t2.mono (.of S3)).mono (.new g4), hts⟩
theorem ok__law_plain 
    {a__law_pick : Addr} {d__law_pick : FuncData} (F__law_pick : Fun K "_law_pick" "_law_pick" s__law_pick a__law_pick d__law_pick) (G__law_pick : FnOk P w K mg base CX0 31 a__law_pick d__law_pick ["_law_cell", "_law_turn", "_law_many"] spPick) (b__law_pick : Binds K d__law_pick ["_law_cell", "_law_turn", "_law_many"] []) (m__law_pick : mg "_law_pick" = some (.ref a__law_pick))
    {a__law_leaves : Addr} {d__law_leaves : FuncData} (F__law_leaves : Fun K "_law_leaves" "_law_leaves" s__law_leaves a__law_leaves d__law_leaves) (G__law_leaves : FnOk P w K mg base CX0 31 a__law_leaves d__law_leaves ["_law_many"] (spLeavesP K)) (b__law_leaves : Binds K d__law_leaves ["_law_many"] []) (m__law_leaves : mg "_law_leaves" = some (.ref a__law_leaves))
    (F : Fun K "_law_plain" "_law_plain" s__law_plain f fd) : FnOk P w K mg base CX0 32 f fd ["_law_cell"] (spPlainW K) := by
  refine okQ F sc__law_plain (fun vs H Q E h => ?_) (fun cdv A outer s H vs Q E hr h => ?_)
  · obtain ⟨c, rfl, _⟩ := h
    rfl
  obtain ⟨c, rfl, q⟩ := h
  refine ⟨_, (qss_cons (qs_set (i := 1) sc__law_plain.nd rfl (Or.inl rfl) (qe_op op_add qe_int (qe_call G__law_pick hr rfl m__law_pick F__law_pick.kp b__law_pick .nil pass0 (qa_cons (qv 0) (qa_cons qe_int (qa_cons qe_int qa_nil))))))
      (qss_one (qs_ret (qe_tup (qa_cons (qe_tup (qa_cons (qe_ix ix_tup (qe_call G__law_leaves hr rfl m__law_leaves F__law_leaves.kp b__law_leaves .nil pass0 (qa_cons (qv 1) qa_nil)) qe_int (fun _ _ => rfl)) qa_nil)) (qa_cons (qe_ix ix_list (qe_lst (qa_cons qe_str (qa_cons qe_str (qa_cons qe_str (qa_cons qe_str (qa_cons qe_str (qa_cons qe_str qa_nil))))))) (qe_op op_sub (qv 1) qe_int) (fun _ _ => rfl)) qa_nil)))))), ?_⟩
  refine setQ (fun v => [some (.int c), some v]) (fun _ => rfl) (fun v H' => ∃ k : Nat, v = .int (k : Int) ∧ 1 ≤ k ∧ k ≤ 6 ∧ H' = H) (fun R r => ⟨_, rfl, c, 21, 6, rfl, by decide, fun i h0 h1 => ⟨_, _, rfl, rfl, r _ _ ⟨(1 + i).toNat, by rw [Int.toNat_of_nonneg (by omega)], by omega, by omega, rfl⟩⟩⟩) (fun v1 H1 h1 => ?_)
  obtain ⟨k, rfl, k1, k6, rfl⟩ := h1
  refine ⟨_, rfl, k, rfl, by omega, fun r2 H2 S2 h2 => ?_⟩
  obtain ⟨a, v, rfl, q2, t2⟩ := h2
  refine ⟨a, _, 0, v, rfl, rfl, q2, atI_nat (j := 0) rfl, (by show 1 ≤ sizeLine; decide), fun p3 g3 => ⟨(by show 6 ≤ sizeLine; decide), fun p4 g4 => ?_⟩⟩
  obtain ⟨S3, t3⟩ := tupN (K := K) g3 (trs1 t2)
  refine ⟨_, rfl, _, _, rfl, rfl, p4, _, _, _, rfl, rfl, SqL.of upd_same, (by rw [six_tx]; exact six_at k1 k6), (by show 2 ≤ sizeLine; decide), fun p5 g5 => ?_⟩
  have S4 := same_new g4 (.lst [V.str (PySem.Str.ofString "drop"), .str (PySem.Str.ofString "twin"), .str (PySem.Str.ofString "swap"), .str (PySem.Str.ofString "front"), .str (PySem.Str.ofString "part"), .str (PySem.Str.ofString "turn")])
  have S5 := same_new g5 (.tup [.ref p3, .str (tx (nmC k))])
  refine q _ (wordT k []) _ (S2.trans (S3.trans (S4.trans S5))) ⟨p5, .ref p3, [nmC k], rfl, SqT.of upd_same, (t3.mono (.of (S4.trans S5))), wr_plain k1 k6⟩ ((B_tup1 (B_leaves k)).le (by omega) (by omega))
end
end Sw24

namespace Sw24
open PySem PySem.Spec PyProof.Rows L2 Sw
section
variable {P : Program} {w : World} {K : PySem.W.Frag} {mg : Str → Option Value} {base : Heap} {f : Addr} {fd : FuncData}
theorem ok__law_between 
    (F : Fun K "_law_between" "_law_between" s__law_between f fd) : FnOk P w K mg base CX0 31 f fd ["_law_some"] (spBetween K) := by
  refine okQ F sc__law_between (fun vs H Q E h => ?_) (fun cdv A outer s H vs Q E hr h => ?_)
  · obtain ⟨l, cs, rfl, _⟩ := h
    rfl
  obtain ⟨l, cs, rfl, hl, hn, hf, q⟩ := h
  refine ⟨_, (qss_one (qs_ret (qe_bm PySem.F.plainAttrs_str PySem.F.slot_str_join PySem.F.type_str_join mt_joinS qe_str (qa_cons (qe_lcIf rfl (lc_free (fr := []) (js := []) (sc := defScope s__law_between) rfl rfl rfl (by decide +kernel) (by decide +kernel) (by decide +kernel) (by decide +kernel) (by exact trivial) (by decide +kernel) (fun y hy => cell_has hy)) (qi_list (qv 0)) (fun _ _ _ _ _ => (qv 0)) (fun _ _ _ _ _ => (qt_cmpR op_ne (qv 0) qe_str (nomark _)))) qa_nil)))), ?_⟩
  have hz : (cs.map fun c => V.str (tx c)).length ≤ sizeLine := small (by rw [List.length_map]; omega)
  refine ⟨rfl, _, rfl, l, rfl, ⟨_, SqL.of hl⟩, lc_filter (fun v => decide (v ≠ .str (tx []))) hl hz (fun x H' R hx r => ?_) (fun x H' R r => ⟨_, rfl, r⟩) (fun D hD => ?_)⟩
  · obtain ⟨c, _, rfl⟩ := List.mem_map.mp hx
    refine ⟨_, rfl, rfl, _, rfl, ?_⟩
    rw [tx_nil]
    have e : (!decide (V.str (tx c) = V.str (tx []))) = decide (V.str (tx c) ≠ V.str (tx [])) := by
      by_cases z : V.str (tx c) = V.str (tx [])
      · rw [decide_eq_true z, decide_eq_false (fun y => y z)]; rfl
      · rw [decide_eq_false z, decide_eq_true z]; rfl
    rw [e]
    exact r
  have ef : (cs.map fun c => V.str (tx c)).filter (fun v => decide (v ≠ .str (tx []))) = (cs.filter fun c => decide (c ≠ [])).map fun c => V.str (tx c) := by
    rw [List.filter_map]
    congr 1
    refine List.filter_congr fun c _ => ?_
    show decide (V.str (tx c) ≠ V.str (tx [])) = decide (c ≠ [])
    by_cases z : c = []
    · rw [z, decide_eq_false (fun y => y rfl), decide_eq_false (fun y => y rfl)]
    · rw [decide_eq_true z]
      exact decide_eq_true (p := V.str (tx c) ≠ V.str (tx [])) (fun y => z (tx_inj.mp (V.str.inj y)))
  refine ⟨D, [32], cs.filter fun c => decide (c ≠ []), (by rw [tx_blank]), rfl, SqL.of (by rw [upd_same, ef]), ?_, q _ (same_new hD _)⟩
  have h1 := List.length_filter_le (fun c => decide (c ≠ [])) cs
  have h2 : ∀ ds : List (List Nat), (ds.filter fun c => decide (c ≠ [])).flatten.length ≤ ds.flatten.length := by
    intro ds
    induction ds with
    | nil => exact Nat.le_refl _
    | cons d ds ih =>
      rw [List.filter_cons]
      split
      · rw [List.flatten_cons, List.flatten_cons, List.length_append, List.length_append]; omega
      · rw [List.flatten_cons, List.length_append]; omega
  have := h2 cs
  show _ + _ * 1 ≤ _
  omega
end
end Sw24

namespace Sw24
open PySem PySem.Spec PyProof.Rows L2 Sw
section
variable {P : Program} {w : World} {K : PySem.W.Frag} {mg : Str → Option Value} {base : Heap} {f : Addr} {fd : FuncData}
theorem ok__law_word (m_len : mg "len" = none) 
    {a__law_plain : Addr} {d__law_plain : FuncData} (F__law_plain : Fun K "_law_plain" "_law_plain" s__law_plain a__law_plain d__law_plain) (G__law_plain : FnOk P w K mg base CX0 33 a__law_plain d__law_plain ["_law_cell"] (spPlainW K)) (b__law_plain : Binds K d__law_plain ["_law_cell"] []) (m__law_plain : mg "_law_plain" = some (.ref a__law_plain))
    {a__law_pick : Addr} {d__law_pick : FuncData} (F__law_pick : Fun K "_law_pick" "_law_pick" s__law_pick a__law_pick d__law_pick) (G__law_pick : FnOk P w K mg base CX0 33 a__law_pick d__law_pick ["_law_cell", "_law_turn", "_law_many"] spPick) (b__law_pick : Binds K d__law_pick ["_law_cell", "_law_turn", "_law_many"] []) (m__law_pick : mg "_law_pick" = some (.ref a__law_pick))
    {a__law_odd : Addr} {d__law_odd : FuncData} (F__law_odd : Fun K "_law_odd" "_law_odd" s__law_odd a__law_odd d__law_odd) (G__law_odd : FnOk P w K mg base CX0 33 a__law_odd d__law_odd ["_law_cell", "_law_trees"] (spOddY K)) (b__law_odd : Binds K d__law_odd ["_law_cell", "_law_trees"] []) (m__law_odd : mg "_law_odd" = some (.ref a__law_odd))
    {a__law_text : Addr} {d__law_text : FuncData} (F__law_text : Fun K "_law_text" "_law_text" s__law_text a__law_text d__law_text) (G__law_text : FnOk P w K mg base CX0 33 a__law_text d__law_text ["_law_words_here"] (spTextX K)) (b__law_text : Binds K d__law_text ["_law_words_here"] []) (m__law_text : mg "_law_text" = some (.ref a__law_text))
    {a__law_between : Addr} {d__law_between : FuncData} (F__law_between : Fun K "_law_between" "_law_between" s__law_between a__law_between d__law_between) (G__law_between : FnOk P w K mg base CX0 33 a__law_between d__law_between ["_law_some"] (spBetween K)) (b__law_between : Binds K d__law_between ["_law_some"] []) (m__law_between : mg "_law_between" = some (.ref a__law_between))
    {a__law_leaves : Addr} {d__law_leaves : FuncData} (F__law_leaves : Fun K "_law_leaves" "_law_leaves" s__law_leaves a__law_leaves d__law_leaves) (G__law_leaves : FnOk P w K mg base CX0 33 a__law_leaves d__law_leaves ["_law_many"] (spLeavesP K)) (b__law_leaves : Binds K d__law_leaves ["_law_many"] []) (m__law_leaves : mg "_law_leaves" = some (.ref a__law_leaves))
    (F : Fun K "_law_word" "_law_word" s__law_word f fd) : FnOk P w K mg base CX0 34 f fd ["_law_cell", "_law_way", "_law_trees", "_law_held"] (spWordY K) := by
  refine okQ F sc__law_word (fun vs H Q E h => ?_) (fun cdv A outer s H vs Q E hr h => ?_)
  · obtain ⟨c, way, lt, lh, xts, xs, ts, ws, rfl, _⟩ := h
    rfl
  obtain ⟨c, way, lt, lh, xts, xs, ts, ws, rfl, hlt, htk, hne, hbt, hlh, hw, hwn, hwp, q⟩ := h
  refine ⟨_, (qss_cons (qs_if (qt_cmpR op_lt (qv 1) qe_int (nomark _)) (qss_one (qs_ret (qe_call G__law_plain hr rfl m__law_plain F__law_plain.kp b__law_plain .nil pass0 (qa_cons (qv 0) qa_nil)))) qss_nil)
      (qss_cons (qs_if (qt_cmpR op_lt (qv 1) qe_int (nomark _)) (qss_cons (qs_set (i := 4) sc__law_word.nd rfl (Or.inl rfl) (qe_ix ix_list (qv 2) (qe_call G__law_pick hr rfl m__law_pick F__law_pick.kp b__law_pick .nil pass0 (qa_cons (qv 0) (qa_cons qe_int (qa_cons (qe_callB call_len_seq rfl m_len bt_len (qa_cons (qv 2) qa_nil)) qa_nil)))) (fun _ _ => rfl)))
      (qss_one (qs_ret (qe_tup (qa_cons (qe_op op_catTA (qe_tup (qa_cons (qe_tup qa_nil) qa_nil)) (qe_ix ix_tup (qv 4) qe_int (fun _ _ => rfl))) (qa_cons (qe_op op_add_str qe_str (qe_ix ix_tup (qv 4) qe_int (fun _ _ => rfl))) qa_nil)))))) qss_nil)
      (qss_cons (qs_if (qt_cmpR op_eq (qv 1) qe_int (nomark _)) (qss_one (qs_ret (qe_call G__law_odd hr rfl m__law_odd F__law_odd.kp b__law_odd .nil pass0 (qa_cons (qv 0) (qa_cons (qv 2) qa_nil))))) qss_nil)
      (qss_cons (qs_set (i := 5) sc__law_word.nd rfl (Or.inl rfl) (qe_call G__law_pick hr rfl m__law_pick F__law_pick.kp b__law_pick .nil pass0 (qa_cons (qv 0) (qa_cons qe_int (qa_cons (qe_op op_add (qe_callB call_len_seq rfl m_len bt_len (qa_cons (qv 3) qa_nil)) qe_int) qa_nil)))))
      (qss_cons (qs_if (qt_cmpR op_eq (qv 1) qe_int (nomark _)) (qss_cons (qs_set (i := 6) sc__law_word.nd rfl (Or.inl rfl) (qe_call G__law_text hr rfl m__law_text F__law_text.kp b__law_text .nil pass0 (qa_cons (qv 3) qa_nil)))
      (qss_one (qs_ret (qe_tup (qa_cons (qe_op op_catTA (qe_tup (qa_cons (qe_ix ix_tup (qe_call G__law_leaves hr rfl m__law_leaves F__law_leaves.kp b__law_leaves .nil pass0 (qa_cons qe_int qa_nil)) qe_int (fun _ _ => rfl)) qa_nil)) (qe_ix ix_tup (qv 6) qe_int (fun _ _ => rfl))) (qa_cons (qe_call G__law_between hr rfl m__law_between F__law_between.kp b__law_between .nil pass0 (qa_cons (qe_lst (qa_cons qe_str (qa_cons (qe_ix ix_tup (qv 6) qe_int (fun _ _ => rfl)) (qa_cons qe_str qa_nil)))) qa_nil)) qa_nil)))))) qss_nil)
      (qss_cons (qs_set (i := 7) sc__law_word.nd rfl (Or.inl rfl) (qe_call G__law_text hr rfl m__law_text F__law_text.kp b__law_text .nil pass0 (qa_cons (qe_slice sl_list (qv 3) qo_none (qo_some (qv 5))) qa_nil)))
      (qss_cons (qs_set (i := 8) sc__law_word.nd rfl (Or.inl rfl) (qe_call G__law_text hr rfl m__law_text F__law_text.kp b__law_text .nil pass0 (qa_cons (qe_slice sl_list (qv 3) (qo_some (qv 5)) qo_none) qa_nil)))
      (qss_one (qs_ret (qe_tup (qa_cons (qe_op op_catTA (qe_tup (qa_cons (qe_ix ix_tup (qe_call G__law_leaves hr rfl m__law_leaves F__law_leaves.kp b__law_leaves .nil pass0 (qa_cons qe_int qa_nil)) qe_int (fun _ _ => rfl)) (qa_cons (qe_ix ix_tup (qv 7) qe_int (fun _ _ => rfl)) qa_nil))) (qe_ix ix_tup (qv 8) qe_int (fun _ _ => rfl))) (qa_cons (qe_call G__law_between hr rfl m__law_between F__law_between.kp b__law_between .nil pass0 (qa_cons (qe_lst (qa_cons qe_str (qa_cons (qe_ix ix_tup (qv 7) qe_int (fun _ _ => rfl)) (qa_cons qe_str (qa_cons (qe_ix ix_tup (qv 8) qe_int (fun _ _ => rfl)) (qa_cons qe_str qa_nil)))))) qa_nil)) qa_nil)))))))))))), ?_⟩
  have hxl := htk.length
  have hpos : (0 : Int) < (xts.length : Int) := by
    have : 0 < ts.length := List.length_pos_iff.mpr hne
    omega
  have hwl := hw.length
  refine ⟨_, rfl, _, _, rfl, rfl, _, rfl, ite2 (fun h => ?_) (fun h => ?_)⟩
  · have h2 := of_decide_eq_true h
    exact ⟨_, rfl, c, rfl, fun r t H' S hr hb => q r t H' S hr ⟨by have := hb.2; omega, by have := hb.1; omega⟩ (fun _ => hb.le (by omega) (by omega)) (fun h4 => by omega) (fun _ => by obtain ⟨_, _, _, _, _, _, hw⟩ := hr; exact small_one hw (by have := hb.2; omega)) (fun h4 => by omega)⟩
  refine ⟨_, rfl, _, _, rfl, rfl, _, rfl, ite2 (fun h4 => ?_) (fun h4 => ?_)⟩
  · have h4 := of_decide_eq_true h4
    refine setQ (fun v => [some (.int c), some (.int way), some (.ref lt), some (.ref lh), some v, none, none, none, none]) (fun _ => rfl) (fun v H' => H' = H ∧ ∃ t a x, v = .ref a ∧ t ∈ ts ∧ SqT K H a [x, .str (tx t.wr)] ∧ TR K H t x) (fun R r => ⟨_, rfl, _, rfl, _, rfl, lt, xts, rfl, .inl hlt, c, 28, _, rfl, hpos, fun i i0 i1 => ?_⟩) (fun v1 H1 h1 => ?_)
    · obtain ⟨x, t, ex, ⟨a, v, rfl, e1, e2⟩, hm⟩ := all_pick htk i0 i1
      exact ⟨lt, _, _, _, rfl, rfl, hlt, ex, r _ _ ⟨rfl, t, a, v, rfl, hm, e1, e2⟩⟩
    obtain ⟨rfl, t, a, x, rfl, hm, qa, ta⟩ := h1
    have bt := hbt t hm
    have bk := (B_kids bt).len
    refine ⟨Nat.zero_le _, fun p2 g2 => ⟨(by show 1 ≤ sizeLine; decide), fun p3 g3 => ?_⟩⟩
    obtain ⟨S2, t2⟩ := tupN (K := K) (ts := []) g2 (TRs_nil.mpr rfl)
    obtain ⟨S3, t3⟩ := tupN (K := K) g3 (trs1 t2)
    have S23 := S2.trans S3
    refine ⟨_, rfl, a, _, 0, x, rfl, rfl, sqT_mono (.of S23) qa, atI_nat (j := 0) rfl, nCat t3 (TR_kids (ta.mono (.of S23))) (small (by show 1 + _ ≤ _; omega)) (fun z H4 S4 t4 => ⟨_, rfl, a, _, 1, _, rfl, rfl, sqT_mono (.of (S23.trans S4)) qa, atI_nat (j := 1) rfl, _, _, rfl, rfl, ?_, (by show 2 ≤ sizeLine; decide), fun p5 g5 => ?_⟩)⟩
    · rw [tx_tick, tx_len, tx_len, T.wr_len]
      exact small (by have := bt.2; show 1 + _ ≤ _; omega)
    · have b1 : B 30 200 (wordT 0 t.kids) := (B_cons B_nil (B_kids bt)).le (by omega) (by omega)
      refine q _ (wordT 0 t.kids) _ (S23.trans (S4.trans (same_new g5 _))) ⟨p5, z, [39 :: t.wr], rfl, SqT.of (upd_same.trans ?_), t4.mono (.new g5), wr_lay t⟩ ⟨by have := b1.2; omega, by have := b1.1; omega⟩ (fun _ => b1) (fun h5 => by omega) (fun _ => ⟨_, lay_one t⟩) (fun h5 => by omega)
      rw [tx_tick, tx_append]
      rfl
  refine ⟨_, rfl, rfl, _, rfl, ite2 (fun h5 => ?_) (fun h5 => ?_)⟩
  · have h5 := V.int.inj (of_decide_eq_true h5)
    exact ⟨_, rfl, _, rfl, c, lt, xts, ts, rfl, hlt, htk, hne, hbt, fun r t H' S hr hb ho => q r t H' S hr ⟨by have := hb.2; omega, by have := hb.1; omega⟩ (fun _ => hb) (fun h6 => by omega) (fun _ => ⟨_, .odd ho⟩) (fun h6 => by omega)⟩
  have w5 : ¬ way ≤ 4 := fun z => by
    have h1 : ¬ way < 4 := fun y => h4 (decide_eq_true y)
    have : way = 4 := by omega
    exact h5 (by rw [this]; exact decide_eq_true rfl)
  have pok : ∀ {vs : List T} {ps : List (List Nat)}, Ts vs ps → ∀ p ∈ ps, p ≠ [] := fun hts p hp => (ts_ok hts p hp).1
  dsimp only [tNext]
  refine setQ (fun v => [some (.int c), some (.int way), some (.ref lt), some (.ref lh), none, some v, none, none, none]) (fun _ => rfl) (fun v H' => H' = H ∧ ∃ k : Nat, v = .int (k : Int) ∧ k ≤ ws.length) (fun R r => ⟨_, rfl, _, rfl, lh, xs, rfl, .inl hlh, _, _, rfl, rfl, c, 29, _, rfl, by omega, fun i i0 i1 => r _ _ ⟨rfl, i.toNat, by rw [Int.toNat_of_nonneg i0], by omega⟩⟩) (fun v1 H1 h1 => ?_)
  obtain ⟨rfl, k, rfl, hk⟩ := h1
  refine ⟨_, rfl, rfl, _, rfl, ite2 (fun h6 => ?_) (fun h6 => ?_)⟩
  · refine setQ (fun v => [some (.int c), some (.int way), some (.ref lt), some (.ref lh), none, some (.int (k : Int)), some v, none, none]) (fun _ => rfl) (fun v H' => Same H1 H' ∧ TXd K H' ws v) (fun R r => ⟨_, rfl, lh, xs, ws, rfl, hlh, hw, by omega, fun r2 H2 S2 h2 => r _ _ ⟨S2, h2⟩⟩) (fun v2 H2 h2 => ?_)
    obtain ⟨S2, a, x, ps, rfl, qa, ta, hts⟩ := h2
    refine ⟨8, rfl, by omega, fun r3 H3 S3 h3 => ?_⟩
    obtain ⟨a3, v3, rfl, q3, t3⟩ := h3
    refine ⟨a3, _, 0, v3, rfl, rfl, q3, atI_nat (j := 0) rfl, (by show 1 ≤ sizeLine; decide), fun p4 g4 => ?_⟩
    obtain ⟨S4, t4⟩ := tupN (K := K) g4 (trs1 t3)
    have S34 := S3.trans S4
    have hwlen := T.len_le_parts ws
    refine ⟨_, rfl, a, _, 0, x, rfl, rfl, sqT_mono (.of S34) qa, atI_nat (j := 0) rfl, nCat t4 (ta.mono (.of S34)) (small (by show 1 + _ ≤ _; omega)) (fun z5 H5 S5 t5 => ?_)⟩
    have S35 := S34.trans S5
    refine ⟨_, rfl, a, _, 1, _, rfl, rfl, sqT_mono (.of S35) qa, atI_nat (j := 1) rfl, (by show 3 ≤ sizeLine; decide), fun p6 g6 => ?_⟩
    have hsz := ts_sz hts
    have hjl := joinL_len [32] ps
    simp only [List.length_singleton, Nat.mul_one] at hjl
    unfold szP at hsz
    refine ⟨p6, [joinL [32] [nmC 8, [91]], joinL [32] ps, joinL [32] [[93]]], rfl, ?_, by show 3 ≤ 1000; omega, ?_, fun H7 S7 => ⟨(by show 2 ≤ sizeLine; decide), fun p8 g8 => ?_⟩⟩
    · rw [upd_same, tx_whileB, tx_rb]
      rfl
    · have : (joinL [32] [nmC 8, [91]]).length = 7 := rfl
      have : (joinL [32] [[93]]).length = 1 := rfl
      simp only [List.flatten_cons, List.flatten_nil, List.length_append, List.length_nil]
      omega
    · have eb := between_all (pss := [[nmC 8, [91]], ps, [[93]]]) (fun l hl p hp => by
        simp only [List.mem_cons, List.not_mem_nil, or_false] at hl
        rcases hl with rfl | rfl | rfl
        · simp only [List.mem_cons, List.not_mem_nil, or_false] at hp
          rcases hp with rfl | rfl <;> decide
        · exact pok hts p hp
        · simp only [List.mem_cons, List.not_mem_nil, or_false] at hp
          rw [hp]; decide)
      have S68 := (same_new g6 (.lst [.str (PySem.Str.ofString "while ["), .str (tx (joinL [32] ps)), .str (PySem.Str.ofString "]")])).trans (S7.trans (same_new g8 (.tup [z5, .str (tx (joinL [32] ([joinL [32] [nmC 8, [91]], joinL [32] ps, joinL [32] [[93]]].filter fun c => decide (c ≠ []))))])))
      refine q _ (loopW ws) _ (S2.trans (S35.trans S68)) ⟨p8, z5, [nmC 8, [91]] ++ ps ++ [[93]], rfl, SqT.of (upd_same.trans ?_), t5.mono (.of S68), wr_loopW hts⟩ ⟨?_, ?_⟩ (fun z => absurd z w5) (fun _ => ?_) (fun z => absurd z w5) (fun _ => br_loop)
      · rw [show ([joinL [32] [nmC 8, [91]], joinL [32] ps, joinL [32] [[93]]] : List (List Nat)) = [[nmC 8, [91]], ps, [[93]]].map (joinL [32]) from rfl, eb]
        rw [show ([[nmC 8, [91]], ps, [[93]]] : List (List (List Nat))).flatten = [nmC 8, [91]] ++ ps ++ [[93]] by simp]
      · show (T.node (leavesT 8 :: ws)).parts ≤ _
        rw [T.parts_node, T.partsL_cons]
        have := (B_leaves 8).2
        omega
      · show (T.node (leavesT 8 :: ws)).deep ≤ _
        rw [T.deep_node, T.deepL_cons]
        have := (B_leaves 8).1
        omega
      · show (T.node (leavesT 8 :: ws)).deep ≤ _
        rw [T.deep_node, T.deepL_cons]
        have := (B_leaves 8).1
        omega
  have etd : ws.take k ++ ws.drop k = ws := List.take_append_drop k ws
  have ptd : T.partsL (ws.take k) + T.partsL (ws.drop k) = T.partsL ws := by rw [← T.partsL_append, etd]
  have dtd : max (T.deepL (ws.take k)) (T.deepL (ws.drop k)) = T.deepL ws := by rw [← deepL_app, etd]
  have ltd := T.len_le_parts (ws.drop k)
  dsimp only [tNext]
  refine setQ (fun v => [some (.int c), some (.int way), some (.ref lt), some (.ref lh), none, some (.int (k : Int)), none, some v, none]) (fun _ => rfl) (fun v H' => Same H1 H' ∧ TXd K H' (ws.take k) v) (fun R r => ⟨_, rfl, _, rfl, _, rfl, lh, xs, rfl, hlh, fun p2 g2 => ?_⟩) (fun v2 H2 h2 => ?_)
  · have S2 := same_new g2 (.lst (cutV xs none (some (k : Int))))
    exact ⟨p2, _, ws.take k, rfl, SqL.of upd_same, (by have e2 := (hw.take k).imp fun _ _ => WRd.mono (Kt.of S2); rw [← cut_to xs k] at e2; exact e2), by omega, fun r2 H3 S3 h3 => r _ _ ⟨S2.trans S3, h3⟩⟩
  obtain ⟨S2, ay, xy, py, rfl, qy, ty, hy⟩ := h2
  refine setQ (fun v => [some (.int c), some (.int way), some (.ref lt), some (.ref lh), none, some (.int (k : Int)), none, some (.ref ay), some v]) (fun _ => rfl) (fun v H' => Same H2 H' ∧ TXd K H' (ws.drop k) v) (fun R r => ⟨_, rfl, _, rfl, _, rfl, lh, xs, rfl, S2.seq hlh, fun p3 g3 => ?_⟩) (fun v3 H3 h3 => ?_)
  · have S3 := same_new g3 (.lst (cutV xs (some (k : Int)) none))
    exact ⟨p3, _, ws.drop k, rfl, SqL.of upd_same, (by have e2 := (hw.drop k).imp fun _ _ => WRd.mono (Kt.of (S2.trans S3)); rw [← cut_from xs k] at e2; exact e2), by omega, fun r2 H4 S4 h4 => r _ _ ⟨S3.trans S4, h4⟩⟩
  obtain ⟨S3, an, xn, pn, rfl, qn, tn, hn⟩ := h3
  have qy := sqT_mono (.of S3) qy
  have ty := ty.mono (.of S3)
  refine ⟨7, rfl, by omega, fun r4 H4 S4 h4 => ?_⟩
  obtain ⟨a4, v4, rfl, q4, t4⟩ := h4
  refine ⟨a4, _, 0, v4, rfl, rfl, q4, atI_nat (j := 0) rfl, _, rfl, ay, _, 0, xy, rfl, rfl, sqT_mono (.of S4) qy, atI_nat (j := 0) rfl, (by show 2 ≤ sizeLine; decide), fun p5 g5 => ?_⟩
  obtain ⟨S5, t5⟩ := tupN (K := K) g5 (trs2 t4 (ty.mono (.of S4)))
  have S45 := S4.trans S5
  refine ⟨_, rfl, an, _, 0, xn, rfl, rfl, sqT_mono (.of S45) qn, atI_nat (j := 0) rfl, nCat t5 (tn.mono (.of S45)) (small (by show 2 + _ ≤ _; omega)) (fun z6 H6 S6 t6 => ?_)⟩
  have S46 := S45.trans S6
  refine ⟨_, rfl, ay, _, 1, _, rfl, rfl, sqT_mono (.of S46) qy, atI_nat (j := 1) rfl, _, rfl, an, _, 1, _, rfl, rfl, sqT_mono (.of S46) qn, atI_nat (j := 1) rfl, (by show 5 ≤ sizeLine; decide), fun p7 g7 => ?_⟩
  have z1 := ts_sz hy
  have z2 := ts_sz hn
  have j1 := joinL_len [32] py
  have j2 := joinL_len [32] pn
  simp only [List.length_singleton, Nat.mul_one] at j1 j2
  unfold szP at z1 z2
  refine ⟨p7, [joinL [32] [nmC 7, [91]], joinL [32] py, joinL [32] [[124]], joinL [32] pn, joinL [32] [[93]]], rfl, ?_, by show 5 ≤ 1000; omega, ?_, fun H8 S8 => ⟨(by show 2 ≤ sizeLine; decide), fun p9 g9 => ?_⟩⟩
  · rw [upd_same, tx_forkB, tx_rb, tx_bar]
    rfl
  · have : (joinL [32] [nmC 7, [91]]).length = 6 := rfl
    have : (joinL [32] [[93]]).length = 1 := rfl
    have : (joinL [32] [[124]]).length = 1 := rfl
    simp only [List.flatten_cons, List.flatten_nil, List.length_append, List.length_nil]
    omega
  · have eb := between_all (pss := [[nmC 7, [91]], py, [[124]], pn, [[93]]]) (fun l hl p hp => by
      simp only [List.mem_cons, List.not_mem_nil, or_false] at hl
      rcases hl with rfl | rfl | rfl | rfl | rfl
      · simp only [List.mem_cons, List.not_mem_nil, or_false] at hp
        rcases hp with rfl | rfl <;> decide
      · exact pok hy p hp
      · simp only [List.mem_cons, List.not_mem_nil, or_false] at hp
        rw [hp]; decide
      · exact pok hn p hp
      · simp only [List.mem_cons, List.not_mem_nil, or_false] at hp
        rw [hp]; decide)
    have S79 := (same_new g7 (.lst [.str (PySem.Str.ofString "fork ["), .str (tx (joinL [32] py)), .str (PySem.Str.ofString "|"), .str (tx (joinL [32] pn)), .str (PySem.Str.ofString "]")])).trans (S8.trans (same_new g9 (.tup [z6, .str (tx (joinL [32] ([joinL [32] [nmC 7, [91]], joinL [32] py, joinL [32] [[124]], joinL [32] pn, joinL [32] [[93]]].filter fun c => decide (c ≠ []))))])))
    have hfd : (forkW (ws.take k) (ws.drop k)).deep ≤ 3 + T.deepL ws := by
      show (T.node (leavesT 7 :: .node (ws.take k) :: ws.drop k)).deep ≤ _
      rw [T.deep_node, T.deepL_cons, T.deepL_cons, T.deep_node]
      have := (B_leaves 7).1
      omega
    refine q _ (forkW (ws.take k) (ws.drop k)) _ (S2.trans (S3.trans (S46.trans S79))) ⟨p9, z6, [nmC 7, [91]] ++ py ++ [[124]] ++ pn ++ [[93]], rfl, SqT.of (upd_same.trans ?_), t6.mono (.of S79), wr_forkW hy hn⟩ ⟨?_, by omega⟩ (fun z => absurd z w5) (fun _ => hfd) (fun z => absurd z w5) (fun _ => br_fork k)
    · rw [show ([joinL [32] [nmC 7, [91]], joinL [32] py, joinL [32] [[124]], joinL [32] pn, joinL [32] [[93]]] : List (List Nat)) = [[nmC 7, [91]], py, [[124]], pn, [[93]]].map (joinL [32]) from rfl, eb]
      rw [show ([[nmC 7, [91]], py, [[124]], pn, [[93]]] : List (List (List Nat))).flatten = [nmC 7, [91]] ++ py ++ [[124]] ++ pn ++ [[93]] by simp]
    · show (T.node (leavesT 7 :: .node (ws.take k) :: ws.drop k)).parts ≤ _
      rw [T.parts_node, T.partsL_cons, T.partsL_cons, T.parts_node]
      have := (B_leaves 7).2
      omega
end
end Sw24

namespace Sw24
open PySem PySem.Spec PyProof.Rows L2 Sw
section
variable {P : Program} {w : World} {K : PySem.W.Frag} {mg : Str → Option Value} {base : Heap} {f : Addr} {fd : FuncData}

def KdP (K : PySem.W.Frag) (way : Int) (H' : Hp) (v : V) : Prop := ∃ l xs ks, v = .ref l ∧ H' l = some (.lst xs) ∧ Kids K H' ks xs ∧ oddT (.node ks) = true ∧ B 25 190 (.node ks) ∧ (way = 1 ∨ way = 4 → oddT (.node (ks.take 1)) = true)
theorem KdP.mono {K : PySem.W.Frag} {way : Int} {H H' : Hp} {v : V} (S : Same H H') (h : KdP K way H v) : KdP K way H' v := by
  obtain ⟨l, xs, ks, rfl, h1, h2, h3⟩ := h
  exact ⟨l, xs, ks, rfl, S _ _ h1, Kids.mono (.of S) h2, h3⟩
theorem ok__law_odd (m_len : mg "len" = none) 
    {a__law_pick : Addr} {d__law_pick : FuncData} (F__law_pick : Fun K "_law_pick" "_law_pick" s__law_pick a__law_pick d__law_pick) (G__law_pick : FnOk P w K mg base CX0 32 a__law_pick d__law_pick ["_law_cell", "_law_turn", "_law_many"] spPick) (b__law_pick : Binds K d__law_pick ["_law_cell", "_law_turn", "_law_many"] []) (m__law_pick : mg "_law_pick" = some (.ref a__law_pick))
    {a__law_leaves : Addr} {d__law_leaves : FuncData} (F__law_leaves : Fun K "_law_leaves" "_law_leaves" s__law_leaves a__law_leaves d__law_leaves) (G__law_leaves : FnOk P w K mg base CX0 32 a__law_leaves d__law_leaves ["_law_many"] (spLeavesP K)) (b__law_leaves : Binds K d__law_leaves ["_law_many"] []) (m__law_leaves : mg "_law_leaves" = some (.ref a__law_leaves))
    {a__law_joined : Addr} {d__law_joined : FuncData} (F__law_joined : Fun K "_law_joined" "_law_joined" s__law_joined a__law_joined d__law_joined) (G__law_joined : FnOk P w K mg base CX0 32 a__law_joined d__law_joined ["_law_kids"] (spJoinedP K)) (b__law_joined : Binds K d__law_joined ["_law_kids"] []) (m__law_joined : mg "_law_joined" = some (.ref a__law_joined))
    (F : Fun K "_law_odd" "_law_odd" s__law_odd f fd) : FnOk P w K mg base CX0 33 f fd ["_law_cell", "_law_trees"] (spOddY K) := by
  refine okQ F sc__law_odd (fun vs H Q E h => ?_) (fun cdv A outer s H vs Q E hr h => ?_)
  · obtain ⟨c, lt, xts, ts, rfl, _⟩ := h
    rfl
  obtain ⟨c, lt, xts, ts, rfl, hlt, htk, hne, hbt, q⟩ := h
  refine ⟨_, (qss_cons (qs_set (i := 2) sc__law_odd.nd rfl (Or.inl rfl) (qe_call G__law_pick hr rfl m__law_pick F__law_pick.kp b__law_pick .nil pass0 (qa_cons (qv 0) (qa_cons qe_int (qa_cons qe_int qa_nil)))))
      (qss_cons (qs_set (i := 3) sc__law_odd.nd rfl (Or.inl rfl) (qe_ix ix_list (qv 1) (qe_call G__law_pick hr rfl m__law_pick F__law_pick.kp b__law_pick .nil pass0 (qa_cons (qv 0) (qa_cons qe_int (qa_cons (qe_callB call_len_seq rfl m_len bt_len (qa_cons (qv 1) qa_nil)) qa_nil)))) (fun _ _ => rfl)))
      (qss_cons (qs_set (i := 4) sc__law_odd.nd rfl (Or.inl rfl) (qe_ix ix_list (qv 1) (qe_call G__law_pick hr rfl m__law_pick F__law_pick.kp b__law_pick .nil pass0 (qa_cons (qv 0) (qa_cons qe_int (qa_cons (qe_callB call_len_seq rfl m_len bt_len (qa_cons (qv 1) qa_nil)) qa_nil)))) (fun _ _ => rfl)))
      (qss_cons (qs_set (i := 5) sc__law_odd.nd rfl (Or.inl rfl) (qe_lst qa_nil))
      (qss_cons (qs_if (qt_cmpR op_eq (qv 2) qe_int (nomark _)) (qss_one (qs_set (i := 5) sc__law_odd.nd rfl (Or.inl rfl) (qe_lst (qa_cons (qe_call G__law_leaves hr rfl m__law_leaves F__law_leaves.kp b__law_leaves .nil pass0 (qa_cons (qe_op op_add qe_int (qe_call G__law_pick hr rfl m__law_pick F__law_pick.kp b__law_pick .nil pass0 (qa_cons (qv 0) (qa_cons qe_int (qa_cons qe_int qa_nil))))) qa_nil)) (qa_cons (qv 3) qa_nil))))) qss_nil)
      (qss_cons (qs_if (qt_cmpR op_eq (qv 2) qe_int (nomark _)) (qss_one (qs_set (i := 5) sc__law_odd.nd rfl (Or.inl rfl) (qe_lst (qa_cons (qe_call G__law_leaves hr rfl m__law_leaves F__law_leaves.kp b__law_leaves .nil pass0 (qa_cons (qe_op op_add qe_int (qe_call G__law_pick hr rfl m__law_pick F__law_pick.kp b__law_pick .nil pass0 (qa_cons (qv 0) (qa_cons qe_int (qa_cons qe_int qa_nil))))) qa_nil)) (qa_cons (qv 3) (qa_cons (qv 4) qa_nil)))))) qss_nil)
      (qss_cons (qs_if (qt_cmpR op_eq (qv 2) qe_int (nomark _)) (qss_one (qs_set (i := 5) sc__law_odd.nd rfl (Or.inl rfl) (qe_lst (qa_cons (qe_call G__law_leaves hr rfl m__law_leaves F__law_leaves.kp b__law_leaves .nil pass0 (qa_cons qe_int qa_nil)) qa_nil)))) qss_nil)
      (qss_cons (qs_if (qt_cmpR op_eq (qv 2) qe_int (nomark _)) (qss_cons (qs_set (i := 6) sc__law_odd.nd rfl (Or.inl rfl) (qe_call G__law_pick hr rfl m__law_pick F__law_pick.kp b__law_pick .nil pass0 (qa_cons (qv 0) (qa_cons qe_int (qa_cons qe_int qa_nil)))))
      (qss_cons (qs_set (i := 7) sc__law_odd.nd rfl (Or.inl rfl) (qe_call G__law_pick hr rfl m__law_pick F__law_pick.kp b__law_pick .nil pass0 (qa_cons (qv 0) (qa_cons qe_int (qa_cons (qe_op op_add (qv 6) qe_int) qa_nil)))))
      (qss_cons (qs_set (i := 8) sc__law_odd.nd rfl (Or.inl rfl) (qe_op op_cat (qe_op op_cat (qe_op op_rep (qe_lst (qa_cons (qe_tup (qa_cons (qe_tup qa_nil) (qa_cons qe_str qa_nil))) qa_nil)) (qv 7)) (qe_lst (qa_cons (qe_call G__law_joined hr rfl m__law_joined F__law_joined.kp b__law_joined .nil pass0 (qa_cons (qe_lst (qa_cons (qv 3) qa_nil)) qa_nil)) qa_nil))) (qe_op op_rep (qe_lst (qa_cons (qe_tup (qa_cons (qe_tup qa_nil) (qa_cons qe_str qa_nil))) qa_nil)) (qe_op op_sub (qv 6) (qv 7)))))
      (qss_one (qs_set (i := 5) sc__law_odd.nd rfl (Or.inl rfl) (qe_lst (qa_cons (qe_call G__law_joined hr rfl m__law_joined F__law_joined.kp b__law_joined .nil pass0 (qa_cons (qv 8) qa_nil)) (qa_cons (qv 4) qa_nil)))))))) qss_nil)
      (qss_cons (qs_if (QW.pt (qw_and (qt_cmpR op_in_seq (qv 2) (qe_tup (qa_cons qe_int (qa_cons qe_int qa_nil))) rfl) (qw_and1 (qt_cmpR op_eq (qe_call G__law_pick hr rfl m__law_pick F__law_pick.kp b__law_pick .nil pass0 (qa_cons (qv 0) (qa_cons qe_int (qa_cons qe_int qa_nil)))) qe_int (nomark _))))) (qss_one (qs_set (i := 5) sc__law_odd.nd rfl (Or.inl rfl) (qe_slice sl_list (qv 5) qo_none (qo_some qe_int)))) qss_nil)
      (qss_cons (qs_set (i := 9) sc__law_odd.nd rfl (Or.inl rfl) (qe_call G__law_joined hr rfl m__law_joined F__law_joined.kp b__law_joined .nil pass0 (qa_cons (qv 5) qa_nil)))
      (qss_one (qs_ret (qe_tup (qa_cons (qe_ix ix_tup (qv 9) qe_int (fun _ _ => rfl)) (qa_cons (qe_op op_add_str qe_str (qe_ix ix_tup (qv 9) qe_int (fun _ _ => rfl))) qa_nil))))))))))))))), ?_⟩
  have hxl := htk.length
  have htk : Kids K H ts xts := htk
  have hpos : (0 : Int) < (xts.length : Int) := by
    have : 0 < ts.length := List.length_pos_iff.mpr hne
    omega
  have one : ∀ (n : Int) (R : VK), (∀ v, (∃ t, KidR K H t v ∧ B 20 60 t) → R v H) → ∀ i : Int, 0 ≤ i → i < (xts.length : Int) → ∃ x, atI xts i = some x ∧ R x H := fun n R r i i0 i1 => by
    obtain ⟨x, t, ex, e, hm⟩ := all_pick htk i0 i1
    exact ⟨x, ex, r x ⟨t, e, hbt t hm⟩⟩
  refine setQ (fun v => [some (.int c), some (.ref lt), some v, none, none, none, none, none, none, none]) (fun _ => rfl) (fun v H' => H' = H ∧ ∃ way : Int, v = .int way ∧ 0 ≤ way ∧ way < 5) (fun R r => ⟨_, rfl, c, 22, 5, rfl, by decide, fun i i0 i1 => r _ _ ⟨rfl, i, rfl, i0, i1⟩⟩) (fun v1 H1 h1 => ?_)
  obtain ⟨rfl, way, rfl, w0, w5⟩ := h1
  refine setQ (fun v => [some (.int c), some (.ref lt), some (.int way), some v, none, none, none, none, none, none]) (fun _ => rfl) (fun v H' => H' = H1 ∧ ∃ t, KidR K H1 t v ∧ B 20 60 t) (fun R r => ⟨_, rfl, _, rfl, _, rfl, lt, xts, rfl, .inl hlt, c, 23, _, rfl, hpos, fun i i0 i1 => ?_⟩) (fun v2 H2 h2 => ?_)
  · obtain ⟨x, ex, q1⟩ := one 0 R (fun v hv => r _ _ ⟨rfl, hv⟩) i i0 i1
    exact ⟨lt, _, _, _, rfl, rfl, hlt, ex, q1⟩
  obtain ⟨rfl, t1, k1, b1⟩ := h2
  refine setQ (fun v => [some (.int c), some (.ref lt), some (.int way), some v2, some v, none, none, none, none, none]) (fun _ => rfl) (fun v H' => H' = H2 ∧ ∃ t, KidR K H2 t v ∧ B 20 60 t) (fun R r => ⟨_, rfl, _, rfl, _, rfl, lt, xts, rfl, .inl hlt, c, 24, _, rfl, hpos, fun i i0 i1 => ?_⟩) (fun v3 H3 h3 => ?_)
  · obtain ⟨x, ex, q1⟩ := one 0 R (fun v hv => r _ _ ⟨rfl, hv⟩) i i0 i1
    exact ⟨lt, _, _, _, rfl, rfl, hlt, ex, q1⟩
  obtain ⟨rfl, t2, k2, b2⟩ := h3
  refine setQ (fun v => [some (.int c), some (.ref lt), some (.int way), some v2, some v3, some v, none, none, none, none]) (fun _ => rfl) (fun v H' => Same H3 H' ∧ KdP K way H' v) (fun R r => ⟨Nat.zero_le _, fun p g => r _ _ ⟨same_new g _, p, [], [], rfl, upd_same, .nil, odd_leaf, B_nil.le (by omega) (by omega), fun _ => odd_leaf⟩⟩) (fun v4 H4 h4 => ?_)
  obtain ⟨S4, kd4⟩ := h4
  -- way 1
  refine ifSetQ (fun v => [some (.int c), some (.ref lt), some (.int way), some v2, some v3, some v, none, none, none, none]) (fun _ => rfl) (fun v H' => Same H3 H' ∧ KdP K way H' v) v4 rfl (fun v5 H5 h5 => ?_) (fun A B' hA hB => ⟨_, rfl, rfl, _, rfl, ite2 (fun h => hA _ fun R r => ⟨_, rfl, c, 25, 5, rfl, by decide, fun i i0 i1 => ⟨_, _, rfl, rfl, (9 + i).toNat, (by rw [Int.toNat_of_nonneg (by omega)]; rfl), by omega, fun r5 H5 S5 h5 => ⟨_, rfl, (by show 2 ≤ sizeLine; decide), fun p g => r _ _ ⟨S4.trans (S5.trans (same_new g _)), p, [r5, v2], [leavesT (9 + i).toNat, t1], rfl, upd_same, .cons (h5.mono (.new g)) (.cons (k1.mono (.of (S4.trans (S5.trans (same_new g _))))) .nil), odd_nine (by omega) _, (B_cons (B_leaves _) (B_tup1 b1)).le (by omega) (by omega), fun _ => odd_nine (by omega) _⟩⟩⟩⟩) (fun h => hB _ ⟨S4, kd4⟩)⟩)
  obtain ⟨S5, kd5⟩ := h5
  -- way 2
  refine ifSetQ (fun v => [some (.int c), some (.ref lt), some (.int way), some v2, some v3, some v, none, none, none, none]) (fun _ => rfl) (fun v H' => Same H3 H' ∧ KdP K way H' v) v5 rfl (fun v6 H6 h6 => ?_) (fun A B' hA hB => ⟨_, rfl, rfl, _, rfl, ite2 (fun h => hA _ fun R r => ⟨_, rfl, c, 25, 6, rfl, by decide, fun i i0 i1 => ⟨_, _, rfl, rfl, (1 + i).toNat, (by rw [Int.toNat_of_nonneg (by omega)]; rfl), by omega, fun r5 H7 S7 h7 => ⟨_, rfl, _, rfl, (by show 3 ≤ sizeLine; decide), fun p g => r _ _ ⟨S5.trans (S7.trans (same_new g _)), p, [r5, v2, v3], [leavesT (1 + i).toNat, t1, t2], rfl, upd_same, .cons (h7.mono (.new g)) (.cons (k1.mono (.of (S5.trans (S7.trans (same_new g _))))) (.cons (k2.mono (.of (S5.trans (S7.trans (same_new g _))))) .nil)), odd_load (by omega) (by omega) _ _, (B_cons (B_leaves _) (B_cons b1 (B_tup1 b2))).le (by omega) (by omega), fun hz => by have := V.int.inj (of_decide_eq_true h); omega⟩⟩⟩⟩) (fun h => hB _ ⟨S5, kd5⟩)⟩)
  obtain ⟨S6, kd6⟩ := h6
  -- way 3
  refine ifSetQ (fun v => [some (.int c), some (.ref lt), some (.int way), some v2, some v3, some v, none, none, none, none]) (fun _ => rfl) (fun v H' => Same H3 H' ∧ KdP K way H' v) v6 rfl (fun v7 H7 h7 => ?_) (fun A B' hA hB => ⟨_, rfl, rfl, _, rfl, ite2 (fun h => hA _ fun R r => ⟨7, rfl, by omega, fun r5 H8 S8 h8 => ⟨(by show 1 ≤ sizeLine; decide), fun p g => r _ _ ⟨S6.trans (S8.trans (same_new g _)), p, [r5], [leavesT 7], rfl, upd_same, .cons (h8.mono (.new g)) .nil, odd_seven, (B_tup1 (B_leaves 7)).le (by omega) (by omega), fun _ => odd_seven⟩⟩⟩) (fun h => hB _ ⟨S6, kd6⟩)⟩)
  obtain ⟨S7, kd7⟩ := h7
  -- way 4
  refine ifAny (fun σ' H' => ∃ (v : V) (o6 o7 o8 : Option V), σ' = [some (.int c), some (.ref lt), some (.int way), some v2, some v3, some v, o6, o7, o8, none] ∧ Same H3 H' ∧ KdP K way H' v) (fun σ' H8 h8 => ?_) (fun A B' hA hB => ⟨_, rfl, rfl, _, rfl, ite2 (fun h => hA _ fun N hN => ?_) (fun h => hB _ ⟨v7, _, _, _, rfl, S7, kd7⟩)⟩)
  rotate_left
  · refine setQ (fun v => [some (.int c), some (.ref lt), some (.int way), some v2, some v3, some v7, some v, none, none, none]) (fun _ => rfl) (fun v H' => H' = H7 ∧ ∃ m : Nat, v = .int (m : Int) ∧ m < 12) (fun R r => ⟨_, rfl, c, 25, 12, rfl, by decide, fun i i0 i1 => r _ _ ⟨rfl, i.toNat, by rw [Int.toNat_of_nonneg i0], by omega⟩⟩) (fun w1 G1 e1 => ?_)
    obtain ⟨rfl, m, rfl, hm⟩ := e1
    refine setQ (fun v => [some (.int c), some (.ref lt), some (.int way), some v2, some v3, some v7, some (.int (m : Int)), some v, none, none]) (fun _ => rfl) (fun v H' => H' = G1 ∧ ∃ k : Nat, v = .int (k : Int) ∧ k ≤ m) (fun R r => ⟨_, rfl, _, rfl, _, _, rfl, rfl, c, 26, _, rfl, by omega, fun i i0 i1 => r _ _ ⟨rfl, i.toNat, by rw [Int.toNat_of_nonneg i0], by omega⟩⟩) (fun w2 G2 e2 => ?_)
    obtain ⟨rfl, k, rfl, hk⟩ := e2
    have k1 := k1.mono (.of S7)
    have k2 := k2.mono (.of S7)
    have z62 := two62
    refine setQ (fun v => [some (.int c), some (.ref lt), some (.int way), some v2, some v3, some v7, some (.int (m : Int)), some (.int (k : Int)), some v, none]) (fun _ => rfl) (fun v H' => Same G2 H' ∧ ∃ l xs, v = .ref l ∧ H' l = some (.lst xs) ∧ Kids K H' (List.replicate k leaf ++ [.node [t1]] ++ List.replicate (m - k) leaf) xs) (fun R r => ⟨Nat.zero_le _, fun p1 g1 => ⟨(by show 2 ≤ sizeLine; decide), fun p2 g2 => ⟨(by show 1 ≤ sizeLine; decide), fun p3 g3 => ?_⟩⟩⟩) (fun w3 G3 e3 => ?_)
    · have s1 := same_new g1 (.tup [])
      have s2 := same_new g2 (.tup [.ref p1, .str (PySem.Str.ofString "()")])
      have s3 := same_new g3 (.lst [.ref p2])
      have kl : KidR K _ leaf (.ref p2) := ⟨p2, .ref p1, rfl, SqT.of (upd_same.trans (by rw [tx_leaf]; rfl)), (leaf_tr upd_same).mono (.of s2)⟩
      have s13 := s1.trans (s2.trans s3)
      refine ⟨_, rfl, p3, (k : Int), _, rfl, rfl, upd_same, by omega, by omega, ?_, fun p4 g4 => ?_⟩
      · rw [Int.toNat_natCast]
        exact small (by show 1 * k ≤ _; omega)
      have s4 := same_new g4 (.lst (List.replicate ((k : Int)).toNat [V.ref p2]).flatten)
      refine ⟨_, rfl, (by show 1 ≤ sizeLine; decide), fun p5 g5 => ?_⟩
      have s5 := same_new g5 (.lst [v2])
      have s15 := s13.trans (s4.trans s5)
      refine ⟨p5, _, [t1], rfl, SqL.of upd_same, .cons (k1.mono (.of s15)) .nil, by rw [T.partsL_cons, T.partsL_nil]; have := b1.2; omega, fun r6 H6 S6 h6 => ⟨(by show 1 ≤ sizeLine; decide), fun p7 g7 => ?_⟩⟩
      have s7 := same_new g7 (.lst [r6])
      have hp4 := s7 _ _ (S6 _ _ (s5 _ _ (upd_same (H := upd (upd (upd G2 p1 (.tup [])) p2 (.tup [.ref p1, .str (PySem.Str.ofString "()")])) p3 (.lst [.ref p2])) (a := p4) (o := .lst (List.replicate ((k : Int)).toNat [V.ref p2]).flatten))))
      refine ⟨p4, p7, _, _, rfl, rfl, hp4, upd_same, ?_, fun p8 g8 => ?_⟩
      · rw [flat_rep, List.length_replicate, Int.toNat_natCast]
        exact small (by show k + 1 ≤ _; omega)
      have s8 := same_new g8 (.lst ((List.replicate ((k : Int)).toNat [V.ref p2]).flatten ++ [r6]))
      refine ⟨Nat.zero_le _, fun q1 h1 => ⟨(by show 2 ≤ sizeLine; decide), fun q2 h2 => ⟨(by show 1 ≤ sizeLine; decide), fun q3 h3 => ?_⟩⟩⟩
      have u1 := same_new h1 (.tup [])
      have u2 := same_new h2 (.tup [.ref q1, .str (PySem.Str.ofString "()")])
      have u3 := same_new h3 (.lst [.ref q2])
      have ku : KidR K _ leaf (.ref q2) := ⟨q2, .ref q1, rfl, SqT.of (upd_same.trans (by rw [tx_leaf]; rfl)), (leaf_tr upd_same).mono (.of u2)⟩
      refine ⟨_, rfl, _, rfl, _, _, rfl, rfl, q3, ((m : Int) - (k : Int)), _, rfl, rfl, upd_same, by omega, by omega, ?_, fun q4 h4 => ?_⟩
      · exact small (by show 1 * ((m : Int) - (k : Int)).toNat ≤ _; omega)
      have u4 := same_new h4 (.lst (List.replicate (((m : Int) - (k : Int))).toNat [V.ref q2]).flatten)
      have hp8 := u4 _ _ (u3 _ _ (u2 _ _ (u1 _ _ (upd_same (H := _) (a := p8) (o := .lst ((List.replicate ((k : Int)).toNat [V.ref p2]).flatten ++ [r6]))))))
      refine ⟨p8, q4, _, _, rfl, rfl, hp8, upd_same, ?_, fun q5 h5 => ?_⟩
      · rw [flat_rep, flat_rep, List.length_append, List.length_replicate, List.length_replicate]
        exact small (by show (k : Int).toNat + 1 + _ ≤ _; omega)
      have u5 := same_new h5 (.lst ((List.replicate ((k : Int)).toNat [V.ref p2]).flatten ++ [r6] ++ (List.replicate (((m : Int) - (k : Int))).toNat [V.ref q2]).flatten))
      have sA := s4.trans (s5.trans (S6.trans (s7.trans (s8.trans (u1.trans (u2.trans (u3.trans (u4.trans u5))))))))
      have sB := s7.trans (s8.trans (u1.trans (u2.trans (u3.trans (u4.trans u5)))))
      refine r _ _ ⟨s13.trans sA, q5, _, rfl, upd_same, ?_⟩
      have el : (List.replicate ((k : Int)).toNat [V.ref p2]).flatten ++ [r6] ++ (List.replicate (((m : Int) - (k : Int))).toNat [V.ref q2]).flatten = List.replicate k (V.ref p2) ++ [r6] ++ List.replicate (m - k) (V.ref q2) := by
        rw [flat_rep, flat_rep, Int.toNat_natCast, show ((m : Int) - (k : Int)).toNat = m - k by omega]
      have hA := ((all2_rep ((kl.mono (.of s3)).mono (.of sA)) k).append (All2.one (h6.mono (.of sB)))).append (all2_rep (ku.mono (.of (u3.trans (u4.trans u5)))) (m - k))
      rw [← el] at hA
      exact hA
    obtain ⟨S9, l9, xs9, rfl, hl9, kd9⟩ := e3
    have bi : B 22 100 (.node (List.replicate k leaf ++ [.node [t1]] ++ List.replicate (m - k) leaf)) := by
      have r1 : ∀ n, n ≤ 12 → B 1 13 (.node (List.replicate n leaf)) := fun n hn => (B_leaves n).le (by omega) (by omega)
      exact (B_cat (r1 (m - k) (by omega)) (B_cat (B_tup1 (B_tup1 b1)) (r1 k (by omega)))).le (by omega) (by omega)
    refine ⟨_, rfl, l9, _, _, rfl, SqL.of hl9, kd9, ?_, fun r10 H10 S10 h10 => ⟨_, rfl, (by show 2 ≤ sizeLine; decide), fun p11 g11 => ?_⟩⟩
    · have := bi.2
      rw [T.parts_node] at this
      omega
    have s11 := same_new g11 (.lst [r10, v3])
    have od : ∀ us, oddT (.node (.node (List.replicate k leaf ++ [.node [t1]] ++ List.replicate (m - k) leaf) :: us)) = true := fun us => odd_in (t := .node [t1]) (by simp) (by intro z; cases z) us
    exact hN _ _ ⟨_, _, _, _, rfl, S7.trans (S9.trans (S10.trans s11)), p11, [r10, v3], [_, t2], rfl, upd_same, .cons (h10.mono (.new g11)) (.cons (k2.mono (.of (S9.trans (S10.trans s11)))) .nil), od _, (B_cons bi (B_tup1 b2)).le (by omega) (by omega), fun _ => od _⟩
  obtain ⟨v8, o6, o7, o8, rfl, S8, kd8⟩ := h8
  -- a load left out
  refine ifSetQ (fun v => [some (.int c), some (.ref lt), some (.int way), some v2, some v3, some v, o6, o7, o8, none]) (fun _ => rfl) (fun v H' => Same H3 H' ∧ KdP K 0 H' v) v8 rfl (fun v9 H9 h9 => ?_) (fun A B' hA hB => ?_)
  rotate_left
  · have kd0 : ∀ {H' : Hp}, Same H8 H' → KdP K 0 H' v8 := fun S => by
      obtain ⟨l, xs, ks, rfl, e1, e2, e3, e4, _⟩ := kd8.mono S
      exact ⟨l, xs, ks, rfl, e1, e2, e3, e4, fun z => by omega⟩
    refine ⟨_, rfl, (by show 2 ≤ sizeLine; decide), fun p1 g1 => ⟨p1, _, rfl, .inr (SqT.of upd_same), rfl, rfl, _, rfl, ?_⟩⟩
    have s1 := same_new g1 (.tup [.int 1, .int 4])
    have ei : (if false = true then !inV (.int way) [.int 1, .int 4] else inV (.int way) [.int 1, .int 4]) = decide (way = 1 ∨ way = 4) := by
      rw [if_neg (by decide)]
      unfold inV
      rw [List.any_cons, List.any_cons, List.any_nil, Bool.or_false]
      show (((1 : Int) == way) || ((4 : Int) == way)) = _
      rw [Bool.eq_iff_iff, Bool.or_eq_true, beq_iff_eq, beq_iff_eq, decide_eq_true_iff]
      omega
    rw [ei]
    refine ite2 (fun hw => ?_) (fun hw => iteF (hB _ ⟨S8.trans s1, kd0 s1⟩))
    refine ⟨_, rfl, c, 32, 2, rfl, by decide, fun i i0 i1 => ⟨rfl, _, rfl, ite2 (fun _ => hA _ fun R r => ?_) (fun _ => hB _ ⟨S8.trans s1, kd0 s1⟩)⟩⟩
    obtain ⟨l, xs, ks, rfl, e1, e2, e3, e4, e5⟩ := kd8.mono s1
    refine ⟨_, rfl, 1, rfl, l, xs, rfl, SqL.of e1, fun p2 g2 => r _ _ ⟨S8.trans (s1.trans (same_new g2 _)), p2, xs.take 1, ks.take 1, rfl, ?_, Kids.mono (.new g2) (e2.take 1), e5 (of_decide_eq_true hw), ?_, fun z => by omega⟩⟩
    · rw [upd_same, show (some (1 : Int)) = some ((1 : Nat) : Int) from rfl, cut_to]
    · have : B 25 190 (.node (ks.take 1 ++ ks.drop 1)) := by rw [List.take_append_drop]; exact e4
      exact B_left this
  obtain ⟨S9, l9, xs9, ks9, rfl, hl9, kk9, od9, b9, _⟩ := h9
  refine setQ (fun v => [some (.int c), some (.ref lt), some (.int way), some v2, some v3, some (.ref l9), o6, o7, o8, some v]) (fun _ => rfl) (fun v H' => Same H9 H' ∧ KidR K H' (.node ks9) v) (fun R r => ⟨_, rfl, l9, _, ks9, rfl, SqL.of hl9, kk9, by have := b9.2; rw [T.parts_node] at this; omega, fun r10 H10 S10 h10 => r _ _ ⟨S10, h10⟩⟩) (fun v10 H10 h10 => ?_)
  obtain ⟨S10, a, x, rfl, qa, ta⟩ := h10
  refine ⟨_, rfl, a, _, 0, x, rfl, rfl, qa, atI_nat (j := 0) rfl, _, rfl, a, _, 1, _, rfl, rfl, qa, atI_nat (j := 1) rfl, _, _, rfl, rfl, ?_, (by show 2 ≤ sizeLine; decide), fun p11 g11 => ?_⟩
  · rw [tx_bang, tx_len, tx_len, T.wr_len]
    exact small (by have := b9.2; show 1 + _ ≤ _; omega)
  · refine q _ (.node ks9) _ (S9.trans (S10.trans (same_new g11 _))) ⟨p11, x, [33 :: (T.node ks9).wr], rfl, SqT.of (upd_same.trans ?_), ta.mono (.new g11), .odd od9⟩ (b9.le (by omega) (by omega)) od9
    rw [tx_bang, tx_append]
    rfl
end
end Sw24

namespace Sw24
open PySem PySem.Spec PyProof.Rows L2 Sw
section
variable {P : Program} {w : World} {K : PySem.W.Frag} {mg : Str → Option Value} {base : Heap} {f : Addr} {fd : FuncData}

def spWordsX (K : PySem.W.Frag) : Sp := fun vs H Q _ => ∃ (lc lt : Addr) (ns : List Int) (xts : List V) (ts : List T), vs = [.ref lc, .ref lt] ∧ H lc = some (.lst (ns.map V.int)) ∧ ns.length ≤ 99 ∧ SqL K H lt xts ∧ Kids K H ts xts ∧ ts ≠ [] ∧ (∀ t ∈ ts, B 20 60 t) ∧
  ∀ l xs ws H', Same H H' → H' l = some (.lst xs) → All2 (WRd K H') ws xs → ws.length ≤ 99 → T.partsL ws ≤ 30000 → T.deepL ws ≤ 300 → Dn ws 99 → Q (.ref l) H'
theorem ok__law_words (m_enumerate : mg "enumerate" = none) (m_min : mg "min" = none) (m_len : mg "len" = none) 
    {a__law_pick : Addr} {d__law_pick : FuncData} (F__law_pick : Fun K "_law_pick" "_law_pick" s__law_pick a__law_pick d__law_pick) (G__law_pick : FnOk P w K mg base CX0 34 a__law_pick d__law_pick ["_law_cell", "_law_turn", "_law_many"] spPick) (b__law_pick : Binds K d__law_pick ["_law_cell", "_law_turn", "_law_many"] []) (m__law_pick : mg "_law_pick" = some (.ref a__law_pick))
    {a__law_word : Addr} {d__law_word : FuncData} (F__law_word : Fun K "_law_word" "_law_word" s__law_word a__law_word d__law_word) (G__law_word : FnOk P w K mg base CX0 34 a__law_word d__law_word ["_law_cell", "_law_way", "_law_trees", "_law_held"] (spWordY K)) (b__law_word : Binds K d__law_word ["_law_cell", "_law_way", "_law_trees", "_law_held"] []) (m__law_word : mg "_law_word" = some (.ref a__law_word))
    (F : Fun K "_law_words" "_law_words" s__law_words f fd) : FnOk P w K mg base CX0 35 f fd ["_law_cells", "_law_trees"] (spWordsX K) := by
  refine okQ F sc__law_words (fun vs H Q E h => ?_) (fun cdv A outer s H vs Q E hr h => ?_)
  · obtain ⟨lc, lt, ns, xts, ts, rfl, _⟩ := h
    rfl
  obtain ⟨lc, lt, ns, xts, ts, rfl, hlc, h99, hlt, htk, hne, hbt, q⟩ := h
  refine ⟨_, (qss_cons (qs_set (i := 2) sc__law_words.nd rfl (Or.inl rfl) (qe_lst qa_nil))
      (qss_cons (qs_for PassesOwn.never rfl (qi_enumL rfl m_enumerate (qv 0)) (qg_tup rfl (qgs_cons (qg_name (i := 3) sc__law_words.nd rfl (Or.inl rfl)) (qgs_cons (qg_name (i := 4) sc__law_words.nd rfl (Or.inl rfl)) qgs_nil))) (qss_cons (qs_set (i := 5) sc__law_words.nd rfl (Or.inl rfl) (qe_callB (call_min2 rfl) rfl m_min bt_min (qa_cons (qe_callB call_len_seq rfl m_len bt_len (qa_cons (qv 2) qa_nil)) (qa_cons (qe_call G__law_pick hr rfl m__law_pick F__law_pick.kp b__law_pick .nil pass0 (qa_cons (qv 4) (qa_cons qe_int (qa_cons qe_int qa_nil)))) qa_nil))))
      (qss_cons (qs_set (i := 6) sc__law_words.nd rfl (Or.inl rfl) (qe_call G__law_pick hr rfl m__law_pick F__law_pick.kp b__law_pick .nil pass0 (qa_cons (qv 4) (qa_cons qe_int (qa_cons qe_int qa_nil)))))
      (qss_cons (qs_if (qt_cmpR op_gt (qv 3) qe_int (nomark _)) (qss_one (qs_set (i := 6) sc__law_words.nd rfl (Or.inl rfl) (qe_op op_mod (qv 6) qe_int))) qss_nil)
      (qss_cons (qs_set (i := 7) sc__law_words.nd rfl (Or.inl rfl) (qe_call G__law_word hr rfl m__law_word F__law_word.kp b__law_word .nil pass0 (qa_cons (qv 4) (qa_cons (qv 6) (qa_cons (qv 1) (qa_cons (qe_slice sl_list (qv 2) (qo_some (qe_op op_sub (qe_callB call_len_seq rfl m_len bt_len (qa_cons (qv 2) qa_nil)) (qv 5))) qo_none) qa_nil))))))
      (qss_cons (qs_if (qt_cmpR op_gt (qv 6) qe_int (nomark _)) (qss_one (qs_set (i := 2) sc__law_words.nd rfl (Or.inl rfl) (qe_slice sl_list (qv 2) qo_none (qo_some (qe_op op_sub (qe_callB call_len_seq rfl m_len bt_len (qa_cons (qv 2) qa_nil)) (qv 5)))))) qss_nil)
      (qss_one (qs_set (i := 2) sc__law_words.nd rfl (Or.inl rfl) (qe_op op_cat (qv 2) (qe_lst (qa_cons (qv 7) qa_nil)))))))))))
      (qss_one (qs_ret (qv 2))))), ?_⟩
  refine ⟨Nat.zero_le _, fun p1 g1 => ?_⟩
  have S1 := same_new g1 (.lst [])
  refine ⟨_, rfl, lc, rfl, ⟨_, SqL.of (S1 _ _ hlc)⟩, ?_⟩
  refine for_enumL (K := K) (xs := ns.map V.int) (fun i σ' H' => ∃ (l : Addr) (xs : List V) (ws : List T) (o3 o4 o5 o6 o7 : Option V), σ' = [some (.ref lc), some (.ref lt), some (.ref l), o3, o4, o5, o6, o7] ∧ Same H H' ∧ H' l = some (.lst xs) ∧ All2 (WRd K H') ws xs ∧ ws.length ≤ i ∧ T.partsL ws ≤ 300 * i ∧ T.deepL ws ≤ 40 + 4 * min i 56 ∧ Dn ws i) ?_ ?_ ?_ ?_
  · exact ⟨p1, [], [], _, _, _, _, _, rfl, S1, upd_same, .nil, Nat.le_refl _, Nat.zero_le _, by rw [T.deepL_nil]; omega, Dn.nil⟩
  · rintro i σ' H' _ ⟨l, xs, ws, o3, o4, o5, o6, o7, rfl, S, h1, _⟩
    exact SqL.of (S _ _ hlc)
  · rintro i x σ' H2 p hx ⟨l, xs, ws, o3, o4, o5, o6, o7, rfl, S, hl, hw, hn, hp, hd, dn⟩ gp
    rw [List.getElem?_map] at hx
    cases hi : ns[i]? with
    | none => rw [hi] at hx; cases hx
    | some c =>
    rw [hi] at hx
    have hx : V.int c = x := Option.some.inj hx
    subst hx
    have hlt99 : i < ns.length := (List.getElem?_eq_some_iff.mp hi).1
    have Sp := same_new gp (.tup [.int i, .int c])
    have hl := Sp _ _ hl
    have hw := hw.imp fun _ _ => WRd.mono (Kt.of Sp)
    have S := S.trans Sp
    have hxl := hw.length
    have hp3 : upd H2 p (.tup [.int i, .int c]) p = some (.tup [.int i, .int c]) := upd_same
    generalize upd H2 p (.tup [.int i, .int c]) = H3 at *
    refine ⟨p, _, rfl, SqT.of hp3, rfl, _, _, rfl, _, _, rfl, rfl, ?_⟩
    refine setQ (fun v => [some (.ref lc), some (.ref lt), some (.ref l), some (.int i), some (.int c), some v, o6, o7]) (fun _ => rfl) (fun v H' => H' = H3 ∧ ∃ m : Nat, v = .int (m : Int) ∧ m ≤ ws.length) (fun R r => ⟨_, rfl, l, xs, rfl, .inl (SqL.of hl), _, rfl, c, 30, 5, rfl, by decide, fun j j0 j1 => ⟨_, _, rfl, r _ _ ⟨rfl, (if j < (xs.length : Int) then j else (xs.length : Int)).toNat, ?_, ?_⟩⟩⟩) (fun v4 H4 h4 => ?_)
    · rw [Int.toNat_of_nonneg (by split <;> omega)]
    · split <;> omega
    obtain ⟨rfl, m, rfl, hm⟩ := h4
    refine setQ (fun v => [some (.ref lc), some (.ref lt), some (.ref l), some (.int i), some (.int c), some (.int (m : Int)), some v, o7]) (fun _ => rfl) (fun v H' => H' = H4 ∧ ∃ w' : Int, v = .int w' ∧ 0 ≤ w' ∧ w' < 8) (fun R r => ⟨_, rfl, c, 27, 8, rfl, by decide, fun j j0 j1 => r _ _ ⟨rfl, j, rfl, j0, j1⟩⟩) (fun v5 H5 h5 => ?_)
    obtain ⟨rfl, w0, rfl, w00, w08⟩ := h5
    refine ifSetQ (fun v => [some (.ref lc), some (.ref lt), some (.ref l), some (.int i), some (.int c), some (.int (m : Int)), some v, o7]) (fun _ => rfl) (fun v H' => H' = H5 ∧ ∃ w' : Int, v = .int w' ∧ (4 < w' → i ≤ 55)) (.int w0) rfl (fun v6 H6 h6 => ?_) (fun A B' hA hB => ⟨_, rfl, _, _, rfl, rfl, _, rfl, ite2 (fun h => hA _ fun R r => ⟨_, rfl, _, _, rfl, rfl, (by show (0 : Int) < 5; decide), r _ _ ⟨rfl, w0 % 5, rfl, fun z => by have := Int.emod_lt_of_pos w0 (show (0 : Int) < 5 by decide); omega⟩⟩) (fun h => hB _ ⟨rfl, w0, rfl, fun _ => by have : ¬ (55 : Int) < (i : Int) := fun z => h (decide_eq_true z); omega⟩)⟩)
    obtain ⟨rfl, way, rfl, hway⟩ := h6
    have hcut : ((xs.length : Int) - (m : Int)) = ((ws.length - m : Nat) : Int) := by omega
    have etd : ws.take (ws.length - m) ++ ws.drop (ws.length - m) = ws := List.take_append_drop _ ws
    have ptd : T.partsL (ws.take (ws.length - m)) + T.partsL (ws.drop (ws.length - m)) = T.partsL ws := by rw [← T.partsL_append, etd]
    have dtd : max (T.deepL (ws.take (ws.length - m))) (T.deepL (ws.drop (ws.length - m))) = T.deepL ws := by rw [← deepL_app, etd]
    have S0 := S
    refine setQ (fun v => [some (.ref lc), some (.ref lt), some (.ref l), some (.int i), some (.int c), some (.int (m : Int)), some (.int way), some v]) (fun _ => rfl) (fun v H' => Same H6 H' ∧ ∃ t, WRd K H' t v ∧ (way ≤ 4 → B 30 200 t) ∧ (4 < way → t.parts ≤ 200 + T.partsL (ws.drop (ws.length - m)) ∧ t.deep ≤ 3 + T.deepL ws) ∧ (way ≤ 4 → ∃ p, One t p) ∧ (4 < way → Br (ws.drop (ws.length - m)) t)) (fun R r => ⟨_, rfl, _, rfl, _, rfl, _, rfl, _, rfl, l, xs, rfl, .inl (SqL.of hl), _, rfl, _, _, rfl, rfl, _, rfl, l, xs, rfl, SqL.of hl, fun p7 g7 => ?_⟩) (fun v7 H7 h7 => ?_)
    · have S7 := same_new g7 (.lst (cutV xs (some ((xs.length : Int) - (m : Int))) none))
      have S67 := S0.trans S7
      refine ⟨c, way, lt, p7, xts, _, ts, ws.drop (ws.length - m), rfl, S67.seq hlt, Kids.mono (.of S67) htk, hne, hbt, SqL.of upd_same, ?_, ?_, by omega, fun r8 t H8 S8 h8 hpd h4 h5 o6 o7 => r _ _ ⟨S7.trans S8, t, h8, h4, fun z => ⟨hpd.1, by have := h5 z; omega⟩, o6, o7⟩⟩
      · have e2 := (hw.drop (ws.length - m)).imp fun _ _ => WRd.mono (Kt.of S7)
        rw [← cut_from xs (ws.length - m), ← hcut] at e2
        exact e2
      · rw [List.length_drop]
        omega
    obtain ⟨S7, t, wt, wt4, wt5, wt6, wt7⟩ := h7
    have wt' : WRd K H7 t v7 := wt
    refine ifSetQ (fun v => [some (.ref lc), some (.ref lt), some v, some (.int i), some (.int c), some (.int (m : Int)), some (.int way), some v7]) (fun _ => rfl) (fun v H' => Same H7 H' ∧ ∃ l' xs' ws', v = .ref l' ∧ H' l' = some (.lst xs') ∧ All2 (WRd K H') ws' xs' ∧ ws'.length ≤ ws.length ∧ T.partsL ws' + t.parts ≤ T.partsL ws + 200 ∧ T.deepL ws' ≤ T.deepL ws ∧ t.deep + 1 ≤ 40 + 4 * min (i + 1) 56 ∧ Dn (ws' ++ [t]) (i + 1)) (.ref l) rfl (fun v8 H8 h8 => ?_) (fun A B' hA hB => ⟨_, rfl, _, _, rfl, rfl, _, rfl, ite2 (fun h => hA _ fun R r => ⟨_, rfl, _, rfl, l, xs, rfl, .inl (SqL.of (S7 _ _ hl)), _, rfl, _, _, rfl, rfl, _, rfl, l, xs, rfl, SqL.of (S7 _ _ hl), fun p8 g8 => r _ _ ?_⟩) (fun h => hB _ ?_)⟩)
    rotate_left
    · have h5 := of_decide_eq_true h
      have hi55 := hway h5
      have hw5 := wt5 h5
      have S8 := same_new g8 (.lst (cutV xs none (some ((xs.length : Int) - (m : Int)))))
      refine ⟨S8, p8, _, ws.take (ws.length - m), rfl, upd_same, ?_, by rw [List.length_take]; omega, by omega, by omega, by omega, Dn.br (by rw [etd]; exact dn) (wt7 h5)⟩
      have e2 := (hw.take (ws.length - m)).imp fun _ _ => WRd.mono (Kt.of (S7.trans S8))
      rw [← cut_to xs (ws.length - m), ← hcut] at e2
      exact e2
    · have h5 : ¬ 4 < way := fun z => h (decide_eq_true z)
      have b4 := wt4 (by omega)
      exact ⟨Same.refl _, l, xs, ws, rfl, S7 _ _ hl, hw.imp fun _ _ => WRd.mono (Kt.of S7), Nat.le_refl _, by have := b4.2; omega, Nat.le_refl _, by have := b4.1; omega, by obtain ⟨p, ho⟩ := wt6 (by omega); exact dn.one ho b4⟩
    obtain ⟨S8, l', xs', ws', rfl, hl', hw', hn', hp', hd', ht', dn'⟩ := h8
    have hxl' := hw'.length
    refine ⟨_, rfl, _, rfl, (by show 1 ≤ sizeLine; decide), fun p9 g9 => ⟨l', p9, xs', [v7], rfl, rfl, (same_new g9 _) _ _ hl', upd_same, small (by show xs'.length + 1 ≤ _; omega), fun p10 g10 => ?_⟩⟩
    have s9 := (same_new g9 (.lst [v7])).trans (same_new g10 (.lst (xs' ++ [v7])))
    refine ⟨p10, xs' ++ [v7], ws' ++ [t], _, _, _, _, _, rfl, S0.trans (S7.trans (S8.trans s9)), upd_same, (hw'.imp fun _ _ => WRd.mono (Kt.of s9)).append (All2.one (wt'.mono (Kt.of (S8.trans s9)))), ?_, ?_, ?_, dn'⟩
    · rw [List.length_append, List.length_singleton]
      omega
    · rw [T.partsL_append, T.partsL_cons, T.partsL_nil]
      omega
    · rw [deepL_app, T.deepL_cons, T.deepL_nil]
      omega
  · rintro σ' H' ⟨l, xs, ws, o3, o4, o5, o6, o7, rfl, S, hl, hw, hn, hp, hd, dn⟩
    rw [List.length_map] at hn hp hd dn
    exact ⟨_, rfl, q l xs ws H' S hl hw (by omega) (by omega) (by omega) (dn.mono h99)⟩
end
end Sw24

namespace Sw24
open PySem PySem.Spec PyProof.Rows L2 Sw
section
variable {P : Program} {w : World} {K : PySem.W.Frag} {mg : Str → Option Value} {base : Heap} {f : Addr} {fd : FuncData}

theorem lc_nums {H1 : Hp} {n : Nat} {lo : Int} {σ : Sg} {js : List Nat} {te : TE} {Q : VK} (hn : n ≤ sizeLine)
    (hte : ∀ (i : Nat) H' (R : VK), i < n → Same H1 H' → (∀ z H3, Same H' H3 → R (.int z) H3) → te (some (.int (lo + i)) :: frv σ js) H' R)
    (q : ∀ D (ns : List Int) H', Same H1 H' → H' D = some (.lst (ns.map V.int)) → ns.length = n → Q (.ref D) H') : LcRun (Itr lo n) js te σ Q H1 := by
  refine lc_rangeI (fun D i ys H' => H1 D = none ∧ Same H1 H' ∧ H' D = some (.lst ys) ∧ ys.length = i ∧ ∃ ns : List Int, ys = ns.map V.int) hn (fun D hD => ?_) (fun D i ys H' j => ⟨j.2.2.1, j.2.2.2.1⟩) (fun D i ys H' R hi j hR => ?_) (fun D ys H' j => ?_)
  · exact ⟨hD, same_new hD _, upd_same, rfl, [], rfl⟩
  · obtain ⟨hD, S, h1, hl, ns, rfl⟩ := j
    refine hte i H' R hi S fun z H3 S3 => ?_
    have h3 := S3 _ _ h1
    exact hR (.int z) H3 h3 ⟨hD, same_upd (S.trans S3) hD, upd_same, by rw [List.length_append, hl]; rfl, ns ++ [z], by rw [List.map_append]; rfl⟩
  · obtain ⟨hD, S, h1, hl, ns, rfl⟩ := j
    exact q D ns H' S h1 (by rw [List.length_map] at hl; exact hl)
theorem and_false {t u : TT} {σ : Sg} {H : Hp} {Q : Bool → Hp → Prop} {P : Hp → Prop} (k : ∀ H', P H' → Q false H') (h : ∀ R : Bool → Hp → Prop, (∀ H', P H' → R false H') → tAnd t u σ H R) : tAnd t u σ H Q := h Q k
def spDrawnW (K : PySem.W.Frag) : Sp := fun vs H Q _ => ∃ (l : Addr) (ns : List Int), vs = [.ref l, .int 2] ∧ SqL K H l (ns.map V.int) ∧ ns.length ≤ 63 ∧
  ∀ l xs ws H', Same H H' → H' l = some (.lst xs) → All2 (WRd K H') ws xs → ws.length ≤ 99 → T.partsL ws ≤ 30000 → T.deepL ws ≤ 300 → Dn ws 99 → Q (.ref l) H'
def badA : List (List Nat) := [[108, 97, 121], [68, 114, 111, 112], [100, 114, 111, 112, 115], [116, 119, 105, 110, 44], [102, 111, 114, 107, 91], [119, 104, 105, 108, 101, 91], [91, 93], [39], [39, 39, 40, 41], [39, 40], [39, 40, 41, 41], [39, 40, 41, 40, 41]]
theorem badA_tx : [V.str (PySem.Str.ofString "lay"), V.str (PySem.Str.ofString "Drop"), V.str (PySem.Str.ofString "drops"), V.str (PySem.Str.ofString "twin,"), V.str (PySem.Str.ofString "fork["), V.str (PySem.Str.ofString "while["), V.str (PySem.Str.ofString "[]"), V.str (PySem.Str.ofString "'"), V.str (PySem.Str.ofString "''()"), V.str (PySem.Str.ofString "'("), V.str (PySem.Str.ofString "'())"), V.str (PySem.Str.ofString "'()()")] = badA.map fun c => V.str (tx c) := by
  rw [show PySem.Str.ofString "lay" = tx [108, 97, 121] by decide +kernel, show PySem.Str.ofString "Drop" = tx [68, 114, 111, 112] by decide +kernel, show PySem.Str.ofString "drops" = tx [100, 114, 111, 112, 115] by decide +kernel, show PySem.Str.ofString "twin," = tx [116, 119, 105, 110, 44] by decide +kernel, show PySem.Str.ofString "fork[" = tx [102, 111, 114, 107, 91] by decide +kernel, show PySem.Str.ofString "while[" = tx [119, 104, 105, 108, 101, 91] by decide +kernel, show PySem.Str.ofString "[]" = tx [91, 93] by decide +kernel, show PySem.Str.ofString "'" = tx [39] by decide +kernel, show PySem.Str.ofString "''()" = tx [39, 39, 40, 41] by decide +kernel, show PySem.Str.ofString "'(" = tx [39, 40] by decide +kernel, show PySem.Str.ofString "'())" = tx [39, 40, 41, 41] by decide +kernel, show PySem.Str.ofString "'()()" = tx [39, 40, 41, 40, 41] by decide +kernel]
  rfl
def badB : List (List Nat) := [[33], [33, 40], [33, 40, 41, 40, 41], [40, 41], [91, 100, 114, 111, 112, 93], [102, 114, 111, 110, 116, 93], [40, 40], [34, 100, 114, 111, 112, 34]]
theorem badB_tx : [V.str (PySem.Str.ofString "!"), V.str (PySem.Str.ofString "!("), V.str (PySem.Str.ofString "!()()"), V.str (PySem.Str.ofString "()"), V.str (PySem.Str.ofString "[drop]"), V.str (PySem.Str.ofString "front]"), V.str (PySem.Str.ofString "(("), V.str (PySem.Str.ofString "\"drop\"")] = badB.map fun c => V.str (tx c) := by
  rw [show PySem.Str.ofString "!" = tx [33] by decide +kernel, show PySem.Str.ofString "!(" = tx [33, 40] by decide +kernel, show PySem.Str.ofString "!()()" = tx [33, 40, 41, 40, 41] by decide +kernel, show PySem.Str.ofString "()" = tx [40, 41] by decide +kernel, show PySem.Str.ofString "[drop]" = tx [91, 100, 114, 111, 112, 93] by decide +kernel, show PySem.Str.ofString "front]" = tx [102, 114, 111, 110, 116, 93] by decide +kernel, show PySem.Str.ofString "((" = tx [40, 40] by decide +kernel, show PySem.Str.ofString "\"drop\"" = tx [34, 100, 114, 111, 112, 34] by decide +kernel]
  rfl

theorem bad_all : ∀ p ∈ badA ++ badB, BadP p := fun p hp => badP_of (List.all_eq_true.mp (show ((badA ++ badB).all fun p => (decide (32 ∉ p) && decide (treeP p.tail = none ∨ p.length ≤ 12) && decide (p.length ≤ 12) && decide (p ≠ [91]) && decide (p ≠ nmC 7) && decide (p ≠ nmC 8) && decide (p ≠ [124]) && decide (p ≠ [93]) && (wordP p).isNone)) = true by decide +kernel) p hp)
def spBadPiece (K : PySem.W.Frag) : Sp := fun vs H Q _ => ∃ (c : Int) (lt : Addr) (xts : List V) (ts : List T), vs = [.int c, .ref lt] ∧ SqL K H lt xts ∧ Kids K H ts xts ∧ ts ≠ [] ∧ (∀ t ∈ ts, B 20 60 t) ∧ ∀ p H', Same H H' → BadP p → Q (.str (tx p)) H'
theorem tx_bangL : PySem.Str.ofString "!(" = tx [33, 40] := by decide +kernel
theorem plain_odd {k : Nat} (h1 : 1 ≤ k) (h6 : k ≤ 6) : oddT (wordT k []) = false := by
  have : k = 1 ∨ k = 2 ∨ k = 3 ∨ k = 4 ∨ k = 5 ∨ k = 6 := by omega
  rcases this with rfl | rfl | rfl | rfl | rfl | rfl <;> decide
theorem leaves_small {k : Nat} (h : k ≤ 8) : (leavesT k).deep ≤ 1 ∧ (leavesT k).parts ≤ 9 := by
  have : k = 0 ∨ k = 1 ∨ k = 2 ∨ k = 3 ∨ k = 4 ∨ k = 5 ∨ k = 6 ∨ k = 7 ∨ k = 8 := by omega
  rcases this with rfl | rfl | rfl | rfl | rfl | rfl | rfl | rfl | rfl <;> decide
theorem ok__law_drawn (m_range : mg "range" = none) 
    {a__law_at : Addr} {d__law_at : FuncData} (F__law_at : Fun K "_law_at" "_law_at" s__law_at a__law_at d__law_at) (G__law_at : FnOk P w K mg base CX0 35 a__law_at d__law_at ["_law_script", "_law_k"] (spAt K)) (b__law_at : Binds K d__law_at ["_law_script", "_law_k"] []) (m__law_at : mg "_law_at" = some (.ref a__law_at))
    {a__law_pick : Addr} {d__law_pick : FuncData} (F__law_pick : Fun K "_law_pick" "_law_pick" s__law_pick a__law_pick d__law_pick) (G__law_pick : FnOk P w K mg base CX0 35 a__law_pick d__law_pick ["_law_cell", "_law_turn", "_law_many"] spPick) (b__law_pick : Binds K d__law_pick ["_law_cell", "_law_turn", "_law_many"] []) (m__law_pick : mg "_law_pick" = some (.ref a__law_pick))
    {a__law_grown : Addr} {d__law_grown : FuncData} (F__law_grown : Fun K "_law_grown" "_law_grown" s__law_grown a__law_grown d__law_grown) (G__law_grown : FnOk P w K mg base CX0 35 a__law_grown d__law_grown ["_law_cells"] (spGrownP K)) (b__law_grown : Binds K d__law_grown ["_law_cells"] []) (m__law_grown : mg "_law_grown" = some (.ref a__law_grown))
    {a__law_words : Addr} {d__law_words : FuncData} (F__law_words : Fun K "_law_words" "_law_words" s__law_words a__law_words d__law_words) (G__law_words : FnOk P w K mg base CX0 35 a__law_words d__law_words ["_law_cells", "_law_trees"] (spWordsX K)) (b__law_words : Binds K d__law_words ["_law_cells", "_law_trees"] []) (m__law_words : mg "_law_words" = some (.ref a__law_words))
    (F : Fun K "_law_drawn" "_law_drawn" s__law_drawn f fd) : FnOk P w K mg base CX0 36 f fd ["_law_script", "_law_start"] (spDrawnW K) := by
  refine okQ F sc__law_drawn (fun vs H Q E h => ?_) (fun cdv A outer s H vs Q E hr h => ?_)
  · obtain ⟨l, ns, rfl, _⟩ := h
    rfl
  obtain ⟨l, ns, rfl, hl, h63, q⟩ := h
  refine ⟨_, (qss_cons (qs_set (i := 2) sc__law_drawn.nd rfl (Or.inl rfl) (qe_slice sl_list (qv 0) (qo_some (qv 1)) (qo_some (qe_op op_add (qv 1) qe_int))))
      (qss_cons (qs_if (qt_cmpR op_eq (qe_op op_mod (qe_call G__law_at hr rfl m__law_at F__law_at.kp b__law_at .nil pass0 (qa_cons (qv 0) (qa_cons qe_int qa_nil))) qe_int) qe_int (nomark _)) (qss_one (qs_setLC (i := 2) sc__law_drawn.nd rfl (Or.inl rfl) rfl (lc_free (fr := ["_law_script"]) (js := [0]) (sc := defScope s__law_drawn) rfl rfl rfl (by decide +kernel) (by decide +kernel) (by decide +kernel) (by decide +kernel) (by exact ⟨⟨rfl, rfl, rfl⟩, trivial⟩) (by decide +kernel) (fun y hy => cell_has hy)) (qi_range1 rfl m_range (qa_cons (qe_op op_mod (qe_op op_fdiv (qe_call G__law_at hr rfl m__law_at F__law_at.kp b__law_at .nil pass0 (qa_cons (qv 0) (qa_cons qe_int qa_nil))) qe_int) qe_int) qa_nil)) (fun _ _ _ _ _ => (qe_call G__law_pick hr rfl m__law_pick F__law_pick.kp b__law_pick .nil pass0 (qa_cons (qe_op op_add (qe_call G__law_at hr rfl m__law_at F__law_at.kp b__law_at .nil pass0 (qa_cons (qv 1) (qa_cons qe_int qa_nil))) (qv 0)) (qa_cons qe_int (qa_cons qe_int qa_nil))))))) qss_nil)
      (qss_cons (qs_set (i := 3) sc__law_drawn.nd rfl (Or.inl rfl) (qe_op op_cat (qe_lst (qa_cons (qe_tup (qa_cons (qe_tup qa_nil) (qa_cons qe_str qa_nil))) qa_nil)) (qe_call G__law_grown hr rfl m__law_grown F__law_grown.kp b__law_grown .nil pass0 (qa_cons (qe_lc rfl (lc_free (fr := ["_law_script"]) (js := [0]) (sc := defScope s__law_drawn) rfl rfl rfl (by decide +kernel) (by decide +kernel) (by decide +kernel) (by decide +kernel) (by exact ⟨⟨rfl, rfl, rfl⟩, trivial⟩) (by decide +kernel) (fun y hy => cell_has hy)) (qi_range1 rfl m_range (qa_cons qe_int qa_nil)) (fun _ _ _ _ _ => (qe_op op_add (qe_call G__law_at hr rfl m__law_at F__law_at.kp b__law_at .nil pass0 (qa_cons (qv 1) (qa_cons (qe_op op_add qe_int (qv 0)) qa_nil))) (qv 0)))) qa_nil))))
      (qss_one (qs_ret (qe_call G__law_words hr rfl m__law_words F__law_words.kp b__law_words .nil pass0 (qa_cons (qv 2) (qa_cons (qv 3) qa_nil)))))))), ?_⟩
  refine setQ (fun v => [some (.ref l), some (.int 2), some v, none]) (fun _ => rfl) (fun v H' => Same H H' ∧ ∃ (lc : Addr) (ms : List Int), v = .ref lc ∧ H' lc = some (.lst (ms.map V.int)) ∧ ms.length ≤ 99) (fun R r => ?_) (fun v1 H1 h1 => ?_)
  · refine ⟨_, rfl, _, rfl, 2, rfl, _, rfl, _, _, rfl, rfl, 58, rfl, l, _, rfl, hl, fun p1 g1 => r _ _ ⟨same_new g1 _, ?_⟩⟩
    obtain ⟨kk, ecut⟩ := cut_mid (ns.map V.int) 2 58
    have e5 : cutV (ns.map V.int) (some 2) (some 58) = ((ns.drop (min 2 ns.length)).take kk).map V.int := by
      have := ecut
      rw [List.length_map] at this
      rw [List.map_take, List.map_drop]
      exact this
    exact ⟨p1, (ns.drop (min 2 ns.length)).take kk, rfl, by rw [upd_same, e5], by rw [List.length_take, List.length_drop]; omega⟩
  obtain ⟨S1, lc1, ms1, rfl, hc1, hm1⟩ := h1
  refine ifSetQ (fun v => [some (.ref l), some (.int 2), some v, none]) (fun _ => rfl) (fun v H' => Same H H' ∧ ∃ (lc : Addr) (ms : List Int), v = .ref lc ∧ H' lc = some (.lst (ms.map V.int)) ∧ ms.length ≤ 99) (.ref lc1) rfl (fun v2 H2 h2 => ?_) (fun A B' hA hB => ⟨_, rfl, l, 0, ns, rfl, S1.seq hl, by decide, fun i0 H2 S2 => ⟨_, _, rfl, rfl, (by show (0 : Int) < 6; decide), rfl, _, rfl, ite2 (fun h => hA _ fun R r => ?_) (fun h => hB _ ⟨S1.trans S2, lc1, ms1, rfl, S2 _ _ hc1, hm1⟩)⟩⟩)
  rotate_left
  · refine ⟨_, rfl, l, 0, ns, rfl, (S1.trans S2).seq hl, by decide, fun i1 H3 S3 => ⟨_, _, rfl, rfl, ⟨by decide, by decide⟩, _, _, rfl, rfl, (by show (0 : Int) < 100; decide), _, rfl, ?_⟩⟩
    have m0 : 0 ≤ i1 / 6 % 100 := Int.emod_nonneg _ (by decide)
    have m1 : i1 / 6 % 100 < 100 := Int.emod_lt_of_pos _ (by decide)
    refine ⟨by omega, by omega, lc_nums (n := (i1 / 6 % 100).toNat) (small (by omega)) (fun i H4 R4 hi S4 r4 => ⟨_, rfl, l, 1, ns, rfl, (S1.trans (S2.trans (S3.trans S4))).seq hl, by decide, fun i2 H5 S5 => ⟨_, rfl, _, _, rfl, rfl, _, _, _, rfl, by decide, fun z _ _ => r4 _ _ S5⟩⟩) (fun D ms H4 S4 h4 hm => r _ _ ⟨S1.trans (S2.trans (S3.trans S4)), D, ms, rfl, h4, by omega⟩)⟩
  obtain ⟨S2, lc2, ms2, rfl, hc2, hm2⟩ := h2
  refine setQ (fun v => [some (.ref l), some (.int 2), some (.ref lc2), some v]) (fun _ => rfl) (fun v H' => Same H2 H' ∧ ∃ (lt : Addr) (xts : List V) (ts : List T), v = .ref lt ∧ H' lt = some (.lst xts) ∧ Kids K H' ts xts ∧ ts ≠ [] ∧ ∀ t ∈ ts, B 20 60 t) (fun R r => ?_) (fun v3 H3 h3 => ?_)
  · refine ⟨Nat.zero_le _, fun p3 g3 => ⟨(by show 2 ≤ sizeLine; decide), fun p4 g4 => ⟨(by show 1 ≤ sizeLine; decide), fun p5 g5 => ?_⟩⟩⟩
    obtain ⟨S3, t3⟩ := tupN (K := K) (ts := []) g3 (TRs_nil.mpr rfl)
    have S4 := same_new g4 (.tup [.ref p3, .str (PySem.Str.ofString "()")])
    have k4 : KidR K (upd (upd H2 p3 (.tup [])) p4 (.tup [.ref p3, .str (PySem.Str.ofString "()")])) (.node []) (.ref p4) := ⟨p4, .ref p3, rfl, SqT.of (by rw [upd_same, tx_leaf]; rfl), t3.mono (.of S4)⟩
    have S5 := same_new g5 (.lst [V.ref p4])
    have h5 := upd_same (H := upd (upd H2 p3 (.tup [])) p4 (.tup [.ref p3, .str (PySem.Str.ofString "()")])) (a := p5) (o := .lst [V.ref p4])
    have k5 := k4.mono (.of S5)
    have S25 := S3.trans (S4.trans S5)
    generalize upd (upd (upd H2 p3 (.tup [])) p4 (.tup [.ref p3, .str (PySem.Str.ofString "()")])) p5 (.lst [V.ref p4]) = H5 at S25 k5 h5
    refine ⟨9, rfl, by decide, by decide, lc_nums (n := 9) (small (by omega)) (fun i H6 R6 hi S6 r6 => ⟨_, rfl, _, rfl, _, _, rfl, rfl, l, _, ns, rfl, (S2.trans (S25.trans S6)).seq hl, by omega, fun i2 H7 S7 => ⟨_, rfl, _, _, rfl, rfl, r6 _ _ S7⟩⟩) (fun D ms H6 S6 h6 hm => ⟨D, ms, rfl, SqL.of h6, by omega, fun r7 xs7 ts7 H7 S7 h7 k7 z7 _ => ?_⟩)⟩
    have hx7 := k7.length
    have hp7 := T.len_le_parts ts7
    refine ⟨p5, r7, _, xs7, rfl, rfl, (S6.trans S7) _ _ h5, h7, small (by show 1 + xs7.length ≤ _; omega), fun p8 g8 => r _ _ ⟨S25.trans (S6.trans (S7.trans (same_new g8 _))), p8, _, .node [] :: ts7, rfl, upd_same, ?_, by simp, fun t ht => ?_⟩⟩
    · have S8 := same_new g8 (.lst ([V.ref p4] ++ xs7))
      exact All2.cons (k5.mono (.of (S6.trans (S7.trans S8)))) (k7.imp fun _ _ z => z.mono (.of S8))
    · rcases List.mem_cons.mp ht with rfl | ht
      · exact ⟨by rw [T.deep_node, T.deepL_nil]; omega, by rw [T.parts_node, T.partsL_nil]; omega⟩
      · have h1 := T.mem_parts ht
        have h2 := T.deep_lt t
        exact ⟨by omega, by omega⟩
  obtain ⟨S3, lt, xts, ts, rfl, hlt, hkt, hne, hbt⟩ := h3
  exact ⟨_, rfl, _, rfl, lc2, lt, ms2, xts, ts, rfl, S3 _ _ hc2, hm2, SqL.of hlt, hkt, hne, hbt, fun l' xs ws H' S' h1 h2 h3 h4 h5 h6 => q l' xs ws H' (S2.trans (S3.trans S')) h1 h2 h3 h4 h5 h6⟩
theorem ok__law_bad_piece (m_len : mg "len" = none) 
    {a__law_pick : Addr} {d__law_pick : FuncData} (F__law_pick : Fun K "_law_pick" "_law_pick" s__law_pick a__law_pick d__law_pick) (G__law_pick : FnOk P w K mg base CX0 32 a__law_pick d__law_pick ["_law_cell", "_law_turn", "_law_many"] spPick) (b__law_pick : Binds K d__law_pick ["_law_cell", "_law_turn", "_law_many"] []) (m__law_pick : mg "_law_pick" = some (.ref a__law_pick))
    {a__law_leaves : Addr} {d__law_leaves : FuncData} (F__law_leaves : Fun K "_law_leaves" "_law_leaves" s__law_leaves a__law_leaves d__law_leaves) (G__law_leaves : FnOk P w K mg base CX0 32 a__law_leaves d__law_leaves ["_law_many"] (spLeavesP K)) (b__law_leaves : Binds K d__law_leaves ["_law_many"] []) (m__law_leaves : mg "_law_leaves" = some (.ref a__law_leaves))
    (F : Fun K "_law_bad_piece" "_law_bad_piece" s__law_bad_piece f fd) : FnOk P w K mg base CX0 33 f fd ["_law_cell", "_law_trees"] (spBadPiece K) := by
  refine okQ F sc__law_bad_piece (fun vs H Q E h => ?_) (fun cdv A outer s H vs Q E hr h => ?_)
  · obtain ⟨c, lt, xts, ts, rfl, _⟩ := h
    rfl
  obtain ⟨c, lt, xts, ts, rfl, hlt, htk, hne, hbt, q⟩ := h
  refine ⟨_, (qss_cons (qs_set (i := 2) sc__law_bad_piece.nd rfl (Or.inl rfl) (qe_lst (qa_cons qe_str (qa_cons qe_str (qa_cons qe_str (qa_cons qe_str (qa_cons qe_str (qa_cons qe_str (qa_cons qe_str (qa_cons qe_str (qa_cons qe_str (qa_cons qe_str (qa_cons qe_str (qa_cons qe_str qa_nil))))))))))))))
      (qss_cons (qs_set (i := 2) sc__law_bad_piece.nd rfl (Or.inl rfl) (qe_op op_cat (qv 2) (qe_lst (qa_cons qe_str (qa_cons qe_str (qa_cons qe_str (qa_cons qe_str (qa_cons qe_str (qa_cons qe_str (qa_cons qe_str (qa_cons qe_str qa_nil)))))))))))
      (qss_cons (qs_set (i := 3) sc__law_bad_piece.nd rfl (Or.inl rfl) (qe_call G__law_pick hr rfl m__law_pick F__law_pick.kp b__law_pick .nil pass0 (qa_cons (qv 0) (qa_cons qe_int (qa_cons qe_int qa_nil)))))
      (qss_cons (qs_if (qt_cmpR op_lt (qv 3) qe_int (nomark _)) (qss_one (qs_ret (qe_ix ix_list (qv 2) (qv 3) (fun _ _ => rfl)))) qss_nil)
      (qss_cons (qs_set (i := 4) sc__law_bad_piece.nd rfl (Or.inl rfl) (qe_call G__law_pick hr rfl m__law_pick F__law_pick.kp b__law_pick .nil pass0 (qa_cons (qv 0) (qa_cons qe_int (qa_cons qe_int qa_nil)))))
      (qss_cons (qs_set (i := 5) sc__law_bad_piece.nd rfl (Or.inl rfl) (qe_ix ix_list (qv 1) (qe_call G__law_pick hr rfl m__law_pick F__law_pick.kp b__law_pick .nil pass0 (qa_cons (qv 0) (qa_cons qe_int (qa_cons (qe_callB call_len_seq rfl m_len bt_len (qa_cons (qv 1) qa_nil)) qa_nil)))) (fun _ _ => rfl)))
      (qss_cons (qs_if (qt_chain op_lt op_lt qe_int (qv 4) qe_int) (qss_one (qs_ret (qe_op op_add_str (qe_op op_add_str qe_str (qe_ix ix_tup (qe_call G__law_leaves hr rfl m__law_leaves F__law_leaves.kp b__law_leaves .nil pass0 (qa_cons (qv 4) qa_nil)) qe_int (fun _ _ => rfl))) qe_str))) qss_nil)
      (qss_cons (qs_if (qt_cmpR op_eq (qv 4) qe_int (nomark _)) (qss_one (qs_ret (qe_op op_add_str (qe_op op_add_str (qe_op op_add_str qe_str (qe_ix ix_tup (qe_call G__law_leaves hr rfl m__law_leaves F__law_leaves.kp b__law_leaves .nil pass0 (qa_cons qe_int qa_nil)) qe_int (fun _ _ => rfl))) (qe_ix ix_tup (qv 5) qe_int (fun _ _ => rfl))) qe_str))) qss_nil)
      (qss_one (qs_ret (qe_op op_add_str (qe_op op_add_str qe_str (qe_ix ix_tup (qe_call G__law_leaves hr rfl m__law_leaves F__law_leaves.kp b__law_leaves .nil pass0 (qa_cons (qv 4) qa_nil)) qe_int (fun _ _ => rfl))) (qe_slice sl_str (qe_ix ix_tup (qv 5) qe_int (fun _ _ => rfl)) (qo_some qe_int) qo_none)))))))))))), ?_⟩
  have hxl := htk.length
  have hpos : (0 : Int) < (xts.length : Int) := by
    have : 0 < ts.length := List.length_pos_iff.mpr hne
    omega
  refine setQ (fun v => [some (.int c), some (.ref lt), some v, none, none, none]) (fun _ => rfl) (fun v H' => ∃ l, v = .ref l ∧ Same H H' ∧ H' l = some (.lst (badA.map fun c => V.str (tx c)))) (fun R r => ⟨(by show 12 ≤ sizeLine; decide), fun l g => r _ _ ⟨l, rfl, same_new g _, by rw [upd_same, ← badA_tx]⟩⟩) (fun v1 H1 h1 => ?_)
  obtain ⟨l1, rfl, S1, hl1⟩ := h1
  refine setQ (fun v => [some (.int c), some (.ref lt), some v, none, none, none]) (fun _ => rfl) (fun v H' => ∃ l, v = .ref l ∧ Same H H' ∧ H' l = some (.lst ((badA ++ badB).map fun c => V.str (tx c)))) (fun R r => ⟨_, rfl, (by show 8 ≤ sizeLine; decide), fun l g => ?_⟩) (fun v2 H2 h2 => ?_)
  · refine ⟨l1, l, _, _, rfl, rfl, (same_new g _) _ _ hl1, upd_same, small (by rw [List.length_map]; decide), fun p6 g6 => r _ _ ⟨p6, rfl, S1.trans ((same_new g _).trans (same_new g6 _)), ?_⟩⟩
    rw [upd_same, badB_tx, List.map_append]
  obtain ⟨l2, rfl, S2, hl2⟩ := h2
  refine setQ (fun v => [some (.int c), some (.ref lt), some (.ref l2), some v, none, none]) (fun _ => rfl) (fun v H' => H' = H2 ∧ ∃ k : Int, v = .int k ∧ 0 ≤ k ∧ k < 28) (fun R r => ⟨_, rfl, c, 41, 28, rfl, by decide, fun i i0 i1 => r _ _ ⟨rfl, i, rfl, i0, i1⟩⟩) (fun v3 H3 h3 => ?_)
  obtain ⟨rfl, k, rfl, k0, k1⟩ := h3
  refine ⟨_, rfl, _, _, rfl, rfl, _, rfl, ite2 (fun hk => ?_) (fun _ => ?_)⟩
  · have hk : k < 20 := of_decide_eq_true hk
    obtain ⟨kn, rfl⟩ : ∃ n : Nat, k = (n : Int) := ⟨k.toNat, by omega⟩
    have hlt : kn < (badA ++ badB).length := by show kn < 20; omega
    have e := List.getElem?_eq_getElem hlt
    refine ⟨_, rfl, _, rfl, l2, _, _, _, rfl, rfl, SqL.of hl2, atI_nat (j := kn) (by rw [List.getElem?_map, e]; rfl), q _ _ S2 (bad_all _ (List.getElem_mem hlt))⟩
  dsimp only [tNext]
  refine setQ (fun v => [some (.int c), some (.ref lt), some (.ref l2), some (.int k), some v, none]) (fun _ => rfl) (fun v H' => H' = H3 ∧ ∃ n : Nat, v = .int (n : Int) ∧ n ≤ 8) (fun R r => ⟨_, rfl, c, 42, 9, rfl, by decide, fun i i0 i1 => r _ _ ⟨rfl, i.toNat, by rw [Int.toNat_of_nonneg i0], by omega⟩⟩) (fun v4 H4 h4 => ?_)
  obtain ⟨rfl, n, rfl, hn8⟩ := h4
  have hlt4 : SqL K H4 lt xts := S2.seq hlt
  have htk4 : Kids K H4 ts xts := Kids.mono (.of S2) htk
  refine setQ (fun v => [some (.int c), some (.ref lt), some (.ref l2), some (.int k), some (.int (n : Int)), some v]) (fun _ => rfl) (fun v H' => H' = H4 ∧ ∃ t, KidR K H4 t v ∧ B 20 60 t) (fun R r => ⟨_, rfl, _, rfl, _, rfl, lt, xts, rfl, .inl hlt4, c, 43, _, rfl, hpos, fun i i0 i1 => ?_⟩) (fun v5 H5 h5 => ?_)
  · obtain ⟨x, t, ex, e, hm⟩ := all_pick htk4 i0 i1
    exact ⟨lt, _, _, _, rfl, rfl, hlt4, ex, r _ _ ⟨rfl, t, e, hbt t hm⟩⟩
  obtain ⟨rfl, ld, kl, bl⟩ := h5
  obtain ⟨al, xl, rfl, ql, tl⟩ := kl
  obtain ⟨bd, bp⟩ := bl
  have ll : ld.wr.length ≤ 120 := by rw [T.wr_len]; omega
  by_cases h7 : 0 < n ∧ n < 7
  · refine ⟨_, rfl, _, _, rfl, rfl, _, rfl, ?_⟩
    refine iteTb (decide_eq_true (by omega)) ⟨_, _, rfl, rfl, _, rfl, ?_⟩
    refine iteTb (decide_eq_true (by omega)) ?_
    refine ⟨_, rfl, n, rfl, by omega, fun r6 H6 S6 k6 => ?_⟩
    obtain ⟨a6, x6, rfl, q6, t6⟩ := k6
    obtain ⟨d6, p6⟩ := leaves_small (k := n) hn8
    have l6 : (leavesT n).wr.length ≤ 18 := by rw [T.wr_len]; omega
    refine ⟨a6, _, 1, _, rfl, rfl, q6, atI_nat (j := 1) rfl, _, _, rfl, rfl, ?_, _, _, rfl, rfl, ?_, ?_⟩
    · rw [tx_bangL, tx_len, tx_len]
      exact small (by simp; omega)
    · rw [tx_bangL, tx_append, tx_rp, tx_len, tx_len]
      exact small (by simp; omega)
    have e : ([33, 40] ++ (leavesT n).wr) ++ [41] = 33 :: (wordT n []).wr := by
      unfold wordT
      rw [T.wr_node, T.wrL_cons, T.wrL_nil]
      simp
    rw [tx_bangL, tx_append, tx_rp, tx_append, e]
    refine q _ _ (S2.trans S6) (badP_bang (plain_odd (by omega) (by omega)) ?_ ?_)
    · unfold wordT; rw [T.deep_node, T.deepL_cons, T.deepL_nil]; omega
    · unfold wordT; rw [T.parts_node, T.partsL_cons, T.partsL_nil]; omega
  have h7' : n = 0 ∨ n = 7 ∨ n = 8 := by omega
  have fin8 : ∀ (m : Nat), m = 0 ∨ m = 8 → oddT (.node (leavesT m :: ld.kids)) = false := by
    intro m hm
    rcases hm with rfl | rfl
    · exact (lay_word ld.kids).1
    · exact odd_loop ld.kids
  have kw : ld.wr = 40 :: (T.wrL ld.kids ++ [41]) := T.wr_kids ld
  have ekd : T.deepL ld.kids ≤ 20 := by have := deep_eq ld; omega
  have ekp : T.partsL ld.kids ≤ 60 := by have := T.parts_kids ld; omega
  rcases h7' with rfl | rfl | rfl
  · refine ⟨_, rfl, _, _, rfl, rfl, _, rfl, iteFb (by decide) ⟨_, rfl, iteF ?_⟩⟩
    refine ⟨_, rfl, rfl, _, rfl, iteFb (by decide) ?_⟩
    refine ⟨_, rfl, 0, rfl, by decide, fun r6 H6 S6 k6 => ?_⟩
    obtain ⟨a6, x6, rfl, q6, t6⟩ := k6
    have l6 : (leavesT 0).wr.length ≤ 18 := by rw [T.wr_len]; decide
    refine ⟨a6, _, 1, _, rfl, rfl, q6, atI_nat (j := 1) rfl, _, _, rfl, rfl, ?_, _, rfl, al, _, 1, _, rfl, rfl, sqT_mono (.of S6) ql, atI_nat (j := 1) rfl, 1, rfl, _, rfl, ?_, _, _, rfl, rfl, ?_, ?_⟩
    · rw [tx_bangL, tx_len, tx_len]
      exact small (by simp; omega)
    · exact small (by omega)
    · rw [tx_bangL, tx_append, kw, cut_tail, tx_len, tx_len]
      exact small (by rw [kw] at ll; simp at ll ⊢; omega)
    have e : ([33, 40] ++ (leavesT 0).wr) ++ (T.wrL ld.kids ++ [41]) = 33 :: (T.node (leavesT 0 :: ld.kids)).wr := by
      rw [T.wr_node, T.wrL_cons]
      simp
    rw [tx_bangL, tx_append, kw, cut_tail, tx_append, e]
    refine q _ _ (S2.trans S6) (badP_bang (fin8 0 (by omega)) ?_ ?_)
    · have e1 : (leavesT 0).deep ≤ 1 := by decide
      rw [T.deep_node, T.deepL_cons]; omega
    · have e1 : (leavesT 0).parts ≤ 9 := by decide
      rw [T.parts_node, T.partsL_cons]; omega
  · refine ⟨_, rfl, _, _, rfl, rfl, _, rfl, iteTb (by decide) ⟨_, _, rfl, rfl, _, rfl, iteFb (by decide) ?_⟩⟩
    refine ⟨_, rfl, rfl, _, rfl, iteTb (by decide) ?_⟩
    refine ⟨7, rfl, by decide, fun r6 H6 S6 k6 => ?_⟩
    obtain ⟨a6, x6, rfl, q6, t6⟩ := k6
    have l6 : (leavesT 7).wr.length = 16 := by rw [T.wr_len]; rfl
    refine ⟨a6, _, 1, _, rfl, rfl, q6, atI_nat (j := 1) rfl, _, _, rfl, rfl, ?_, _, rfl, al, _, 1, _, rfl, rfl, sqT_mono (.of S6) ql, atI_nat (j := 1) rfl, _, _, rfl, rfl, ?_, _, _, rfl, rfl, ?_, ?_⟩
    · rw [tx_bangL, tx_len, tx_len]
      exact small (by simp; omega)
    · rw [tx_bangL, tx_append, tx_len, tx_len]
      exact small (by simp; omega)
    · rw [tx_bangL, tx_append, tx_append, tx_rp, tx_len, tx_len]
      exact small (by simp; omega)
    have e : (([33, 40] ++ (leavesT 7).wr) ++ ld.wr) ++ [41] = 33 :: (T.node [leavesT 7, ld]).wr := by
      rw [T.wr_node, T.wrL_cons, T.wrL_cons, T.wrL_nil]
      simp
    rw [tx_bangL, tx_append, tx_append, tx_rp, tx_append, e]
    refine q _ _ (S2.trans S6) (badP_bang (t := .node [leavesT 7, ld]) ?_ ?_ ?_)
    · have ek : T.node ld.kids = ld := by cases ld; rfl
      have := odd_fork ld.kids []
      unfold forkW at this
      rw [ek] at this
      exact this
    · have e1 : (leavesT 7).deep = 1 := by decide
      rw [T.deep_node, T.deepL_cons, T.deepL_cons, T.deepL_nil]; omega
    · have e1 : (leavesT 7).parts = 8 := by decide
      rw [T.parts_node, T.partsL_cons, T.partsL_cons, T.partsL_nil]; omega
  · refine ⟨_, rfl, _, _, rfl, rfl, _, rfl, iteTb (by decide) ⟨_, _, rfl, rfl, _, rfl, iteFb (by decide) ?_⟩⟩
    refine ⟨_, rfl, rfl, _, rfl, iteFb (by decide) ?_⟩
    refine ⟨_, rfl, 8, rfl, by decide, fun r6 H6 S6 k6 => ?_⟩
    obtain ⟨a6, x6, rfl, q6, t6⟩ := k6
    have l6 : (leavesT 8).wr.length ≤ 18 := by rw [T.wr_len]; decide
    refine ⟨a6, _, 1, _, rfl, rfl, q6, atI_nat (j := 1) rfl, _, _, rfl, rfl, ?_, _, rfl, al, _, 1, _, rfl, rfl, sqT_mono (.of S6) ql, atI_nat (j := 1) rfl, 1, rfl, _, rfl, ?_, _, _, rfl, rfl, ?_, ?_⟩
    · rw [tx_bangL, tx_len, tx_len]
      exact small (by simp; omega)
    · exact small (by omega)
    · rw [tx_bangL, tx_append, kw, cut_tail, tx_len, tx_len]
      exact small (by rw [kw] at ll; simp at ll ⊢; omega)
    have e : ([33, 40] ++ (leavesT 8).wr) ++ (T.wrL ld.kids ++ [41]) = 33 :: (T.node (leavesT 8 :: ld.kids)).wr := by
      rw [T.wr_node, T.wrL_cons]
      simp
    rw [tx_bangL, tx_append, kw, cut_tail, tx_append, e]
    refine q _ _ (S2.trans S6) (badP_bang (fin8 8 (by omega)) ?_ ?_)
    · have e1 : (leavesT 8).deep ≤ 1 := by decide
      rw [T.deep_node, T.deepL_cons]; omega
    · have e1 : (leavesT 8).parts ≤ 9 := by decide
      rw [T.parts_node, T.partsL_cons]; omega
end
end Sw24

namespace Sw24
open PySem PySem.Spec PyProof.Rows L2 Sw
section
variable {P : Program} {w : World} {K : PySem.W.Frag} {mg : Str → Option Value} {base : Heap} {f : Addr} {fd : FuncData}
theorem small' {n : Nat} (h : n < 1000000) : n < sizeLine := Nat.lt_of_lt_of_le h (by decide)

theorem lc_filterN {H1 : Hp} {n : Nat} {σ : Sg} {js : List Nat} {te : TE} {tc : TT} {Q : VK} (P : Nat → Prop) (hn : n ≤ 1000000)
    (htc : ∀ (i : Nat) H' (R : Bool → Hp → Prop), i < n → Same H1 H' → (∀ b H3, Same H' H3 → (b = true → P i) → R b H3) → tc (some (.int (0 + (i : Int))) :: frv σ js) H' R)
    (hte : ∀ x H' (R : VK), R x H' → te (some x :: frv σ js) H' R)
    (q : ∀ D (ks : List Nat) H', Same H1 H' → H' D = some (.lst (ks.map fun k : Nat => V.int (k : Int))) → ks.length ≤ n → (∀ k ∈ ks, k < n ∧ P k) → Q (.ref D) H') : LcRunIf (Itr 0 n) js tc te σ Q H1 := by
  intro D hD
  refine ⟨fun i m ys H' => m = n - i ∧ i ≤ n ∧ Same H1 H' ∧ H' D = some (.lst ys) ∧ ∃ ks : List Nat, ys = (ks.map fun k : Nat => V.int (k : Int)) ∧ ks.length ≤ i ∧ ∀ k ∈ ks, k < n ∧ P k, ⟨n, rfl, Nat.zero_le _, same_new hD _, upd_same, [], rfl, Nat.le_refl _, fun k hk => by cases hk⟩, ?_⟩
  rintro i m ys H' ⟨rfl, hi, S, hd, ks, rfl, hl, hk⟩
  refine ⟨hd, ?_⟩
  by_cases hlt : i < n
  · refine .inr ⟨hlt, fun x H2 y => ?_⟩
    obtain ⟨e, y⟩ := y
    subst e
    subst y
    refine htc i _ _ hlt S fun b H3 S3 hb => ⟨fun hb' => hte _ _ _ ⟨S3 _ _ hd, small' (by rw [List.length_map]; omega), n - (i + 1), by omega, rfl, hlt, same_upd (S.trans S3) hD, upd_same, ks ++ [i], ?_, by rw [List.length_append, List.length_singleton]; omega, fun k hk' => ?_⟩, fun hb' => ⟨n - (i + 1), by omega, rfl, hlt, S.trans S3, S3 _ _ hd, ks, rfl, by omega, hk⟩⟩
    · rw [List.map_append]
      show _ = _ ++ [V.int (i : Int)]
      rw [show (0 : Int) + (i : Int) = (i : Int) by omega]
    · rcases List.mem_append.mp hk' with z | z
      · exact hk k z
      · rw [List.mem_singleton.mp z]; exact ⟨hlt, hb hb'⟩
  · have e : i = n := by omega
    subst e
    exact .inl ⟨Nat.le_refl _, q D ks H' S hd hl hk⟩
theorem op_in_seqK {X : Cx} {K : PySem.W.Frag} (hK : X.K = K) : OpR X (compareOp .In) (rIn K false) := by subst hK; exact op_in_seq
theorem in_five {p a b c d e : List Nat} (h : inV (.str (tx p)) [.str (tx a), .str (tx b), .str (tx c), .str (tx d), .str (tx e)] = true) : p = a ∨ p = b ∨ p = c ∨ p = d ∨ p = e := by
  unfold inV at h
  rw [List.any_cons, List.any_cons, List.any_cons, List.any_cons, List.any_cons, List.any_nil, Bool.or_false] at h
  have h : ((tx a == tx p) || ((tx b == tx p) || ((tx c == tx p) || ((tx d == tx p) || (tx e == tx p))))) = true := h
  rw [beq_tx, beq_tx, beq_tx, beq_tx, beq_tx] at h
  simp only [Bool.or_eq_true, decide_eq_true_eq] at h
  rcases h with h | h | h | h | h
  · exact .inl h.symm
  · exact .inr (.inl h.symm)
  · exact .inr (.inr (.inl h.symm))
  · exact .inr (.inr (.inr (.inl h.symm)))
  · exact .inr (.inr (.inr (.inr h.symm)))
theorem tx_forkN : PySem.Str.ofString "fork" = tx (nmC 7) := by decide +kernel
theorem tx_whileN : PySem.Str.ofString "while" = tx (nmC 8) := by decide +kernel
def spMarks (K : PySem.W.Frag) : Sp := fun vs H Q _ => ∃ (lr : Addr) (ps : List (List Nat)), vs = [.ref lr] ∧ H lr = some (.lst (ps.map fun c => V.str (tx c))) ∧ ps.length ≤ 100000 ∧ ∀ D (ks : List Nat) H', Same H H' → H' D = some (.lst (ks.map fun k : Nat => V.int (k : Int))) → ks.length ≤ ps.length → (∀ k ∈ ks, ∃ m, ps[k]? = some m ∧ IsMk m) → Q (.ref D) H'
def spSpoilt (K : PySem.W.Frag) : Sp := fun vs H Q _ => ∃ (c : Int) (lr lt : Addr) (ps : List (List Nat)) (xts : List V) (ts : List T), vs = [.int c, .ref lr, .ref lt] ∧ H lr = some (.lst (ps.map fun c => V.str (tx c))) ∧ GoodR ps ∧ SqL K H lt xts ∧ Kids K H ts xts ∧ ts ≠ [] ∧ (∀ t ∈ ts, B 20 60 t) ∧ ∀ D qs H', Same H H' → H' D = some (.lst (qs.map fun c => V.str (tx c))) → Spoilt qs → Q (.ref D) H'
theorem ok__law_marks (m_range : mg "range" = none) (m_len : mg "len" = none) 
    (F : Fun K "_law_marks" "_law_marks" s__law_marks f fd) : FnOk P w K mg base CX0 32 f fd ["_law_row"] (spMarks K) := by
  refine okQ F sc__law_marks (fun vs H Q E h => ?_) (fun cdv A outer s H vs Q E hr h => ?_)
  · obtain ⟨lr, ps, rfl, _⟩ := h
    rfl
  obtain ⟨lr, ps, rfl, hl, hpl, q⟩ := h
  refine ⟨_, (qss_one (qs_ret (qe_lcIf rfl (lc_free (fr := ["_law_row"]) (js := [0]) (sc := defScope s__law_marks) rfl rfl rfl (by decide +kernel) (by decide +kernel) (by decide +kernel) (by decide +kernel) (by exact ⟨⟨rfl, rfl, rfl⟩, trivial⟩) (by decide +kernel) (fun y hy => cell_has hy)) (qi_range1 rfl m_range (qa_cons (qe_callB call_len_seq rfl m_len bt_len (qa_cons (qv 0) qa_nil)) qa_nil)) (fun _ _ _ _ _ => (qv 0)) (fun _ _ _ _ _ => (qt_cmpR (op_in_seqK (K := K) rfl) (qe_ix (ix_listK (K := K) rfl) (qv 1) (qv 0) (fun _ _ => rfl)) (qe_tup (qa_cons qe_str (qa_cons qe_str (qa_cons qe_str (qa_cons qe_str (qa_cons qe_str qa_nil)))))) rfl))))), ?_⟩
  refine ⟨_, rfl, lr, _, rfl, .inl (SqL.of hl), _, rfl, by omega, by rw [List.length_map]; omega, ?_⟩
  have en : ((ps.map fun c => V.str (tx c)).length : Int).toNat = ps.length := by rw [Int.toNat_natCast, List.length_map]
  rw [en]
  refine lc_filterN (fun k => ∃ m, ps[k]? = some m ∧ IsMk m) (by omega) (fun i H' R hi S hR => ?_) (fun x H' R r => ⟨_, rfl, r⟩) (fun D ks H' S hD hks hk => q D ks H' S hD hks fun k hkk => (hk k hkk).2)
  have e := List.getElem?_eq_getElem hi
  refine ⟨_, rfl, _, rfl, lr, _, _, V.str (tx ps[i]), rfl, rfl, SqL.of (S _ _ hl), ?_, (by show 5 ≤ sizeLine; decide), fun p1 g1 => ⟨p1, _, rfl, .inr (SqT.of upd_same), rfl, rfl, _, rfl, hR _ _ (same_new g1 _) fun hb => ⟨ps[i], e, ?_⟩⟩⟩
  · rw [show (0 : Int) + (i : Int) = (i : Int) by omega]
    exact atI_nat (j := i) (by rw [List.getElem?_map, e]; rfl)
  have hb : inV (.str (tx ps[i])) [.str (PySem.Str.ofString "fork"), .str (PySem.Str.ofString "while"), .str (PySem.Str.ofString "["), .str (PySem.Str.ofString "|"), .str (PySem.Str.ofString "]")] = true := hb
  rw [tx_forkN, tx_whileN, tx_lb, tx_bar, tx_rb] at hb
  exact in_five hb
theorem ok__law_spoilt (m_len : mg "len" = none) (m_int : mg "int" = none) 
    {a__law_pick : Addr} {d__law_pick : FuncData} (F__law_pick : Fun K "_law_pick" "_law_pick" s__law_pick a__law_pick d__law_pick) (G__law_pick : FnOk P w K mg base CX0 34 a__law_pick d__law_pick ["_law_cell", "_law_turn", "_law_many"] spPick) (b__law_pick : Binds K d__law_pick ["_law_cell", "_law_turn", "_law_many"] []) (m__law_pick : mg "_law_pick" = some (.ref a__law_pick))
    {a__law_marks : Addr} {d__law_marks : FuncData} (F__law_marks : Fun K "_law_marks" "_law_marks" s__law_marks a__law_marks d__law_marks) (G__law_marks : FnOk P w K mg base CX0 34 a__law_marks d__law_marks ["_law_row"] (spMarks K)) (b__law_marks : Binds K d__law_marks ["_law_row"] []) (m__law_marks : mg "_law_marks" = some (.ref a__law_marks))
    {a__law_bad_piece : Addr} {d__law_bad_piece : FuncData} (F__law_bad_piece : Fun K "_law_bad_piece" "_law_bad_piece" s__law_bad_piece a__law_bad_piece d__law_bad_piece) (G__law_bad_piece : FnOk P w K mg base CX0 34 a__law_bad_piece d__law_bad_piece ["_law_cell", "_law_trees"] (spBadPiece K)) (b__law_bad_piece : Binds K d__law_bad_piece ["_law_cell", "_law_trees"] []) (m__law_bad_piece : mg "_law_bad_piece" = some (.ref a__law_bad_piece))
    (F : Fun K "_law_spoilt" "_law_spoilt" s__law_spoilt f fd) : FnOk P w K mg base CX0 35 f fd ["_law_cell", "_law_row", "_law_trees"] (spSpoilt K) := by
  refine okQ F sc__law_spoilt (fun vs H Q E h => ?_) (fun cdv A outer s H vs Q E hr h => ?_)
  · obtain ⟨c, lr, lt, ps, xts, ts, rfl, _⟩ := h
    rfl
  obtain ⟨c, lr, lt, ps, xts, ts, rfl, hrw, hg, hlt, htk, hne, hbt, q⟩ := h
  refine ⟨_, (qss_cons (qs_set (i := 3) sc__law_spoilt.nd rfl (Or.inl rfl) (qe_call G__law_pick hr rfl m__law_pick F__law_pick.kp b__law_pick .nil pass0 (qa_cons (qv 0) (qa_cons qe_int (qa_cons qe_int qa_nil)))))
      (qss_cons (qs_set (i := 4) sc__law_spoilt.nd rfl (Or.inl rfl) (qe_call G__law_pick hr rfl m__law_pick F__law_pick.kp b__law_pick .nil pass0 (qa_cons (qv 0) (qa_cons qe_int (qa_cons (qe_op op_add (qe_callB call_len_seq rfl m_len bt_len (qa_cons (qv 1) qa_nil)) qe_int) qa_nil)))))
      (qss_cons (qs_set (i := 5) sc__law_spoilt.nd rfl (Or.inl rfl) (qe_call G__law_marks hr rfl m__law_marks F__law_marks.kp b__law_marks .nil pass0 (qa_cons (qv 1) qa_nil)))
      (qss_cons (qs_if (QW.pt (qw_and (qt_cmpR op_lt (qv 3) qe_int (nomark _)) (qw_and1 (qt_cmpR op_gt (qe_callB call_len_seq rfl m_len bt_len (qa_cons (qv 5) qa_nil)) qe_int (nomark _))))) (qss_cons (qs_set (i := 4) sc__law_spoilt.nd rfl (Or.inl rfl) (qe_ix ix_list (qv 5) (qe_call G__law_pick hr rfl m__law_pick F__law_pick.kp b__law_pick .nil pass0 (qa_cons (qv 0) (qa_cons qe_int (qa_cons (qe_callB call_len_seq rfl m_len bt_len (qa_cons (qv 5) qa_nil)) qa_nil)))) (fun _ _ => rfl)))
      (qss_cons (qs_if (QW.pt (qw_and (qt_cmpR op_eq (qv 3) qe_int (nomark _)) (qw_and1 (qt_cmpR op_in_seq (qe_ix ix_list (qv 1) (qv 4) (fun _ _ => rfl)) (qe_tup (qa_cons qe_str (qa_cons qe_str qa_nil))) rfl)))) (qss_one (qs_ret (qe_op op_cat (qe_op op_cat (qe_slice sl_list (qv 1) qo_none (qo_some (qv 4))) (qe_lst (qa_cons (qe_ix ix_list (qe_lst (qa_cons qe_str (qa_cons qe_str qa_nil))) (qe_callTy call_int1 rfl m_int bt_int (qa_cons (qe_cmpR op_eq (qe_ix ix_list (qv 1) (qv 4) (fun _ _ => rfl)) qe_str (nomark _)) qa_nil)) (fun _ _ => rfl)) qa_nil))) (qe_slice sl_list (qv 1) (qo_some (qe_op op_add (qv 4) qe_int)) qo_none)))) qss_nil)
      (qss_one (qs_ret (qe_op op_cat (qe_slice sl_list (qv 1) qo_none (qo_some (qv 4))) (qe_slice sl_list (qv 1) (qo_some (qe_op op_add (qv 4) qe_int)) qo_none)))))) qss_nil)
      (qss_cons (qs_if (qt_cmpR op_lt (qv 3) qe_int (nomark _)) (qss_one (qs_ret (qe_op op_cat (qe_op op_cat (qe_slice sl_list (qv 1) qo_none (qo_some (qv 4))) (qe_lst (qa_cons (qe_ix ix_list (qe_lst (qa_cons qe_str (qa_cons qe_str (qa_cons qe_str (qa_cons qe_str (qa_cons qe_str qa_nil)))))) (qe_call G__law_pick hr rfl m__law_pick F__law_pick.kp b__law_pick .nil pass0 (qa_cons (qv 0) (qa_cons qe_int (qa_cons qe_int qa_nil)))) (fun _ _ => rfl)) qa_nil))) (qe_slice sl_list (qv 1) (qo_some (qv 4)) qo_none)))) qss_nil)
      (qss_cons (qs_if (qt_cmpR op_eq (qv 3) qe_int (nomark _)) (qss_one (qs_ret (qe_op op_cat (qe_op op_cat (qe_slice sl_list (qv 1) qo_none (qo_some (qv 4))) (qe_lst (qa_cons qe_str qa_nil))) (qe_slice sl_list (qv 1) (qo_some (qv 4)) qo_none)))) qss_nil)
      (qss_one (qs_ret (qe_op op_cat (qe_op op_cat (qe_slice sl_list (qv 1) qo_none (qo_some (qv 4))) (qe_lst (qa_cons (qe_call G__law_bad_piece hr rfl m__law_bad_piece F__law_bad_piece.kp b__law_bad_piece .nil pass0 (qa_cons (qv 0) (qa_cons (qv 2) qa_nil))) qa_nil))) (qe_slice sl_list (qv 1) (qo_some (qv 4)) qo_none)))))))))), ?_⟩
  have hlp := lenP_len ps
  have hgl := hg.len
  have hpos : 0 < ps.length := List.length_pos_iff.mpr hg.ne
  refine setQ (fun v => [some (.int c), some (.ref lr), some (.ref lt), some v, none, none]) (fun _ => rfl) (fun v H' => H' = H ∧ ∃ way : Int, v = .int way ∧ 0 ≤ way ∧ way < 8) (fun R r => ⟨_, rfl, c, 44, 8, rfl, by decide, fun i i0 i1 => r _ _ ⟨rfl, i, rfl, i0, i1⟩⟩) (fun v1 H1 h1 => ?_)
  obtain ⟨rfl, way, rfl, w0, w8⟩ := h1
  refine setQ (fun v => [some (.int c), some (.ref lr), some (.ref lt), some (.int way), some v, none]) (fun _ => rfl) (fun v H' => H' = H1 ∧ ∃ k : Nat, v = .int (k : Int) ∧ k ≤ ps.length) (fun R r => ⟨_, rfl, _, rfl, lr, _, rfl, .inl (SqL.of hrw), _, _, rfl, rfl, c, 45, _, rfl, by rw [List.length_map]; omega, fun i i0 i1 => r _ _ ⟨rfl, i.toNat, by rw [Int.toNat_of_nonneg i0], by rw [List.length_map] at i1; omega⟩⟩) (fun v2 H2 h2 => ?_)
  obtain ⟨rfl, k, rfl, hk⟩ := h2
  refine setQ (fun v => [some (.int c), some (.ref lr), some (.ref lt), some (.int way), some (.int (k : Int)), some v]) (fun _ => rfl) (fun v H' => ∃ (D : Addr) (ks : List Nat), v = .ref D ∧ Same H2 H' ∧ H' D = some (.lst (ks.map fun k : Nat => V.int (k : Int))) ∧ ks.length ≤ ps.length ∧ ∀ k ∈ ks, ∃ m, ps[k]? = some m ∧ IsMk m) (fun R r => ⟨_, rfl, lr, ps, rfl, hrw, by omega, fun D ks H' S hD hks hk => r _ _ ⟨D, ks, rfl, S, hD, hks, hk⟩⟩) (fun v3 H3 h3 => ?_)
  obtain ⟨D, ks, rfl, S0, hD, hks, hkm⟩ := h3
  have hrw := S0 _ _ hrw
  have hlt := S0.seq hlt
  have htk : Kids K H3 ts xts := Kids.mono (.of S0) htk
  by_cases hw3 : way < 3 ∧ 0 < ks.length
  · refine ⟨_, rfl, _, _, rfl, rfl, _, rfl, iteTb (decide_eq_true hw3.1) ⟨_, rfl, D, _, rfl, .inl (SqL.of hD), _, _, rfl, rfl, _, rfl, iteTb (decide_eq_true (by rw [List.length_map]; omega)) ?_⟩⟩
    refine setQ (fun v => [some (.int c), some (.ref lr), some (.ref lt), some (.int way), some v, some (.ref D)]) (fun _ => rfl) (fun v H' => H' = H3 ∧ ∃ (k : Nat) (m : List Nat), v = .int (k : Int) ∧ ps[k]? = some m ∧ IsMk m) (fun R r => ⟨_, rfl, _, rfl, _, rfl, D, _, rfl, .inl (SqL.of hD), c, 46, _, rfl, by rw [List.length_map]; omega, fun i i0 i1 => ?_⟩) (fun v4 H4 h4 => ?_)
    · rw [List.length_map] at i1
      obtain ⟨n, rfl⟩ : ∃ n : Nat, i = (n : Int) := ⟨i.toNat, by omega⟩
      have hn : n < ks.length := by omega
      have en := List.getElem?_eq_getElem hn
      obtain ⟨m, em, hm⟩ := hkm _ (List.getElem_mem hn)
      exact ⟨D, _, _, _, rfl, rfl, SqL.of hD, atI_nat (j := n) (by rw [List.getElem?_map, en]; rfl), r _ _ ⟨rfl, ks[n], m, rfl, em, hm⟩⟩
    obtain ⟨rfl, k, m, rfl, em, hm⟩ := h4
    have hkl : k < ps.length := (List.getElem?_eq_some_iff.mp em).1
    have eps : ps = ps.take k ++ m :: ps.drop (k + 1) := by
      rw [List.getElem?_eq_some_iff] at em
      obtain ⟨h1, h2⟩ := em
      rw [← h2, ← List.drop_eq_getElem_cons h1, List.take_append_drop]
    have hg' := hg
    rw [eps] at hg'
    have atk : atI (ps.map fun c => V.str (tx c)) (k : Int) = some (.str (tx m)) := atI_nat (by rw [List.getElem?_map, em]; rfl)
    have ek1 : (k : Int) + 1 = ((k + 1 : Nat) : Int) := by omega
    by_cases h2 : way = 2
    · refine ⟨_, rfl, rfl, _, rfl, iteTb (decide_eq_true (congrArg V.int h2)) ⟨_, rfl, _, rfl, lr, _, _, V.str (tx m), rfl, rfl, SqL.of hrw, atk, (by show 2 ≤ sizeLine; decide), fun p1 g1 => ⟨p1, _, rfl, .inr (SqT.of upd_same), rfl, rfl, _, rfl, ?_⟩⟩⟩
      rw [show (if false = true then !inV (.str (tx m)) [V.str (PySem.Str.ofString "fork"), .str (PySem.Str.ofString "while")] else inV (.str (tx m)) [V.str (PySem.Str.ofString "fork"), .str (PySem.Str.ofString "while")]) = (decide (nmC 7 = m) || decide (nmC 8 = m)) from by rw [tx_forkN, tx_whileN]; exact in_two _ _ _]
      have S1 := same_new g1 (.tup [V.str (PySem.Str.ofString "fork"), .str (PySem.Str.ofString "while")])
      refine ite2 (fun hb => ?_) (fun hb => ?_)
      · refine ⟨_, rfl, _, rfl, (k : Int), rfl, lr, _, rfl, SqL.of (S1 _ _ hrw), fun p2 g2 => ?_⟩
        have S2 := same_new g2 (.lst (cutV (ps.map fun c => V.str (tx c)) none (some (k : Int))))
        refine ⟨(by show 2 ≤ sizeLine; decide), fun p3 g3 => ?_⟩
        have S3 := same_new g3 (.lst [V.str (PySem.Str.ofString "fork"), V.str (PySem.Str.ofString "while")])
        refine ⟨_, rfl, _, rfl, lr, _, _, V.str (tx m), rfl, rfl, SqL.of (S3 _ _ (S2 _ _ (S1 _ _ hrw))), atk, rfl, .inr ⟨_, rfl, ?_⟩⟩
        rcases (by rcases Bool.or_eq_true_iff.mp hb with z | z; exact .inl (of_decide_eq_true z).symm; exact .inr (of_decide_eq_true z).symm : m = nmC 7 ∨ m = nmC 8) with rfl | rfl
        · rw [show (if decide (V.str (tx (nmC 7)) = V.str (PySem.Str.ofString "fork")) = true then (1 : Int) else 0) = ((1 : Nat) : Int) from by rw [tx_forkN, if_pos (decide_eq_true rfl)]; rfl]
          refine ⟨p3, _, _, _, rfl, rfl, SqL.of upd_same, atI_nat (j := 1) rfl, ?_⟩
          refine ⟨(by show 1 ≤ sizeLine; decide), fun p4 g4 => ?_⟩
          have S4 := same_new g4 (.lst [V.str (PySem.Str.ofString "while")])
          refine ⟨p2, p4, _, _, rfl, rfl, S4 _ _ (S3 _ _ upd_same), upd_same, small (by rw [cut_to, List.length_take, List.length_map]; show _ + 1 ≤ _; omega), fun p5 g5 => ?_⟩
          have S5 := same_new g5 (.lst (cutV (ps.map fun c => V.str (tx c)) none (some (k : Int)) ++ [V.str (PySem.Str.ofString "while")]))
          have SA := S1.trans (S2.trans (S3.trans (S4.trans S5)))
          refine ⟨_, rfl, _, rfl, _, _, rfl, rfl, _, rfl, lr, _, rfl, SqL.of (SA _ _ hrw), fun p6 g6 => ?_⟩
          have S6 := same_new g6 (.lst (cutV (ps.map fun c => V.str (tx c)) (some ((k : Int) + 1)) none))
          refine ⟨p5, p6, _, _, rfl, rfl, S6 _ _ upd_same, upd_same, small (by rw [List.length_append, cut_to, ek1, cut_from, List.length_take, List.length_drop, List.length_map]; show _ + 1 + _ ≤ _; omega), fun p7 g7 => q p7 (ps.take k ++ nmC 8 :: ps.drop (k + 1)) _ (S0.trans (SA.trans (S6.trans (same_new g7 _)))) ?_ (spoilt_swap hg' (.inl ⟨rfl, rfl⟩))⟩
          rw [upd_same, cut_to, ek1, cut_from, List.map_append, List.map_cons, List.map_take, List.map_drop, List.append_assoc]
          rw [tx_whileN]
          rfl
        · rw [show (if decide (V.str (tx (nmC 8)) = V.str (PySem.Str.ofString "fork")) = true then (1 : Int) else 0) = ((0 : Nat) : Int) from by rw [tx_forkN, if_neg (by rw [decide_eq_true_eq]; exact fun z => absurd (tx_inj.mp (V.str.inj z)) (by decide))]; rfl]
          refine ⟨p3, _, _, _, rfl, rfl, SqL.of upd_same, atI_nat (j := 0) rfl, ?_⟩
          refine ⟨(by show 1 ≤ sizeLine; decide), fun p4 g4 => ?_⟩
          have S4 := same_new g4 (.lst [V.str (PySem.Str.ofString "fork")])
          refine ⟨p2, p4, _, _, rfl, rfl, S4 _ _ (S3 _ _ upd_same), upd_same, small (by rw [cut_to, List.length_take, List.length_map]; show _ + 1 ≤ _; omega), fun p5 g5 => ?_⟩
          have S5 := same_new g5 (.lst (cutV (ps.map fun c => V.str (tx c)) none (some (k : Int)) ++ [V.str (PySem.Str.ofString "fork")]))
          have SA := S1.trans (S2.trans (S3.trans (S4.trans S5)))
          refine ⟨_, rfl, _, rfl, _, _, rfl, rfl, _, rfl, lr, _, rfl, SqL.of (SA _ _ hrw), fun p6 g6 => ?_⟩
          have S6 := same_new g6 (.lst (cutV (ps.map fun c => V.str (tx c)) (some ((k : Int) + 1)) none))
          refine ⟨p5, p6, _, _, rfl, rfl, S6 _ _ upd_same, upd_same, small (by rw [List.length_append, cut_to, ek1, cut_from, List.length_take, List.length_drop, List.length_map]; show _ + 1 + _ ≤ _; omega), fun p7 g7 => q p7 (ps.take k ++ nmC 7 :: ps.drop (k + 1)) _ (S0.trans (SA.trans (S6.trans (same_new g7 _)))) ?_ (spoilt_swap hg' (.inr ⟨rfl, rfl⟩))⟩
          rw [upd_same, cut_to, ek1, cut_from, List.map_append, List.map_cons, List.map_take, List.map_drop, List.append_assoc]
          rw [tx_forkN]
          rfl
      · dsimp only [tNext]
        refine ⟨_, rfl, _, rfl, (k : Int), rfl, lr, _, rfl, SqL.of (S1 _ _ hrw), fun p2 g2 => ?_⟩
        have S2 := same_new g2 (.lst (cutV (ps.map fun c => V.str (tx c)) none (some (k : Int))))
        refine ⟨_, rfl, _, rfl, _, _, rfl, rfl, _, rfl, lr, _, rfl, SqL.of (S2 _ _ (S1 _ _ hrw)), fun p3 g3 => ?_⟩
        have S3 := same_new g3 (.lst (cutV (ps.map fun c => V.str (tx c)) (some ((k : Int) + 1)) none))
        refine ⟨p2, p3, _, _, rfl, rfl, S3 _ _ upd_same, upd_same, small (by rw [cut_to, ek1, cut_from, List.length_take, List.length_drop, List.length_map]; omega), fun p4 g4 => q p4 (ps.take k ++ ps.drop (k + 1)) _ (S0.trans (S1.trans (S2.trans (S3.trans (same_new g4 _))))) ?_ (spoilt_del hg' hm)⟩
        rw [upd_same, cut_to, ek1, cut_from, List.map_append, List.map_take, List.map_drop]
    · refine ⟨_, rfl, rfl, _, rfl, iteFb (decide_eq_false (fun z => h2 (V.int.inj z))) (iteF ?_)⟩
      have S1 := Same.refl H4
      dsimp only [tNext]
      refine ⟨_, rfl, _, rfl, (k : Int), rfl, lr, _, rfl, SqL.of (S1 _ _ hrw), fun p2 g2 => ?_⟩
      have S2 := same_new g2 (.lst (cutV (ps.map fun c => V.str (tx c)) none (some (k : Int))))
      refine ⟨_, rfl, _, rfl, _, _, rfl, rfl, _, rfl, lr, _, rfl, SqL.of (S2 _ _ (S1 _ _ hrw)), fun p3 g3 => ?_⟩
      have S3 := same_new g3 (.lst (cutV (ps.map fun c => V.str (tx c)) (some ((k : Int) + 1)) none))
      refine ⟨p2, p3, _, _, rfl, rfl, S3 _ _ upd_same, upd_same, small (by rw [cut_to, ek1, cut_from, List.length_take, List.length_drop, List.length_map]; omega), fun p4 g4 => q p4 (ps.take k ++ ps.drop (k + 1)) _ (S0.trans (S1.trans (S2.trans (S3.trans (same_new g4 _))))) ?_ (spoilt_del hg' hm)⟩
      rw [upd_same, cut_to, ek1, cut_from, List.map_append, List.map_take, List.map_drop]
  have S1 := Same.refl H3
  have egd : ps.take k ++ ps.drop k = ps := List.take_append_drop _ _
  have hgk : GoodR (ps.take k ++ ps.drop k) := by rw [egd]; exact hg
  refine and_false (P := fun H' => H' = H3) (fun H' e => ?_) (fun R r => ?_)
  rotate_left
  · by_cases hw : way < 3
    · exact ⟨_, rfl, _, _, rfl, rfl, _, rfl, iteTb (decide_eq_true hw) ⟨_, rfl, D, _, rfl, .inl (SqL.of hD), _, _, rfl, rfl, _, rfl, by rw [decide_eq_false (by rw [List.length_map]; omega)]; exact r _ rfl⟩⟩
    · exact ⟨_, rfl, _, _, rfl, rfl, _, rfl, iteFb (decide_eq_false hw) (r _ rfl)⟩
  subst e
  refine iteF ?_
  dsimp only [tNext]
  refine ⟨_, rfl, _, _, rfl, rfl, _, rfl, ite2 (fun _ => ?_) (fun _ => ?_)⟩
  · refine ⟨_, rfl, _, rfl, (k : Int), rfl, lr, _, rfl, SqL.of hrw, fun p2 g2 => ?_⟩
    have S2 := same_new g2 (.lst (cutV (ps.map fun c => V.str (tx c)) none (some (k : Int))))
    refine ⟨(by show 5 ≤ sizeLine; decide), fun p3 g3 => ?_⟩
    have S3 := same_new g3 (.lst [V.str (PySem.Str.ofString "fork"), V.str (PySem.Str.ofString "while"), V.str (PySem.Str.ofString "["), V.str (PySem.Str.ofString "|"), V.str (PySem.Str.ofString "]")])
    refine ⟨_, rfl, c, 47, 5, rfl, by decide, fun i i0 i1 => ?_⟩
    obtain ⟨n, rfl⟩ : ∃ n : Nat, i = (n : Int) := ⟨i.toNat, by omega⟩
    have hn : n = 0 ∨ n = 1 ∨ n = 2 ∨ n = 3 ∨ n = 4 := by omega
    rcases hn with rfl | rfl | rfl | rfl | rfl
    · refine ⟨p3, _, _, _, rfl, rfl, SqL.of upd_same, atI_nat (j := 0) rfl, ?_⟩
      refine ⟨(by show 1 ≤ sizeLine; decide), fun p4 g4 => ?_⟩
      have S4 := same_new g4 (.lst [V.str (PySem.Str.ofString "fork")])
      refine ⟨p2, p4, _, _, rfl, rfl, S4 _ _ (S3 _ _ upd_same), upd_same, small (by rw [cut_to, List.length_take, List.length_map]; show _ + 1 ≤ _; omega), fun p5 g5 => ?_⟩
      have S5 := same_new g5 (.lst (cutV (ps.map fun c => V.str (tx c)) none (some (k : Int)) ++ [V.str (PySem.Str.ofString "fork")]))
      have SA := S1.trans (S2.trans (S3.trans (S4.trans S5)))
      refine ⟨_, rfl, _, rfl, (k : Int), rfl, lr, _, rfl, SqL.of (SA _ _ hrw), fun p6 g6 => ?_⟩
      have S6 := same_new g6 (.lst (cutV (ps.map fun c => V.str (tx c)) (some (k : Int)) none))
      refine ⟨p5, p6, _, _, rfl, rfl, S6 _ _ upd_same, upd_same, small (by rw [List.length_append, cut_to, cut_from, List.length_take, List.length_drop, List.length_map]; show _ + 1 + _ ≤ _; omega), fun p7 g7 => q p7 (ps.take k ++ nmC 7 :: ps.drop k) _ (S0.trans (SA.trans (S6.trans (same_new g7 _)))) ?_ (spoilt_ins hgk (.inl rfl))⟩
      rw [upd_same, cut_to, cut_from, List.map_append, List.map_cons, List.map_take, List.map_drop, List.append_assoc]
      rw [tx_forkN]
      rfl
    · refine ⟨p3, _, _, _, rfl, rfl, SqL.of upd_same, atI_nat (j := 1) rfl, ?_⟩
      refine ⟨(by show 1 ≤ sizeLine; decide), fun p4 g4 => ?_⟩
      have S4 := same_new g4 (.lst [V.str (PySem.Str.ofString "while")])
      refine ⟨p2, p4, _, _, rfl, rfl, S4 _ _ (S3 _ _ upd_same), upd_same, small (by rw [cut_to, List.length_take, List.length_map]; show _ + 1 ≤ _; omega), fun p5 g5 => ?_⟩
      have S5 := same_new g5 (.lst (cutV (ps.map fun c => V.str (tx c)) none (some (k : Int)) ++ [V.str (PySem.Str.ofString "while")]))
      have SA := S1.trans (S2.trans (S3.trans (S4.trans S5)))
      refine ⟨_, rfl, _, rfl, (k : Int), rfl, lr, _, rfl, SqL.of (SA _ _ hrw), fun p6 g6 => ?_⟩
      have S6 := same_new g6 (.lst (cutV (ps.map fun c => V.str (tx c)) (some (k : Int)) none))
      refine ⟨p5, p6, _, _, rfl, rfl, S6 _ _ upd_same, upd_same, small (by rw [List.length_append, cut_to, cut_from, List.length_take, List.length_drop, List.length_map]; show _ + 1 + _ ≤ _; omega), fun p7 g7 => q p7 (ps.take k ++ nmC 8 :: ps.drop k) _ (S0.trans (SA.trans (S6.trans (same_new g7 _)))) ?_ (spoilt_ins hgk (.inr (.inl rfl)))⟩
      rw [upd_same, cut_to, cut_from, List.map_append, List.map_cons, List.map_take, List.map_drop, List.append_assoc]
      rw [tx_whileN]
      rfl
    · refine ⟨p3, _, _, _, rfl, rfl, SqL.of upd_same, atI_nat (j := 2) rfl, ?_⟩
      refine ⟨(by show 1 ≤ sizeLine; decide), fun p4 g4 => ?_⟩
      have S4 := same_new g4 (.lst [V.str (PySem.Str.ofString "[")])
      refine ⟨p2, p4, _, _, rfl, rfl, S4 _ _ (S3 _ _ upd_same), upd_same, small (by rw [cut_to, List.length_take, List.length_map]; show _ + 1 ≤ _; omega), fun p5 g5 => ?_⟩
      have S5 := same_new g5 (.lst (cutV (ps.map fun c => V.str (tx c)) none (some (k : Int)) ++ [V.str (PySem.Str.ofString "[")]))
      have SA := S1.trans (S2.trans (S3.trans (S4.trans S5)))
      refine ⟨_, rfl, _, rfl, (k : Int), rfl, lr, _, rfl, SqL.of (SA _ _ hrw), fun p6 g6 => ?_⟩
      have S6 := same_new g6 (.lst (cutV (ps.map fun c => V.str (tx c)) (some (k : Int)) none))
      refine ⟨p5, p6, _, _, rfl, rfl, S6 _ _ upd_same, upd_same, small (by rw [List.length_append, cut_to, cut_from, List.length_take, List.length_drop, List.length_map]; show _ + 1 + _ ≤ _; omega), fun p7 g7 => q p7 (ps.take k ++ [91] :: ps.drop k) _ (S0.trans (SA.trans (S6.trans (same_new g7 _)))) ?_ (spoilt_ins hgk (.inr (.inr (.inl rfl))))⟩
      rw [upd_same, cut_to, cut_from, List.map_append, List.map_cons, List.map_take, List.map_drop, List.append_assoc]
      rw [tx_lb]
      rfl
    · refine ⟨p3, _, _, _, rfl, rfl, SqL.of upd_same, atI_nat (j := 3) rfl, ?_⟩
      refine ⟨(by show 1 ≤ sizeLine; decide), fun p4 g4 => ?_⟩
      have S4 := same_new g4 (.lst [V.str (PySem.Str.ofString "|")])
      refine ⟨p2, p4, _, _, rfl, rfl, S4 _ _ (S3 _ _ upd_same), upd_same, small (by rw [cut_to, List.length_take, List.length_map]; show _ + 1 ≤ _; omega), fun p5 g5 => ?_⟩
      have S5 := same_new g5 (.lst (cutV (ps.map fun c => V.str (tx c)) none (some (k : Int)) ++ [V.str (PySem.Str.ofString "|")]))
      have SA := S1.trans (S2.trans (S3.trans (S4.trans S5)))
      refine ⟨_, rfl, _, rfl, (k : Int), rfl, lr, _, rfl, SqL.of (SA _ _ hrw), fun p6 g6 => ?_⟩
      have S6 := same_new g6 (.lst (cutV (ps.map fun c => V.str (tx c)) (some (k : Int)) none))
      refine ⟨p5, p6, _, _, rfl, rfl, S6 _ _ upd_same, upd_same, small (by rw [List.length_append, cut_to, cut_from, List.length_take, List.length_drop, List.length_map]; show _ + 1 + _ ≤ _; omega), fun p7 g7 => q p7 (ps.take k ++ [124] :: ps.drop k) _ (S0.trans (SA.trans (S6.trans (same_new g7 _)))) ?_ (spoilt_ins hgk (.inr (.inr (.inr (.inl rfl)))))⟩
      rw [upd_same, cut_to, cut_from, List.map_append, List.map_cons, List.map_take, List.map_drop, List.append_assoc]
      rw [tx_bar]
      rfl
    · refine ⟨p3, _, _, _, rfl, rfl, SqL.of upd_same, atI_nat (j := 4) rfl, ?_⟩
      refine ⟨(by show 1 ≤ sizeLine; decide), fun p4 g4 => ?_⟩
      have S4 := same_new g4 (.lst [V.str (PySem.Str.ofString "]")])
      refine ⟨p2, p4, _, _, rfl, rfl, S4 _ _ (S3 _ _ upd_same), upd_same, small (by rw [cut_to, List.length_take, List.length_map]; show _ + 1 ≤ _; omega), fun p5 g5 => ?_⟩
      have S5 := same_new g5 (.lst (cutV (ps.map fun c => V.str (tx c)) none (some (k : Int)) ++ [V.str (PySem.Str.ofString "]")]))
      have SA := S1.trans (S2.trans (S3.trans (S4.trans S5)))
      refine ⟨_, rfl, _, rfl, (k : Int), rfl, lr, _, rfl, SqL.of (SA _ _ hrw), fun p6 g6 => ?_⟩
      have S6 := same_new g6 (.lst (cutV (ps.map fun c => V.str (tx c)) (some (k : Int)) none))
      refine ⟨p5, p6, _, _, rfl, rfl, S6 _ _ upd_same, upd_same, small (by rw [List.length_append, cut_to, cut_from, List.length_take, List.length_drop, List.length_map]; show _ + 1 + _ ≤ _; omega), fun p7 g7 => q p7 (ps.take k ++ [93] :: ps.drop k) _ (S0.trans (SA.trans (S6.trans (same_new g7 _)))) ?_ (spoilt_ins hgk (.inr (.inr (.inr (.inr rfl)))))⟩
      rw [upd_same, cut_to, cut_from, List.map_append, List.map_cons, List.map_take, List.map_drop, List.append_assoc]
      rw [tx_rb]
      rfl
  dsimp only [tNext]
  refine ⟨_, rfl, rfl, _, rfl, ite2 (fun _ => ?_) (fun _ => ?_)⟩
  · refine ⟨_, rfl, _, rfl, (k : Int), rfl, lr, _, rfl, SqL.of hrw, fun p2 g2 => ?_⟩
    have S2 := same_new g2 (.lst (cutV (ps.map fun c => V.str (tx c)) none (some (k : Int))))
    have S3 := Same.refl (upd H' p2 (.lst (cutV (ps.map fun c => V.str (tx c)) none (some (k : Int)))))
    refine ⟨(by show 1 ≤ sizeLine; decide), fun p4 g4 => ?_⟩
    have S4 := same_new g4 (.lst [V.str (PySem.Str.ofString "")])
    refine ⟨p2, p4, _, _, rfl, rfl, S4 _ _ (S3 _ _ upd_same), upd_same, small (by rw [cut_to, List.length_take, List.length_map]; show _ + 1 ≤ _; omega), fun p5 g5 => ?_⟩
    have S5 := same_new g5 (.lst (cutV (ps.map fun c => V.str (tx c)) none (some (k : Int)) ++ [V.str (PySem.Str.ofString "")]))
    have SA := S1.trans (S2.trans (S3.trans (S4.trans S5)))
    refine ⟨_, rfl, _, rfl, (k : Int), rfl, lr, _, rfl, SqL.of (SA _ _ hrw), fun p6 g6 => ?_⟩
    have S6 := same_new g6 (.lst (cutV (ps.map fun c => V.str (tx c)) (some (k : Int)) none))
    refine ⟨p5, p6, _, _, rfl, rfl, S6 _ _ upd_same, upd_same, small (by rw [List.length_append, cut_to, cut_from, List.length_take, List.length_drop, List.length_map]; show _ + 1 + _ ≤ _; omega), fun p7 g7 => q p7 (ps.take k ++ [] :: ps.drop k) _ (S0.trans (SA.trans (S6.trans (same_new g7 _)))) ?_ (spoilt_bad hgk badP_nil)⟩
    rw [upd_same, cut_to, cut_from, List.map_append, List.map_cons, List.map_take, List.map_drop, List.append_assoc]
    rw [tx_nil]
    rfl
  dsimp only [tNext]
  refine ⟨_, rfl, _, rfl, (k : Int), rfl, lr, _, rfl, SqL.of hrw, fun p2 g2 => ?_⟩
  have S2 := same_new g2 (.lst (cutV (ps.map fun c => V.str (tx c)) none (some (k : Int))))
  refine ⟨_, rfl, _, rfl, c, lt, xts, ts, rfl, S2.seq hlt, Kids.mono (.of S2) htk, hne, hbt, fun pb H9 S3 hbad => ?_⟩
  refine ⟨(by show 1 ≤ sizeLine; decide), fun p4 g4 => ?_⟩
  have S4 := same_new g4 (.lst [V.str (tx pb)])
  refine ⟨p2, p4, _, _, rfl, rfl, S4 _ _ (S3 _ _ upd_same), upd_same, small (by rw [cut_to, List.length_take, List.length_map]; show _ + 1 ≤ _; omega), fun p5 g5 => ?_⟩
  have S5 := same_new g5 (.lst (cutV (ps.map fun c => V.str (tx c)) none (some (k : Int)) ++ [V.str (tx pb)]))
  have SA := S1.trans (S2.trans (S3.trans (S4.trans S5)))
  refine ⟨_, rfl, _, rfl, (k : Int), rfl, lr, _, rfl, SqL.of (SA _ _ hrw), fun p6 g6 => ?_⟩
  have S6 := same_new g6 (.lst (cutV (ps.map fun c => V.str (tx c)) (some (k : Int)) none))
  refine ⟨p5, p6, _, _, rfl, rfl, S6 _ _ upd_same, upd_same, small (by rw [List.length_append, cut_to, cut_from, List.length_take, List.length_drop, List.length_map]; show _ + 1 + _ ≤ _; omega), fun p7 g7 => q p7 (ps.take k ++ pb :: ps.drop k) _ (S0.trans (SA.trans (S6.trans (same_new g7 _)))) ?_ (spoilt_bad hgk hbad)⟩
  rw [upd_same, cut_to, cut_from, List.map_append, List.map_cons, List.map_take, List.map_drop, List.append_assoc]
  rfl
end
end Sw24

namespace Sw24
open PySem PySem.Spec PyProof.Rows L2 Sw
section
variable {P : Program} {w : World} {K : PySem.W.Frag} {mg : Str → Option Value} {base : Heap} {f : Addr} {fd : FuncData}

theorem bt_ValueError : bootBuiltins "ValueError" = some (.type "ValueError") := by decide +kernel
/-- the error classes as they are found -/
structure Xs (K : PySem.W.Frag) (mg : Str → Option Value) (cS cT cX : Addr) : Prop where
  mS : mg "SelfError" = some (.ref cS)
  mT : mg "NoTree" = some (.ref cT)
  mX : mg "NoText" = some (.ref cX)
  t1 : PySem.W.typeIn K (.ref cS) = some (.type "type")
  t2 : PySem.W.subIn K (.ref cS) (.type "BaseException") = some true
  t3 : ∃ cd, PySem.W.clsIn K cS = some cd
  sX : PySem.W.subIn K (.ref cX) (.ref cS) = some true
  ZX : XCls K cX
  iXT : PySem.W.kitOne K (.ref cX) (.ref cT) = some false
  iXX : PySem.W.kitOne K (.ref cX) (.ref cX) = some true
  iXV : PySem.W.kitOne K (.ref cX) (.type "ValueError") = some true
def spRefusedX (K : PySem.W.Frag) : Sp := fun vs H Q _ => ∃ x, vs = [x] ∧ ((∃ ps, x = .str (tx (joinL [32] ps)) ∧ RowOk ps ∧ readF ps = none) ∨ NoStr K H x) ∧ ∀ H', Same H H' → Q (.bl true) H'
theorem ok__law_refused {cS cT cX : Addr} (m_isinstance : mg "isinstance" = none) (m_ValueError : mg "ValueError" = none) (Z : Xs K mg cS cT cX)
    {a_read : Addr} {d_read : FuncData} (F_read : Fun K "read" "read" s_read a_read d_read) (G_read : FnOk P w K mg base (CXE P w) 45 a_read d_read ["signs"] (spReadAny K cX)) (b_read : Binds K d_read ["signs"] []) (m_read : mg "read" = some (.ref a_read))
    (F : Fun K "_law_refused" "_law_refused" s__law_refused f fd) : FnOk P w K mg base CX0 46 f fd ["_law_thing"] (spRefusedX K) := by
  refine okQ F sc__law_refused (fun vs H Q E h => ?_) (fun cdv A outer s H vs Q E hr h => ?_)
  · obtain ⟨x, rfl, _⟩ := h
    rfl
  obtain ⟨x, rfl, hx, q⟩ := h
  refine ⟨_, (qss_cons (qs_set (i := 1) sc__law_refused.nd rfl (Or.inl rfl) qe_non)
      (qss_cons (qs_tryCall (i := 2) rfl rfl G_read hr rfl m_read F_read.kp b_read (fun _ => (qa_cons (qv 0) qa_nil)) rfl Z.mS Z.t1 Z.t2 Z.t3 sc__law_refused.nd rfl rfl (fun _ => (qss_one (qs_set (i := 1) sc__law_refused.nd rfl (Or.inl rfl) (qv 2)))))
      (qss_cons (qs_if (QW.pt (qw_or (qt_cmpR op_isN (qv 1) qe_non (nomark _)) (qw_or1 (qt_val (qe_callB call_isinstX rfl m_isinstance bt_isinstance (qa_cons (qv 1) (qa_cons (qe_glob (v := .ref cT) rfl Z.mT rfl) qa_nil))))))) (qss_one (qs_ret qe_bl)) qss_nil)
      (qss_one (qs_ret (qe_and (qe_callB call_isinstX rfl m_isinstance bt_isinstance (qa_cons (qv 1) (qa_cons (qe_glob (v := .ref cX) rfl Z.mX rfl) qa_nil))) (qe_one (qe_callB call_isinstX rfl m_isinstance bt_isinstance (qa_cons (qv 1) (qa_cons (qe_bltn (v := .ty "ValueError") rfl m_ValueError bt_ValueError rfl) qa_nil)))))))))), ?_⟩
  refine ⟨_, rfl, x, rfl, ?_⟩
  rcases hx with ⟨ps, rfl, hrow, hno⟩ | hx
  · refine .inl ⟨ps, rfl, hrow, fun r hr' => absurd (hr'.symm.trans hno) (by simp), fun _ H' S => ⟨cX, rfl, Z.sX, fun a ha => ⟨_, rfl, ?_⟩⟩⟩
    refine ⟨_, rfl, rfl, _, rfl, iteF ⟨_, rfl, a, cX, .ref cT, false, rfl, .inl ⟨_, rfl⟩, upd_same, Z.ZX, Z.iXT, _, rfl, iteF ?_⟩⟩
    refine ⟨_, rfl, a, cX, .ref cX, true, rfl, .inl ⟨_, rfl⟩, upd_same, Z.ZX, Z.iXX, _, rfl, iteT ?_⟩
    exact ⟨_, rfl, a, cX, .ty "ValueError", true, rfl, .inr ⟨_, rfl⟩, upd_same, Z.ZX, Z.iXV, q _ (S.trans (same_new ha _))⟩
  · have S := Same.refl H
    refine .inr ⟨hx, ⟨cX, rfl, Z.sX, fun a ha => ⟨_, rfl, ?_⟩⟩⟩
    refine ⟨_, rfl, rfl, _, rfl, iteF ⟨_, rfl, a, cX, .ref cT, false, rfl, .inl ⟨_, rfl⟩, upd_same, Z.ZX, Z.iXT, _, rfl, iteF ?_⟩⟩
    refine ⟨_, rfl, a, cX, .ref cX, true, rfl, .inl ⟨_, rfl⟩, upd_same, Z.ZX, Z.iXX, _, rfl, iteT ?_⟩
    exact ⟨_, rfl, a, cX, .ty "ValueError", true, rfl, .inr ⟨_, rfl⟩, upd_same, Z.ZX, Z.iXV, q _ (S.trans (same_new ha _))⟩
end
end Sw24

namespace Sw24
open PySem PySem.Spec PyProof.Rows L2 Sw
section
variable {P : Program} {w : World} {K : PySem.W.Frag} {mg : Str → Option Value} {base : Heap} {f : Addr} {fd : FuncData}

theorem join_lenP (ps : List (List Nat)) : (joinL [32] ps).length ≤ lenP ps := by
  have h1 := joinL_len [32] ps
  have h2 : ∀ l : List (List Nat), l.flatten.length + l.length ≤ lenP l := by
    intro l
    induction l with
    | nil => exact Nat.zero_le _
    | cons p l ih => rw [List.flatten_cons, List.length_append, List.length_cons, lenP]; omega
  have h3 := h2 ps
  simp only [List.length_singleton, Nat.mul_one] at h1
  omega
theorem flat_lenP (ps : List (List Nat)) : ps.flatten.length + ps.length * [32].length ≤ lenP ps := by
  induction ps with
  | nil => exact Nat.zero_le _
  | cons p l ih => rw [List.flatten_cons, List.length_append, List.length_cons, lenP]; simp only [List.length_singleton, Nat.mul_one] at ih ⊢; omega
theorem cut29 (ns : List Int) : ∃ ms : List Int, cutV (ns.map V.int) (some 2) (some 11) = ms.map V.int ∧ ms.length ≤ 9 := by
  refine ⟨(ns.drop (min 2 ns.length)).take (min 11 ns.length - min 2 ns.length), ?_, ?_⟩
  · rw [show (some (2 : Int)) = some ((2 : Nat) : Int) from rfl, show (some (11 : Int)) = some ((11 : Nat) : Int) from rfl]
    unfold cutV
    rw [HT.sIx_nat, HT.sIx_nat, List.length_map, List.map_take, List.map_drop]
  · rw [List.length_take]; omega
/-- a list that holds a spoilt row -/
def SpL (H : Hp) (y : V) : Prop := ∃ (b : Addr) (qs : List (List Nat)), y = .ref b ∧ H b = some (.lst (qs.map fun c => V.str (tx c))) ∧ Spoilt qs
theorem Spoilt.row {qs : List (List Nat)} (h : Spoilt qs) : RowOk qs := ⟨⟨h.1.1, .inr h.1.2.2.2.2⟩, h.1.2.1, h.1.2.2.1, h.1.2.2.2.1⟩
theorem spl_ne {H : Hp} {b D : Addr} {ys : List V} {qs : List (List Nat)} (hb : H b = some (.lst (qs.map fun c => V.str (tx c)))) (hD : H D = some (.lst ys)) (hs : Spoilt qs) (hy : ∀ y ∈ ys, ∃ c, y = .ref c) : b ≠ D := fun z => by
  subst z
  rw [hb] at hD
  have e : qs.map (fun c => V.str (tx c)) = ys := by injection hD with h; injection h
  cases qs with
  | nil => exact hs.1.2.2.2.2 rfl
  | cons c qs =>
    obtain ⟨d, ed⟩ := hy (V.str (tx c)) (by rw [← e]; exact List.mem_cons_self)
    cases ed
theorem ok_law {cX : Addr} (m_range : mg "range" = none) 
    {a__law_drawn : Addr} {d__law_drawn : FuncData} (F__law_drawn : Fun K "_law_drawn" "_law_drawn" s__law_drawn a__law_drawn d__law_drawn) (G__law_drawn : FnOk P w K mg base CX0 59 a__law_drawn d__law_drawn ["_law_script", "_law_start"] (spDrawnW K)) (b__law_drawn : Binds K d__law_drawn ["_law_script", "_law_start"] []) (m__law_drawn : mg "_law_drawn" = some (.ref a__law_drawn))
    {a__law_plain : Addr} {d__law_plain : FuncData} (F__law_plain : Fun K "_law_plain" "_law_plain" s__law_plain a__law_plain d__law_plain) (G__law_plain : FnOk P w K mg base CX0 59 a__law_plain d__law_plain ["_law_cell"] (spPlainW K)) (b__law_plain : Binds K d__law_plain ["_law_cell"] []) (m__law_plain : mg "_law_plain" = some (.ref a__law_plain))
    {a__law_at : Addr} {d__law_at : FuncData} (F__law_at : Fun K "_law_at" "_law_at" s__law_at a__law_at d__law_at) (G__law_at : FnOk P w K mg base CX0 59 a__law_at d__law_at ["_law_script", "_law_k"] (spAt K)) (b__law_at : Binds K d__law_at ["_law_script", "_law_k"] []) (m__law_at : mg "_law_at" = some (.ref a__law_at))
    {a__law_text : Addr} {d__law_text : FuncData} (F__law_text : Fun K "_law_text" "_law_text" s__law_text a__law_text d__law_text) (G__law_text : FnOk P w K mg base CX0 59 a__law_text d__law_text ["_law_words_here"] (spTextX K)) (b__law_text : Binds K d__law_text ["_law_words_here"] []) (m__law_text : mg "_law_text" = some (.ref a__law_text))
    {a__law_grown : Addr} {d__law_grown : FuncData} (F__law_grown : Fun K "_law_grown" "_law_grown" s__law_grown a__law_grown d__law_grown) (G__law_grown : FnOk P w K mg base CX0 59 a__law_grown d__law_grown ["_law_cells"] (spGrownP K)) (b__law_grown : Binds K d__law_grown ["_law_cells"] []) (m__law_grown : mg "_law_grown" = some (.ref a__law_grown))
    {a__law_spoilt : Addr} {d__law_spoilt : FuncData} (F__law_spoilt : Fun K "_law_spoilt" "_law_spoilt" s__law_spoilt a__law_spoilt d__law_spoilt) (G__law_spoilt : FnOk P w K mg base CX0 59 a__law_spoilt d__law_spoilt ["_law_cell", "_law_row", "_law_trees"] (spSpoilt K)) (b__law_spoilt : Binds K d__law_spoilt ["_law_cell", "_law_row", "_law_trees"] []) (m__law_spoilt : mg "_law_spoilt" = some (.ref a__law_spoilt))
    {a_read : Addr} {d_read : FuncData} (F_read : Fun K "read" "read" s_read a_read d_read) (G_read : FnOk P w K mg base (CXE P w) 59 a_read d_read ["signs"] (spReadAny K cX)) (b_read : Binds K d_read ["signs"] []) (m_read : mg "read" = some (.ref a_read))
    {a__law_refused : Addr} {d__law_refused : FuncData} (F__law_refused : Fun K "_law_refused" "_law_refused" s__law_refused a__law_refused d__law_refused) (G__law_refused : FnOk P w K mg base CX0 59 a__law_refused d__law_refused ["_law_thing"] (spRefusedX K)) (b__law_refused : Binds K d__law_refused ["_law_thing"] []) (m__law_refused : mg "_law_refused" = some (.ref a__law_refused))
    (F : Fun K "law" "law" s_law f fd) : FnOk P w K mg base CX0 60 f fd ["_law_script"] (spLaw K) := by
  refine okQ F sc_law (fun vs H Q E h => ?_) (fun cdv A outer s H vs Q E hr h => ?_)
  · obtain ⟨a, ns, rfl, _⟩ := h
    rfl
  obtain ⟨a, ns, rfl, hl, h63, q⟩ := h
  have hE := hr.un
  have hE : (A.deeper (envOfC "law" (defScope s_law) s.heap.objs.size f cdv)).units + 401 < cLine := by omega
  refine ⟨_, (qss_cons (qs_set (i := 1) sc_law.nd rfl (Or.inl rfl) (qe_op op_cat (qe_call G__law_drawn hr rfl m__law_drawn F__law_drawn.kp b__law_drawn .nil pass0 (qa_cons (qv 0) (qa_cons qe_int qa_nil))) (qe_lst (qa_cons (qe_call G__law_plain hr rfl m__law_plain F__law_plain.kp b__law_plain .nil pass0 (qa_cons (qe_call G__law_at hr rfl m__law_at F__law_at.kp b__law_at .nil pass0 (qa_cons (qv 0) (qa_cons qe_int qa_nil))) qa_nil)) qa_nil))))
      (qss_cons (qs_set (i := 2) sc_law.nd rfl (Or.inl rfl) (qe_call G__law_text hr rfl m__law_text F__law_text.kp b__law_text .nil pass0 (qa_cons (qv 1) qa_nil)))
      (qss_cons (qs_set (i := 3) sc_law.nd rfl (Or.inr rfl) (qe_bm PySem.F.plainAttrs_str PySem.F.slot_str_split PySem.F.type_str_split mt_split (qe_ix ix_tup (qv 2) qe_int (fun _ _ => rfl)) (qa_cons qe_str qa_nil)))
      (qss_cons (qs_set (i := 4) sc_law.nd rfl (Or.inr rfl) (qe_op op_cat (qe_lst (qa_cons (qe_tup (qa_cons (qe_tup qa_nil) (qa_cons qe_str qa_nil))) qa_nil)) (qe_call G__law_grown hr rfl m__law_grown F__law_grown.kp b__law_grown .nil pass0 (qa_cons (qe_slice sl_list (qv 0) (qo_some qe_int) (qo_some qe_int)) qa_nil))))
      (qss_cons (qs_setLC (i := 5) sc_law.nd rfl (Or.inl rfl) rfl (lc_free (fr := ["_law_script", "_law_row", "_law_trees"]) (js := [0, 3, 4]) (sc := defScope s_law) rfl rfl rfl (by decide +kernel) (by decide +kernel) (by decide +kernel) (by decide +kernel) (by exact ⟨⟨rfl, rfl, rfl⟩, ⟨⟨rfl, rfl, rfl⟩, ⟨⟨rfl, rfl, rfl⟩, trivial⟩⟩⟩) (by decide +kernel) (fun y hy => cell_has hy)) (qi_range1 rfl m_range (qa_cons qe_int qa_nil)) (fun _ _ _ _ _ => (qe_call G__law_spoilt hr rfl m__law_spoilt F__law_spoilt.kp b__law_spoilt .nil pass0 (qa_cons (qe_op op_add (qe_call G__law_at hr rfl m__law_at F__law_at.kp b__law_at .nil pass0 (qa_cons (qv 1) (qa_cons (qe_op op_add qe_int (qv 0)) qa_nil))) (qe_op op_mul qe_int (qv 0))) (qa_cons (qv 2) (qa_cons (qv 3) qa_nil))))))
      (qss_cons (qs_for PassesOwn.never rfl (qi_list (qv 5)) (qg_name (i := 6) sc_law.nd rfl (Or.inl rfl)) (qss_one (qs_if (QW.pt (qw_or (qt_not (qt_val (qe_call G__law_refused hr rfl m__law_refused F__law_refused.kp b__law_refused .nil pass0 (qa_cons (qe_bm PySem.F.plainAttrs_str PySem.F.slot_str_join PySem.F.type_str_join mt_joinS qe_str (qa_cons (qv 6) qa_nil)) qa_nil)))) (qw_or1 (qt_cmpR (op_neTr hE) (qe_call G_read hr rfl m_read F_read.kp b_read .nil passE (qa_cons (qe_ix ix_tup (qv 2) qe_int (fun _ _ => rfl)) qa_nil)) (qe_ix ix_tup (qv 2) qe_int (fun _ _ => rfl)) (nomark _))))) (qss_one (qs_ret qe_bl)) qss_nil)))
      (qss_cons (qs_set (i := 7) sc_law.nd rfl (Or.inl rfl) (qe_ix ix_list (qe_lst (qa_cons qe_non (qa_cons qe_int (qa_cons qe_bl (qa_cons (qe_tup qa_nil) (qa_cons (qe_tup (qa_cons qe_str qa_nil)) (qa_cons (qe_lst (qa_cons qe_str qa_nil)) (qa_cons qe_str qa_nil)))))))) (qe_op op_mod (qe_call G__law_at hr rfl m__law_at F__law_at.kp b__law_at .nil pass0 (qa_cons (qv 0) (qa_cons qe_int qa_nil))) qe_int) (fun _ _ => rfl)))
      (qss_one (qs_ret (qe_and (qe_call G__law_refused hr rfl m__law_refused F__law_refused.kp b__law_refused .nil pass0 (qa_cons (qv 7) qa_nil)) (qe_and (qe_call G__law_refused hr rfl m__law_refused F__law_refused.kp b__law_refused .nil pass0 (qa_cons (qe_bm PySem.F.plainAttrs_str PySem.F.slot_str_join PySem.F.type_str_join mt_joinS qe_str (qa_cons (qe_ix ix_list (qv 5) qe_int (fun _ _ => rfl)) qa_nil)) qa_nil)) (qe_one (qe_cmpR (op_eqTr hE) (qe_call G_read hr rfl m_read F_read.kp b_read .nil passE (qa_cons (qe_ix ix_tup (qv 2) qe_int (fun _ _ => rfl)) qa_nil)) (qe_ix ix_tup (qv 2) qe_int (fun _ _ => rfl)) (nomark _)))))))))))))), ?_⟩
  refine setQ (fun v => [some (.ref a), some (v), none, none, none, none, none, none]) (fun _ => rfl) (fun v H' => Same H H' ∧ ∃ (l : Addr) (xs : List V) (ws : List T) (w : T) (p : List Nat), v = .ref l ∧ H' l = some (.lst xs) ∧ All2 (WRd K H') (ws ++ [w]) xs ∧ ws.length ≤ 99 ∧ T.partsL ws ≤ 30000 ∧ T.deepL ws ≤ 300 ∧ Dn ws 99 ∧ One w p ∧ B 2 8 w) (fun R r => ⟨_, rfl, a, ns, rfl, hl, h63, fun l xs ws H1 S1 h1 h2 h3 h4 h5 h6 => ⟨_, rfl, a, 1, ns, rfl, S1.seq hl, by decide, fun i1 H2 S2 => ⟨i1, rfl, fun r1 w H3 S3 hw hb => ⟨(by show 1 ≤ sizeLine; decide), fun p4 g4 => ?_⟩⟩⟩⟩) (fun v1 H1 h1 => ?_)
  · have hxl := h2.length
    have S4 := same_new g4 (.lst [r1])
    have S14 := S2.trans (S3.trans S4)
    obtain ⟨p, ho⟩ : ∃ p, One w p := by obtain ⟨_, _, _, _, _, _, hh⟩ := hw; exact small_one hh (by have := hb.2; omega)
    exact ⟨l, p4, xs, [r1], rfl, rfl, S14 _ _ h1, upd_same, small (by show xs.length + 1 ≤ _; omega), fun p5 g5 => r _ _ ⟨S1.trans (S14.trans (same_new g5 _)), p5, _, ws, w, p, rfl, upd_same, (h2.imp fun _ _ => WRd.mono (Kt.of (S14.trans (same_new g5 _)))).append (All2.one (hw.mono (Kt.of (S4.trans (same_new g5 _))))), h3, h4, h5, h6, ho, hb⟩⟩
  obtain ⟨S1, l, xs, ws, w, p, rfl, hx, hw, hn, hp, hd, dn, ho, hb⟩ := h1
  have bw : B 30 200 w := hb.le (by omega) (by omega)
  have bp := hb.2
  have bd := hb.1
  have epp : T.partsL (ws ++ [w]) ≤ 30010 := by rw [T.partsL_append, T.partsL_cons, T.partsL_nil]; omega
  have edd : T.deepL (ws ++ [w]) ≤ 310 := by rw [T.deepL_append, T.deepL_cons, T.deepL_nil]; omega
  refine setQ (fun v => [some (.ref a), some (.ref l), some (v), none, none, none, none, none]) (fun _ => rfl) (fun v H' => Same H1 H' ∧ TXd K H' (ws ++ [w]) v) (fun R r => ⟨_, rfl, l, xs, ws ++ [w], rfl, SqL.of hx, hw, by omega, fun r2 H2 S2 h2 => r _ _ ⟨S2, h2⟩⟩) (fun v2 H2 h2 => ?_)
  obtain ⟨S2, ag, yg, ps, rfl, qg, tg, hts⟩ := h2
  have gr := good_row dn (by decide) ho bw hts
  have rdF := readF_ts hts
  generalize ws ++ [w] = wz at hw epp edd tg hts rdF
  have hjn : joinL [32] ps ≠ [] := fun z => gr.ne (join_nil (fun p hp => (gr.ok p hp).1) z)
  have rok : RowOk ps := ⟨⟨fun p hp => (gr.ok p hp).2, .inr hjn⟩, gr.flat, by have := gr.len; omega, by have := gr.sh; omega⟩
  have hjl : (joinL [32] ps).length ≤ 8000000 := by have := join_lenP ps; have := gr.len; omega
  refine setQ (fun v => [some (.ref a), some (.ref l), some (.ref ag), some (v), none, none, none, none]) (fun _ => rfl) (fun v H' => ∃ lr, v = .ref lr ∧ Same H2 H' ∧ H' lr = some (.lst (ps.map fun c => V.str (tx c)))) (fun R r => ⟨_, rfl, ag, _, 1, _, rfl, rfl, qg, atI_nat (j := 1) rfl, rfl, _, 32, rfl, (by rw [tx_blank]), hjl, fun D ls gD hj hl' hc => r _ _ ⟨D, rfl, same_new gD _, by rw [join_uniq hl' gr.ne hc (fun p hp => (gr.ok p hp).2) hj]; exact upd_same⟩⟩) (fun v3 H3 h3 => ?_)
  obtain ⟨lr, rfl, S3, hlr⟩ := h3
  have S13 := S1.trans (S2.trans S3)
  refine setQ (fun v => [some (.ref a), some (.ref l), some (.ref ag), some (.ref lr), some (v), none, none, none]) (fun _ => rfl) (fun v H' => Same H3 H' ∧ ∃ (lt : Addr) (xts : List V) (ts : List T), v = .ref lt ∧ H' lt = some (.lst xts) ∧ Kids K H' ts xts ∧ ts ≠ [] ∧ ∀ t ∈ ts, B 20 60 t) (fun R r => ?_) (fun v4 H4 h4 => ?_)
  · refine ⟨Nat.zero_le _, fun p3 g3 => ⟨(by show 2 ≤ sizeLine; decide), fun p4 g4 => ⟨(by show 1 ≤ sizeLine; decide), fun p5 g5 => ?_⟩⟩⟩
    obtain ⟨S3', t3⟩ := tupN (K := K) (ts := []) g3 (TRs_nil.mpr rfl)
    have S4 := same_new g4 (.tup [.ref p3, .str (PySem.Str.ofString "()")])
    have k4 : KidR K (upd (upd H3 p3 (.tup [])) p4 (.tup [.ref p3, .str (PySem.Str.ofString "()")])) (.node []) (.ref p4) := ⟨p4, .ref p3, rfl, SqT.of (by rw [upd_same, tx_leaf]; rfl), t3.mono (.of S4)⟩
    have S5 := same_new g5 (.lst [V.ref p4])
    have h5 := upd_same (H := upd (upd H3 p3 (.tup [])) p4 (.tup [.ref p3, .str (PySem.Str.ofString "()")])) (a := p5) (o := .lst [V.ref p4])
    have k5 := k4.mono (.of S5)
    have S25 := S3'.trans (S4.trans S5)
    generalize upd (upd (upd H3 p3 (.tup [])) p4 (.tup [.ref p3, .str (PySem.Str.ofString "()")])) p5 (.lst [V.ref p4]) = H5 at S25 k5 h5
    obtain ⟨ms, ecut, hms⟩ := cut29 ns
    refine ⟨_, rfl, 2, rfl, 11, rfl, a, _, rfl, (S13.trans S25).seq hl, fun p6 g6 => ⟨p6, ms, rfl, SqL.of (by rw [upd_same, ecut]), by omega, fun r7 xs7 ts7 H7 S7 h7 k7 z7 _ => ?_⟩⟩
    have S6 := same_new g6 (.lst (cutV (ns.map V.int) (some 2) (some 11)))
    have hx7 := k7.length
    have hp7 := T.len_le_parts ts7
    refine ⟨p5, r7, _, xs7, rfl, rfl, (S6.trans S7) _ _ h5, h7, small (by show 1 + xs7.length ≤ _; omega), fun p8 g8 => r _ _ ⟨S25.trans (S6.trans (S7.trans (same_new g8 _))), p8, _, .node [] :: ts7, rfl, upd_same, ?_, by simp, fun t ht => ?_⟩⟩
    · have S8 := same_new g8 (.lst ([V.ref p4] ++ xs7))
      exact All2.cons (k5.mono (.of (S6.trans (S7.trans S8)))) (k7.imp fun _ _ z => z.mono (.of S8))
    · rcases List.mem_cons.mp ht with rfl | ht
      · exact ⟨by rw [T.deep_node, T.deepL_nil]; omega, by rw [T.parts_node, T.partsL_nil]; omega⟩
      · have h1 := T.mem_parts ht
        have h2 := T.deep_lt t
        exact ⟨by omega, by omega⟩
  obtain ⟨S4, lt, xts, ts, rfl, hlt, hkt, hne, hbt⟩ := h4
  have S14 := S13.trans S4
  refine ⟨5, rfl, by decide, by decide, ?_⟩
  refine lc_rangeI (n := 5) (fun D i ys H' => H4 D = none ∧ Same H4 H' ∧ H' D = some (.lst ys) ∧ ys.length = i ∧ ∀ y ∈ ys, SpL H' y) (by decide) (fun D hD => ⟨hD, same_new hD _, upd_same, rfl, fun y hy => by cases hy⟩) (fun D i ys H' j => ⟨j.2.2.1, j.2.2.2.1⟩) (fun D i ys H' R hi j hR => ?_) (fun D ys H' j => ?_)
  · obtain ⟨hD, S, h1, h2, h3⟩ := j
    refine ⟨_, rfl, _, rfl, _, _, rfl, rfl, a, _, ns, rfl, (S14.trans S).seq hl, by omega, fun i1 H6 S6 => ⟨_, rfl, _, _, rfl, rfl, .inl ⟨by decide, by decide⟩, _, _, rfl, rfl, _, rfl, _, rfl, _, lr, lt, ps, xts, ts, rfl, (S4.trans (S.trans S6)) _ _ hlr, gr, SqL.of ((S.trans S6) _ _ hlt), Kids.mono (.of (S.trans S6)) hkt, hne, hbt, fun b qs H7 S7 hb7 hs => ?_⟩⟩
    have h17 := (S6.trans S7) _ _ h1
    have hnb : b ≠ D := spl_ne hb7 h17 hs (fun y hy => by obtain ⟨c, _, e, _⟩ := h3 y hy; exact ⟨c, e⟩)
    refine hR _ _ h17 ⟨hD, same_upd (S.trans (S6.trans S7)) hD, upd_same, by rw [List.length_append, h2]; rfl, fun y hy => ?_⟩
    rcases List.mem_append.mp hy with z | z
    · obtain ⟨c, rs, e, hc, hsp⟩ := h3 y z
      have hc7 := (S6.trans S7) _ _ hc
      have hnc : c ≠ D := spl_ne hc7 h17 hsp (fun y hy => by obtain ⟨c, _, e, _⟩ := h3 y hy; exact ⟨c, e⟩)
      exact ⟨c, rs, e, by rw [upd_ne hnc]; exact hc7, hsp⟩
    · rw [List.mem_singleton.mp z]
      exact ⟨b, qs, rfl, by rw [upd_ne hnb]; exact hb7, hs⟩
  obtain ⟨hD0, S5, hD, hlen, hsp⟩ := j
  have S15 := S14.trans S5
  have qg5 := sqT_mono (K := K) (.of (S3.trans (S4.trans S5))) qg
  have tg5 := tg.mono (K := K) (.of (S3.trans (S4.trans S5)))
  have flen : ∀ qs : List (List Nat), Spoilt qs → qs.flatten.length + qs.length * [32].length ≤ 16777216 := fun qs hs => by have := flat_lenP qs; have := hs.1.2.2.1; omega
  refine ⟨_, rfl, D, rfl, ⟨_, SqL.of hD⟩, ?_⟩
  refine for_list (xs := ys) (fun i σ' Hn => ∃ o6, σ' = [some (.ref a), some (.ref l), some (.ref ag), some (.ref lr), some (.ref lt), some (.ref D), o6, none] ∧ Same H' Hn) ⟨_, rfl, Same.refl _⟩ ?_ ?_ ?_
  · rintro i σ' Hn _ ⟨o6, rfl, Sn⟩
    exact SqL.of (Sn _ _ hD)
  · rintro i x σ' Hn hxi ⟨o6, rfl, Sn⟩
    obtain ⟨b, qs, rfl, hb5, hs5⟩ := hsp x (List.mem_of_getElem? hxi)
    dsimp only [gName]
    refine ⟨rfl, _, rfl, b, [32], qs, (by rw [tx_blank]), rfl, SqL.of (Sn _ _ hb5), flen qs hs5, _, rfl, .inl ⟨qs, rfl, Spoilt.row hs5, hs5.2⟩, fun Hy Sy => ⟨_, rfl, iteF ?_⟩⟩
    have Sny := Sn.trans Sy
    refine ⟨_, rfl, ag, _, 1, _, rfl, rfl, sqT_mono (.of Sny) qg5, atI_nat (j := 1) rfl, _, rfl, .inl ⟨ps, rfl, rok, fun r' hr' y Hz Sz ty => ?_, fun hno => absurd (hno.symm.trans rdF) (by simp)⟩⟩
    rw [rdF] at hr'
    cases hr'
    refine ⟨_, rfl, ag, _, 0, yg, rfl, rfl, sqT_mono (.of (Sny.trans Sz)) qg5, atI_nat (j := 0) rfl, .node wz, .node wz, ty, tg5.mono (.of (Sny.trans Sz)), by rw [T.deep_node]; omega, ?_⟩
    rw [T.beq_self]
    exact ⟨_, rfl, iteF ⟨_, rfl, Sny.trans Sz⟩⟩
  · rintro σ' Hn ⟨o6, rfl, Sn⟩
    obtain ⟨y0, hy0⟩ : ∃ y0, ys[0]? = some y0 := ⟨_, List.getElem?_eq_getElem (by omega)⟩
    obtain ⟨b0, q0, rfl, hb0, hs0⟩ := hsp y0 (List.mem_of_getElem? hy0)
    dsimp only
    refine setQ (fun v => [some (.ref a), some (.ref l), some (.ref ag), some (.ref lr), some (.ref lt), some (.ref D), o6, some v]) (fun _ => rfl) (fun v Hm => Same Hn Hm ∧ ((∃ qs, v = .str (tx (joinL [32] qs)) ∧ RowOk qs ∧ readF qs = none) ∨ NoStr K Hm v)) (fun R r => ?_) (fun v7 Hm hm7 => ?_)
    · refine ⟨Nat.zero_le _, fun p1 g1 => ⟨(by show 1 ≤ sizeLine; decide), fun p2 g2 => ⟨(by show 1 ≤ sizeLine; decide), fun p3 g3 => ⟨(by show 7 ≤ sizeLine; decide), fun p4 g4 => ?_⟩⟩⟩⟩
      have s1 := same_new g1 (.tup [])
      have s2 := same_new g2 (.tup [V.str (PySem.Str.ofString "drop")])
      have s3 := same_new g3 (.lst [V.str (PySem.Str.ofString "drop")])
      have s4 := same_new g4 (.lst [V.non, V.int 7, V.bl true, V.ref p1, V.ref p2, V.ref p3, V.str (PySem.Str.ofString " ")])
      refine ⟨_, rfl, a, 1, ns, rfl, (S15.trans (Sn.trans (s1.trans (s2.trans (s3.trans s4))))).seq hl, by decide, fun i1 Hk sk => ⟨_, _, rfl, rfl, (by show (0 : Int) < 7; decide), ?_⟩⟩
      have n0 : 0 ≤ i1 % 7 := Int.emod_nonneg i1 (by decide)
      have n1 : i1 % 7 < 7 := Int.emod_lt_of_pos i1 (by decide)
      obtain ⟨n, en⟩ : ∃ n : Nat, i1 % 7 = (n : Int) := ⟨(i1 % 7).toNat, by omega⟩
      have e1 : Hk p1 = some (.tup []) := sk _ _ (s4 _ _ (s3 _ _ (s2 _ _ upd_same)))
      have e2 : Hk p2 = some (.tup [V.str (PySem.Str.ofString "drop")]) := sk _ _ (s4 _ _ (s3 _ _ upd_same))
      have e3 : Hk p3 = some (.lst [V.str (PySem.Str.ofString "drop")]) := sk _ _ (s4 _ _ upd_same)
      have SS : Same Hn Hk := s1.trans (s2.trans (s3.trans (s4.trans sk)))
      have hc : ∀ x, [V.non, V.int 7, V.bl true, V.ref p1, V.ref p2, V.ref p3, V.str (PySem.Str.ofString " ")][n]? = some x → ((∃ qs, x = .str (tx (joinL [32] qs)) ∧ RowOk qs ∧ readF qs = none) ∨ NoStr K Hk x) := by
        intro x hx
        have hn : n = 0 ∨ n = 1 ∨ n = 2 ∨ n = 3 ∨ n = 4 ∨ n = 5 ∨ n = 6 := by omega
        rcases hn with rfl | rfl | rfl | rfl | rfl | rfl | rfl
        · cases hx; exact .inr ⟨_, TyOf.non, by rfl⟩
        · cases hx; exact .inr ⟨_, TyOf.int _, by rfl⟩
        · cases hx; exact .inr ⟨_, TyOf.bl _, by rfl⟩
        · cases hx; exact .inr ⟨_, TyOf.tup e1, by rfl⟩
        · cases hx; exact .inr ⟨_, TyOf.tup e2, by rfl⟩
        · cases hx; exact .inr ⟨_, TyOf.lst e3, by rfl⟩
        · cases hx
          refine .inl ⟨[[], []], by rw [tx_blank]; rfl, ⟨⟨fun p hp => ?_, .inr (by decide)⟩, fun p hp => ?_, by decide, by decide⟩, ins_bad (a := []) (b := [[]]) badP_nil⟩
          · simp at hp; subst hp; simp
          · simp at hp; subst hp; exact badP_nil.2.1
      have hlt7 : n < [V.non, V.int 7, V.bl true, V.ref p1, V.ref p2, V.ref p3, V.str (PySem.Str.ofString " ")].length := by show n < 7; omega
      have ex := List.getElem?_eq_getElem hlt7
      exact ⟨p4, _, _, _, rfl, rfl, SqL.of (sk _ _ upd_same), (by rw [en]; exact atI_nat ex), r _ _ ⟨SS, hc _ ex⟩⟩
    obtain ⟨Sm, h7⟩ := hm7
    refine ⟨_, rfl, v7, rfl, h7, fun H8 S8 => ⟨_, rfl, iteT ?_⟩⟩
    have S58 := Sn.trans (Sm.trans S8)
    refine ⟨rfl, _, rfl, D, _, 0, _, rfl, rfl, SqL.of (S58 _ _ hD), atI_nat (j := 0) hy0, b0, [32], q0, (by rw [tx_blank]), rfl, SqL.of (S58 _ _ hb0), flen q0 hs0, _, rfl, .inl ⟨q0, rfl, Spoilt.row hs0, hs0.2⟩, fun H9 S9 => ⟨_, rfl, iteT ?_⟩⟩
    have S59 := S58.trans S9
    refine ⟨_, rfl, ag, _, 1, _, rfl, rfl, sqT_mono (.of S59) qg5, atI_nat (j := 1) rfl, _, rfl, .inl ⟨ps, rfl, rok, fun r' hr' y Hz Sz ty => ?_, fun hno => absurd (hno.symm.trans rdF) (by simp)⟩⟩
    rw [rdF] at hr'
    cases hr'
    refine ⟨_, rfl, ag, _, 0, yg, rfl, rfl, sqT_mono (.of (S59.trans Sz)) qg5, atI_nat (j := 0) rfl, .node wz, .node wz, ty, tg5.mono (.of (S59.trans Sz)), by rw [T.deep_node]; omega, ?_⟩
    rw [T.beq_self]
    exact q _
end
end Sw24

namespace Sw24
open PySem PySem.Spec PyProof.Rows L2 Sw
theorem all_mk {l : PySem.W.OpenLaw} {w : World} {K : PySem.W.Frag} {h : Heap} {mg : Str → Option Value} {fa f1 f2 f3 f4 f5 f6 f7 f8 f9 f10 f11 f12 f13 f14 f15 f16 f17 f18 f19 f20 f21 f22 f23 f24 f25 f26 f27 f28 f29 f30 f31 : Addr} (X : K.In h) (G : h.Ns mainGlobals mg) (hfa : mg "law" = some (.ref fa))  {C : Addr} {cS cT cX : Addr} {dS dT dX : ClassData} {f___init__ : Addr} {od___init__ an___init__ : Option Addr} {sl___init__ : Array (Option Value)} {oc___init__ kV___init__ dc___init__ pm___init__ cd___init__ ct___init__ : Value} {f_take : Addr} {od_take an_take : Option Addr} {sl_take : Array (Option Value)} {oc_take kV_take dc_take pm_take cd_take ct_take : Value} {f_enter : Addr} {od_enter an_enter : Option Addr} {sl_enter : Array (Option Value)} {oc_enter kV_enter dc_enter pm_enter cd_enter ct_enter : Value} {f_leave : Addr} {od_leave an_leave : Option Addr} {sl_leave : Array (Option Value)} {oc_leave kV_leave dc_leave pm_leave cd_leave ct_leave : Value} {f_bracketed : Addr} {od_bracketed an_bracketed : Option Addr} {sl_bracketed : Array (Option Value)} {oc_bracketed kV_bracketed dc_bracketed pm_bracketed cd_bracketed ct_bracketed : Value} {f_add_word : Addr} {od_add_word an_add_word : Option Addr} {sl_add_word : Array (Option Value)} {oc_add_word kV_add_word dc_add_word pm_add_word cd_add_word ct_add_word : Value} {f_whole : Addr} {od_whole an_whole : Option Addr} {sl_whole : Array (Option Value)} {oc_whole kV_whole dc_whole pm_whole cd_whole ct_whole : Value} {a_NAMES : Addr} {o_NAMES : Obj} {u_DROP : Value} {u_TURN : Value} {u_NAMELESS : Value} {u_FORK : Value} {u_WHILE : Value} {u_LAY : Value}
    {od1 an1 od2 an2 od3 an3 od4 an4 od5 an5 od6 an6 od7 an7 od8 an8 od9 an9 od10 an10 od11 an11 od12 an12 od13 an13 od14 an14 od15 an15 od16 an16 od17 an17 od18 an18 od19 an19 od20 an20 od21 an21 od22 an22 od23 an23 od24 an24 od25 an25 od26 an26 od27 an27 od28 an28 od29 an29 od30 an30 od31 an31 : Option Addr} {sl1 sl2 sl3 sl4 sl5 sl6 sl7 sl8 sl9 sl10 sl11 sl12 sl13 sl14 sl15 sl16 sl17 sl18 sl19 sl20 sl21 sl22 sl23 sl24 sl25 sl26 sl27 sl28 sl29 sl30 sl31 : Array (Option Value)} {oc1 kV1 dc1 pm1 cd1 ct1 oc2 kV2 dc2 pm2 cd2 ct2 oc3 kV3 dc3 pm3 cd3 ct3 oc4 kV4 dc4 pm4 cd4 ct4 oc5 kV5 dc5 pm5 cd5 ct5 oc6 kV6 dc6 pm6 cd6 ct6 oc7 kV7 dc7 pm7 cd7 ct7 oc8 kV8 dc8 pm8 cd8 ct8 oc9 kV9 dc9 pm9 cd9 ct9 oc10 kV10 dc10 pm10 cd10 ct10 oc11 kV11 dc11 pm11 cd11 ct11 oc12 kV12 dc12 pm12 cd12 ct12 oc13 kV13 dc13 pm13 cd13 ct13 oc14 kV14 dc14 pm14 cd14 ct14 oc15 kV15 dc15 pm15 cd15 ct15 oc16 kV16 dc16 pm16 cd16 ct16 oc17 kV17 dc17 pm17 cd17 ct17 oc18 kV18 dc18 pm18 cd18 ct18 oc19 kV19 dc19 pm19 cd19 ct19 oc20 kV20 dc20 pm20 cd20 ct20 oc21 kV21 dc21 pm21 cd21 ct21 oc22 kV22 dc22 pm22 cd22 ct22 oc23 kV23 dc23 pm23 cd23 ct23 oc24 kV24 dc24 pm24 cd24 ct24 oc25 kV25 dc25 pm25 cd25 ct25 oc26 kV26 dc26 pm26 cd26 ct26 oc27 kV27 dc27 pm27 cd27 ct27 oc28 kV28 dc28 pm28 cd28 ct28 oc29 kV29 dc29 pm29 cd29 ct29 oc30 kV30 dc30 pm30 cd30 ct30 oc31 kV31 dc31 pm31 cd31 ct31 : Value}
    (a1 : PySem.W.nsIn K mainGlobals "read_tree" = some (some (.ref f1))) (l1 : K.lookup f1 = some ⟨oc1, od1, .func (PySem.W.fnOf "read_tree" "read_tree" (defArgs s_read_tree) (defBody s_read_tree) (defScope s_read_tree) .none kV1 dc1 pm1 an1 cd1 ct1), sl1⟩) (c1 : PySem.W.codeIn K cd1 "read_tree" = true) (k1 : PySem.W.keepIn K (.ref f1) = true)
    (a2 : PySem.W.nsIn K mainGlobals "first" = some (some (.ref f2))) (l2 : K.lookup f2 = some ⟨oc2, od2, .func (PySem.W.fnOf "first" "first" (defArgs s_first) (defBody s_first) (defScope s_first) .none kV2 dc2 pm2 an2 cd2 ct2), sl2⟩) (c2 : PySem.W.codeIn K cd2 "first" = true) (k2 : PySem.W.keepIn K (.ref f2) = true)
    (a3 : PySem.W.nsIn K mainGlobals "rest" = some (some (.ref f3))) (l3 : K.lookup f3 = some ⟨oc3, od3, .func (PySem.W.fnOf "rest" "rest" (defArgs s_rest) (defBody s_rest) (defScope s_rest) .none kV3 dc3 pm3 an3 cd3 ct3), sl3⟩) (c3 : PySem.W.codeIn K cd3 "rest" = true) (k3 : PySem.W.keepIn K (.ref f3) = true)
    (a4 : PySem.W.nsIn K mainGlobals "sort_of" = some (some (.ref f4))) (l4 : K.lookup f4 = some ⟨oc4, od4, .func (PySem.W.fnOf "sort_of" "sort_of" (defArgs s_sort_of) (defBody s_sort_of) (defScope s_sort_of) .none kV4 dc4 pm4 an4 cd4 ct4), sl4⟩) (c4 : PySem.W.codeIn K cd4 "sort_of" = true) (k4 : PySem.W.keepIn K (.ref f4) = true)
    (a5 : PySem.W.nsIn K mainGlobals "load_of" = some (some (.ref f5))) (l5 : K.lookup f5 = some ⟨oc5, od5, .func (PySem.W.fnOf "load_of" "load_of" (defArgs s_load_of) (defBody s_load_of) (defScope s_load_of) .none kV5 dc5 pm5 an5 cd5 ct5), sl5⟩) (c5 : PySem.W.codeIn K cd5 "load_of" = true) (k5 : PySem.W.keepIn K (.ref f5) = true)
    (a6 : PySem.W.nsIn K mainGlobals "lay" = some (some (.ref f6))) (l6 : K.lookup f6 = some ⟨oc6, od6, .func (PySem.W.fnOf "lay" "lay" (defArgs s_lay) (defBody s_lay) (defScope s_lay) .none kV6 dc6 pm6 an6 cd6 ct6), sl6⟩) (c6 : PySem.W.codeIn K cd6 "lay" = true) (k6 : PySem.W.keepIn K (.ref f6) = true)
    (a7 : PySem.W.nsIn K mainGlobals "plain" = some (some (.ref f7))) (l7 : K.lookup f7 = some ⟨oc7, od7, .func (PySem.W.fnOf "plain" "plain" (defArgs s_plain) (defBody s_plain) (defScope s_plain) .none kV7 dc7 pm7 an7 cd7 ct7), sl7⟩) (c7 : PySem.W.codeIn K cd7 "plain" = true) (k7 : PySem.W.keepIn K (.ref f7) = true)
    (a8 : PySem.W.nsIn K mainGlobals "fork" = some (some (.ref f8))) (l8 : K.lookup f8 = some ⟨oc8, od8, .func (PySem.W.fnOf "fork" "fork" (defArgs s_fork) (defBody s_fork) (defScope s_fork) .none kV8 dc8 pm8 an8 cd8 ct8), sl8⟩) (c8 : PySem.W.codeIn K cd8 "fork" = true) (k8 : PySem.W.keepIn K (.ref f8) = true)
    (a9 : PySem.W.nsIn K mainGlobals "loop" = some (some (.ref f9))) (l9 : K.lookup f9 = some ⟨oc9, od9, .func (PySem.W.fnOf "loop" "loop" (defArgs s_loop) (defBody s_loop) (defScope s_loop) .none kV9 dc9 pm9 an9 cd9 ct9), sl9⟩) (c9 : PySem.W.codeIn K cd9 "loop" = true) (k9 : PySem.W.keepIn K (.ref f9) = true)
    (a10 : PySem.W.nsIn K mainGlobals "odd" = some (some (.ref f10))) (l10 : K.lookup f10 = some ⟨oc10, od10, .func (PySem.W.fnOf "odd" "odd" (defArgs s_odd) (defBody s_odd) (defScope s_odd) .none kV10 dc10 pm10 an10 cd10 ct10), sl10⟩) (c10 : PySem.W.codeIn K cd10 "odd" = true) (k10 : PySem.W.keepIn K (.ref f10) = true)
    (a11 : PySem.W.nsIn K mainGlobals "read" = some (some (.ref f11))) (l11 : K.lookup f11 = some ⟨oc11, od11, .func (PySem.W.fnOf "read" "read" (defArgs s_read) (defBody s_read) (defScope s_read) .none kV11 dc11 pm11 an11 cd11 ct11), sl11⟩) (c11 : PySem.W.codeIn K cd11 "read" = true) (k11 : PySem.W.keepIn K (.ref f11) = true)
    (a12 : PySem.W.nsIn K mainGlobals "pieces_of" = some (some (.ref f12))) (l12 : K.lookup f12 = some ⟨oc12, od12, .func (PySem.W.fnOf "pieces_of" "pieces_of" (defArgs s_pieces_of) (defBody s_pieces_of) (defScope s_pieces_of) .none kV12 dc12 pm12 an12 cd12 ct12), sl12⟩) (c12 : PySem.W.codeIn K cd12 "pieces_of" = true) (k12 : PySem.W.keepIn K (.ref f12) = true)
    (a13 : PySem.W.nsIn K mainGlobals "word_of" = some (some (.ref f13))) (l13 : K.lookup f13 = some ⟨oc13, od13, .func (PySem.W.fnOf "word_of" "word_of" (defArgs s_word_of) (defBody s_word_of) (defScope s_word_of) .none kV13 dc13 pm13 an13 cd13 ct13), sl13⟩) (c13 : PySem.W.codeIn K cd13 "word_of" = true) (k13 : PySem.W.keepIn K (.ref f13) = true)
    (a14 : PySem.W.nsIn K mainGlobals "tree_of" = some (some (.ref f14))) (l14 : K.lookup f14 = some ⟨oc14, od14, .func (PySem.W.fnOf "tree_of" "tree_of" (defArgs s_tree_of) (defBody s_tree_of) (defScope s_tree_of) .none kV14 dc14 pm14 an14 cd14 ct14), sl14⟩) (c14 : PySem.W.codeIn K cd14 "tree_of" = true) (k14 : PySem.W.keepIn K (.ref f14) = true)
    (a15 : PySem.W.nsIn K mainGlobals "_law_at" = some (some (.ref f15))) (l15 : K.lookup f15 = some ⟨oc15, od15, .func (PySem.W.fnOf "_law_at" "_law_at" (defArgs s__law_at) (defBody s__law_at) (defScope s__law_at) .none kV15 dc15 pm15 an15 cd15 ct15), sl15⟩) (c15 : PySem.W.codeIn K cd15 "_law_at" = true) (k15 : PySem.W.keepIn K (.ref f15) = true)
    (a16 : PySem.W.nsIn K mainGlobals "_law_pick" = some (some (.ref f16))) (l16 : K.lookup f16 = some ⟨oc16, od16, .func (PySem.W.fnOf "_law_pick" "_law_pick" (defArgs s__law_pick) (defBody s__law_pick) (defScope s__law_pick) .none kV16 dc16 pm16 an16 cd16 ct16), sl16⟩) (c16 : PySem.W.codeIn K cd16 "_law_pick" = true) (k16 : PySem.W.keepIn K (.ref f16) = true)
    (a17 : PySem.W.nsIn K mainGlobals "_law_joined" = some (some (.ref f17))) (l17 : K.lookup f17 = some ⟨oc17, od17, .func (PySem.W.fnOf "_law_joined" "_law_joined" (defArgs s__law_joined) (defBody s__law_joined) (defScope s__law_joined) .none kV17 dc17 pm17 an17 cd17 ct17), sl17⟩) (c17 : PySem.W.codeIn K cd17 "_law_joined" = true) (k17 : PySem.W.keepIn K (.ref f17) = true)
    (a18 : PySem.W.nsIn K mainGlobals "_law_grown" = some (some (.ref f18))) (l18 : K.lookup f18 = some ⟨oc18, od18, .func (PySem.W.fnOf "_law_grown" "_law_grown" (defArgs s__law_grown) (defBody s__law_grown) (defScope s__law_grown) .none kV18 dc18 pm18 an18 cd18 ct18), sl18⟩) (c18 : PySem.W.codeIn K cd18 "_law_grown" = true) (k18 : PySem.W.keepIn K (.ref f18) = true)
    (a19 : PySem.W.nsIn K mainGlobals "_law_leaves" = some (some (.ref f19))) (l19 : K.lookup f19 = some ⟨oc19, od19, .func (PySem.W.fnOf "_law_leaves" "_law_leaves" (defArgs s__law_leaves) (defBody s__law_leaves) (defScope s__law_leaves) .none kV19 dc19 pm19 an19 cd19 ct19), sl19⟩) (c19 : PySem.W.codeIn K cd19 "_law_leaves" = true) (k19 : PySem.W.keepIn K (.ref f19) = true)
    (a20 : PySem.W.nsIn K mainGlobals "_law_plain" = some (some (.ref f20))) (l20 : K.lookup f20 = some ⟨oc20, od20, .func (PySem.W.fnOf "_law_plain" "_law_plain" (defArgs s__law_plain) (defBody s__law_plain) (defScope s__law_plain) .none kV20 dc20 pm20 an20 cd20 ct20), sl20⟩) (c20 : PySem.W.codeIn K cd20 "_law_plain" = true) (k20 : PySem.W.keepIn K (.ref f20) = true)
    (a21 : PySem.W.nsIn K mainGlobals "_law_odd" = some (some (.ref f21))) (l21 : K.lookup f21 = some ⟨oc21, od21, .func (PySem.W.fnOf "_law_odd" "_law_odd" (defArgs s__law_odd) (defBody s__law_odd) (defScope s__law_odd) .none kV21 dc21 pm21 an21 cd21 ct21), sl21⟩) (c21 : PySem.W.codeIn K cd21 "_law_odd" = true) (k21 : PySem.W.keepIn K (.ref f21) = true)
    (a22 : PySem.W.nsIn K mainGlobals "_law_text" = some (some (.ref f22))) (l22 : K.lookup f22 = some ⟨oc22, od22, .func (PySem.W.fnOf "_law_text" "_law_text" (defArgs s__law_text) (defBody s__law_text) (defScope s__law_text) .none kV22 dc22 pm22 an22 cd22 ct22), sl22⟩) (c22 : PySem.W.codeIn K cd22 "_law_text" = true) (k22 : PySem.W.keepIn K (.ref f22) = true)
    (a23 : PySem.W.nsIn K mainGlobals "_law_between" = some (some (.ref f23))) (l23 : K.lookup f23 = some ⟨oc23, od23, .func (PySem.W.fnOf "_law_between" "_law_between" (defArgs s__law_between) (defBody s__law_between) (defScope s__law_between) .none kV23 dc23 pm23 an23 cd23 ct23), sl23⟩) (c23 : PySem.W.codeIn K cd23 "_law_between" = true) (k23 : PySem.W.keepIn K (.ref f23) = true)
    (a24 : PySem.W.nsIn K mainGlobals "_law_word" = some (some (.ref f24))) (l24 : K.lookup f24 = some ⟨oc24, od24, .func (PySem.W.fnOf "_law_word" "_law_word" (defArgs s__law_word) (defBody s__law_word) (defScope s__law_word) .none kV24 dc24 pm24 an24 cd24 ct24), sl24⟩) (c24 : PySem.W.codeIn K cd24 "_law_word" = true) (k24 : PySem.W.keepIn K (.ref f24) = true)
    (a25 : PySem.W.nsIn K mainGlobals "_law_words" = some (some (.ref f25))) (l25 : K.lookup f25 = some ⟨oc25, od25, .func (PySem.W.fnOf "_law_words" "_law_words" (defArgs s__law_words) (defBody s__law_words) (defScope s__law_words) .none kV25 dc25 pm25 an25 cd25 ct25), sl25⟩) (c25 : PySem.W.codeIn K cd25 "_law_words" = true) (k25 : PySem.W.keepIn K (.ref f25) = true)
    (a26 : PySem.W.nsIn K mainGlobals "_law_drawn" = some (some (.ref f26))) (l26 : K.lookup f26 = some ⟨oc26, od26, .func (PySem.W.fnOf "_law_drawn" "_law_drawn" (defArgs s__law_drawn) (defBody s__law_drawn) (defScope s__law_drawn) .none kV26 dc26 pm26 an26 cd26 ct26), sl26⟩) (c26 : PySem.W.codeIn K cd26 "_law_drawn" = true) (k26 : PySem.W.keepIn K (.ref f26) = true)
    (a27 : PySem.W.nsIn K mainGlobals "_law_bad_piece" = some (some (.ref f27))) (l27 : K.lookup f27 = some ⟨oc27, od27, .func (PySem.W.fnOf "_law_bad_piece" "_law_bad_piece" (defArgs s__law_bad_piece) (defBody s__law_bad_piece) (defScope s__law_bad_piece) .none kV27 dc27 pm27 an27 cd27 ct27), sl27⟩) (c27 : PySem.W.codeIn K cd27 "_law_bad_piece" = true) (k27 : PySem.W.keepIn K (.ref f27) = true)
    (a28 : PySem.W.nsIn K mainGlobals "_law_marks" = some (some (.ref f28))) (l28 : K.lookup f28 = some ⟨oc28, od28, .func (PySem.W.fnOf "_law_marks" "_law_marks" (defArgs s__law_marks) (defBody s__law_marks) (defScope s__law_marks) .none kV28 dc28 pm28 an28 cd28 ct28), sl28⟩) (c28 : PySem.W.codeIn K cd28 "_law_marks" = true) (k28 : PySem.W.keepIn K (.ref f28) = true)
    (a29 : PySem.W.nsIn K mainGlobals "_law_spoilt" = some (some (.ref f29))) (l29 : K.lookup f29 = some ⟨oc29, od29, .func (PySem.W.fnOf "_law_spoilt" "_law_spoilt" (defArgs s__law_spoilt) (defBody s__law_spoilt) (defScope s__law_spoilt) .none kV29 dc29 pm29 an29 cd29 ct29), sl29⟩) (c29 : PySem.W.codeIn K cd29 "_law_spoilt" = true) (k29 : PySem.W.keepIn K (.ref f29) = true)
    (a30 : PySem.W.nsIn K mainGlobals "_law_refused" = some (some (.ref f30))) (l30 : K.lookup f30 = some ⟨oc30, od30, .func (PySem.W.fnOf "_law_refused" "_law_refused" (defArgs s__law_refused) (defBody s__law_refused) (defScope s__law_refused) .none kV30 dc30 pm30 an30 cd30 ct30), sl30⟩) (c30 : PySem.W.codeIn K cd30 "_law_refused" = true) (k30 : PySem.W.keepIn K (.ref f30) = true)
    (a31 : PySem.W.nsIn K mainGlobals "law" = some (some (.ref f31))) (l31 : K.lookup f31 = some ⟨oc31, od31, .func (PySem.W.fnOf "law" "law" (defArgs s_law) (defBody s_law) (defScope s_law) .none kV31 dc31 pm31 an31 cd31 ct31), sl31⟩) (c31 : PySem.W.codeIn K cd31 "law" = true) (k31 : PySem.W.keepIn K (.ref f31) = true)
    (aC : PySem.W.nsIn K mainGlobals "Reading" = some (some (.ref C)))
    (a___init__ : PySem.W.findIn K (.ref C) "__init__" = some (some (.ref f___init__)))
    (i___init__ : PySem.W.isFn K (.ref f___init__) = true)
    (l___init__ : K.lookup f___init__ = some ⟨oc___init__, od___init__, .func (PySem.W.fnOf "__init__" "Reading.__init__" (defArgs s___init__) (defBody s___init__) (defScope s___init__) .none kV___init__ dc___init__ pm___init__ an___init__ cd___init__ ct___init__), sl___init__⟩)
    (c___init__ : PySem.W.codeIn K cd___init__ "Reading.__init__" = true)
    (k___init__ : PySem.W.keepIn K (.ref f___init__) = true)
    (a_take : PySem.W.findIn K (.ref C) "take" = some (some (.ref f_take)))
    (i_take : PySem.W.isFn K (.ref f_take) = true)
    (l_take : K.lookup f_take = some ⟨oc_take, od_take, .func (PySem.W.fnOf "take" "Reading.take" (defArgs s_take) (defBody s_take) (defScope s_take) .none kV_take dc_take pm_take an_take cd_take ct_take), sl_take⟩)
    (c_take : PySem.W.codeIn K cd_take "Reading.take" = true)
    (k_take : PySem.W.keepIn K (.ref f_take) = true)
    (a_enter : PySem.W.findIn K (.ref C) "enter" = some (some (.ref f_enter)))
    (i_enter : PySem.W.isFn K (.ref f_enter) = true)
    (l_enter : K.lookup f_enter = some ⟨oc_enter, od_enter, .func (PySem.W.fnOf "enter" "Reading.enter" (defArgs s_enter) (defBody s_enter) (defScope s_enter) .none kV_enter dc_enter pm_enter an_enter cd_enter ct_enter), sl_enter⟩)
    (c_enter : PySem.W.codeIn K cd_enter "Reading.enter" = true)
    (k_enter : PySem.W.keepIn K (.ref f_enter) = true)
    (a_leave : PySem.W.findIn K (.ref C) "leave" = some (some (.ref f_leave)))
    (i_leave : PySem.W.isFn K (.ref f_leave) = true)
    (l_leave : K.lookup f_leave = some ⟨oc_leave, od_leave, .func (PySem.W.fnOf "leave" "Reading.leave" (defArgs s_leave) (defBody s_leave) (defScope s_leave) .none kV_leave dc_leave pm_leave an_leave cd_leave ct_leave), sl_leave⟩)
    (c_leave : PySem.W.codeIn K cd_leave "Reading.leave" = true)
    (k_leave : PySem.W.keepIn K (.ref f_leave) = true)
    (a_bracketed : PySem.W.findIn K (.ref C) "bracketed" = some (some (.ref f_bracketed)))
    (i_bracketed : PySem.W.isFn K (.ref f_bracketed) = true)
    (l_bracketed : K.lookup f_bracketed = some ⟨oc_bracketed, od_bracketed, .func (PySem.W.fnOf "bracketed" "Reading.bracketed" (defArgs s_bracketed) (defBody s_bracketed) (defScope s_bracketed) .none kV_bracketed dc_bracketed pm_bracketed an_bracketed cd_bracketed ct_bracketed), sl_bracketed⟩)
    (c_bracketed : PySem.W.codeIn K cd_bracketed "Reading.bracketed" = true)
    (k_bracketed : PySem.W.keepIn K (.ref f_bracketed) = true)
    (a_add_word : PySem.W.findIn K (.ref C) "add_word" = some (some (.ref f_add_word)))
    (i_add_word : PySem.W.isFn K (.ref f_add_word) = true)
    (l_add_word : K.lookup f_add_word = some ⟨oc_add_word, od_add_word, .func (PySem.W.fnOf "add_word" "Reading.add_word" (defArgs s_add_word) (defBody s_add_word) (defScope s_add_word) .none kV_add_word dc_add_word pm_add_word an_add_word cd_add_word ct_add_word), sl_add_word⟩)
    (c_add_word : PySem.W.codeIn K cd_add_word "Reading.add_word" = true)
    (k_add_word : PySem.W.keepIn K (.ref f_add_word) = true)
    (a_whole : PySem.W.findIn K (.ref C) "whole" = some (some (.ref f_whole)))
    (i_whole : PySem.W.isFn K (.ref f_whole) = true)
    (l_whole : K.lookup f_whole = some ⟨oc_whole, od_whole, .func (PySem.W.fnOf "whole" "Reading.whole" (defArgs s_whole) (defBody s_whole) (defScope s_whole) .none kV_whole dc_whole pm_whole an_whole cd_whole ct_whole), sl_whole⟩)
    (c_whole : PySem.W.codeIn K cd_whole "Reading.whole" = true)
    (k_whole : PySem.W.keepIn K (.ref f_whole) = true)
    (pg : PySem.W.plainGet K C Str.empty = true)
    (hd : PySem.W.hasDictIn K C = true)
    (po : PySem.W.plainOver K C = true)
    (sa : PySem.W.findIn K (.ref C) "__setattr__" = some (some (.builtin "object.__setattr__")))
    (mk : PySem.W.makesIn K C = true)
    (kc : PySem.W.keepIn K (.ref C) = true)
    (nR : PySem.W.findIn K (.ref C) "rows" = some none)
    (nP : PySem.W.findIn K (.ref C) "places" = some none)
    (nN : PySem.W.findIn K (.ref C) "named" = some none)
    (eS : PySem.W.nsIn K mainGlobals "SelfError" = some (some (.ref cS)))
    (eT : PySem.W.nsIn K mainGlobals "NoTree" = some (some (.ref cT)))
    (eX : PySem.W.nsIn K mainGlobals "NoText" = some (some (.ref cX)))
    (xT : PySem.W.excIn K cT [.type "ValueError", .type "Exception", .type "BaseException", .type "object"] "ValueError.__new__" = true)
    (xX : PySem.W.excIn K cX [.type "ValueError", .type "Exception", .type "BaseException", .type "object"] "ValueError.__new__" = true)
    (kpX : PySem.W.keepIn K (.ref cX) = true)
    (t1 : PySem.W.typeIn K (.ref cS) = some (.type "type"))
    (t2 : PySem.W.subIn K (.ref cS) (.type "BaseException") = some true)
    (t3 : PySem.W.clsIn K cS = some dS)
    (t1T : PySem.W.typeIn K (.ref cT) = some (.type "type"))
    (t2T : PySem.W.subIn K (.ref cT) (.type "BaseException") = some true)
    (g1T : PySem.W.clsIn K cT = some dT)
    (sTT : PySem.W.subIn K (.ref cT) (.ref cT) = some true)
    (sX : PySem.W.subIn K (.ref cX) (.ref cS) = some true)
    (g1X : PySem.W.clsIn K cX = some dX)
    (g2X : PySem.W.findIn K (.ref cX) "__getattribute__" = some (some (.builtin "BaseException.__getattribute__")))
    (g3X : PySem.W.findIn K (.ref cX) "__getattr__" = some none)
    (g4X : PySem.W.findIn K (.ref cX) "__class__" = some (some (.builtin "object.__class__")))
    (g5X : PySem.W.mroIn K cX (.type "object") = some true)
    (g6X : PySem.W.subIn K (.ref cX) (.type "BaseException") = some true)
    (iXT : PySem.W.kitOne K (.ref cX) (.ref cT) = some false)
    (iXX : PySem.W.kitOne K (.ref cX) (.ref cX) = some true)
    (iXV : PySem.W.kitOne K (.ref cX) (.type "ValueError") = some true)
    (e_NAMES : PySem.W.nsIn K mainGlobals "NAMES" = some (some (.ref a_NAMES)))
    (l_NAMES : K.lookup a_NAMES = some o_NAMES)
    (y_NAMES : TupO o_NAMES [.str (PySem.Str.ofString "lay"), .str (PySem.Str.ofString "drop"), .str (PySem.Str.ofString "twin"), .str (PySem.Str.ofString "swap"), .str (PySem.Str.ofString "front"), .str (PySem.Str.ofString "part"), .str (PySem.Str.ofString "turn"), .str (PySem.Str.ofString "fork"), .str (PySem.Str.ofString "while")])
    (e_DROP : PySem.W.nsIn K mainGlobals "DROP" = some (some u_DROP))
    (r_DROP : RelV (.int 1) u_DROP)
    (e_TURN : PySem.W.nsIn K mainGlobals "TURN" = some (some u_TURN))
    (r_TURN : RelV (.int 6) u_TURN)
    (e_NAMELESS : PySem.W.nsIn K mainGlobals "NAMELESS" = some (some u_NAMELESS))
    (r_NAMELESS : RelV (.int 9) u_NAMELESS)
    (e_FORK : PySem.W.nsIn K mainGlobals "FORK" = some (some u_FORK))
    (r_FORK : RelV (.int 7) u_FORK)
    (e_WHILE : PySem.W.nsIn K mainGlobals "WHILE" = some (some u_WHILE))
    (r_WHILE : RelV (.int 8) u_WHILE)
    (e_LAY : PySem.W.nsIn K mainGlobals "LAY" = some (some u_LAY))
    (r_LAY : RelV (.int 0) u_LAY)
    (u_N : o_NAMES.cls = .type "tuple" ∧ o_NAMES.dict = none)
    (z_isinstance : PySem.W.nsIn K mainGlobals "isinstance" = some none) (z_str : PySem.W.nsIn K mainGlobals "str" = some none) (z_len : PySem.W.nsIn K mainGlobals "len" = some none) (z_tuple : PySem.W.nsIn K mainGlobals "tuple" = some none) (z_min : PySem.W.nsIn K mainGlobals "min" = some none) (z_any : PySem.W.nsIn K mainGlobals "any" = some none) (z_sum : PySem.W.nsIn K mainGlobals "sum" = some none) (z_range : PySem.W.nsIn K mainGlobals "range" = some none) (z_enumerate : PySem.W.nsIn K mainGlobals "enumerate" = some none) (z_int : PySem.W.nsIn K mainGlobals "int" = some none) (z_ValueError : PySem.W.nsIn K mainGlobals "ValueError" = some none) :
    ∃ fd : FuncData, (∀ (s : Shared) (v : Value), BindsTo s fd ⟨[v], []⟩ [("_law_script", v)]) ∧ ∀ base : Heap, K.In base → base.Ns mainGlobals mg → FnOk l.prog w K mg base CX0 60 fa fd ["_law_script"] (spLaw K) := by
  have e := hfa.symm.trans (PySem.W.mg_of X G a31)
  cases e
  have F1 := fun_mk (st := s_read_tree) l1 c1 k1
  have F2 := fun_mk (st := s_first) l2 c2 k2
  have F3 := fun_mk (st := s_rest) l3 c3 k3
  have F4 := fun_mk (st := s_sort_of) l4 c4 k4
  have F5 := fun_mk (st := s_load_of) l5 c5 k5
  have F6 := fun_mk (st := s_lay) l6 c6 k6
  have F7 := fun_mk (st := s_plain) l7 c7 k7
  have F8 := fun_mk (st := s_fork) l8 c8 k8
  have F9 := fun_mk (st := s_loop) l9 c9 k9
  have F10 := fun_mk (st := s_odd) l10 c10 k10
  have F11 := fun_mk (st := s_read) l11 c11 k11
  have F12 := fun_mk (st := s_pieces_of) l12 c12 k12
  have F13 := fun_mk (st := s_word_of) l13 c13 k13
  have F14 := fun_mk (st := s_tree_of) l14 c14 k14
  have F15 := fun_mk (st := s__law_at) l15 c15 k15
  have F16 := fun_mk (st := s__law_pick) l16 c16 k16
  have F17 := fun_mk (st := s__law_joined) l17 c17 k17
  have F18 := fun_mk (st := s__law_grown) l18 c18 k18
  have F19 := fun_mk (st := s__law_leaves) l19 c19 k19
  have F20 := fun_mk (st := s__law_plain) l20 c20 k20
  have F21 := fun_mk (st := s__law_odd) l21 c21 k21
  have F22 := fun_mk (st := s__law_text) l22 c22 k22
  have F23 := fun_mk (st := s__law_between) l23 c23 k23
  have F24 := fun_mk (st := s__law_word) l24 c24 k24
  have F25 := fun_mk (st := s__law_words) l25 c25 k25
  have F26 := fun_mk (st := s__law_drawn) l26 c26 k26
  have F27 := fun_mk (st := s__law_bad_piece) l27 c27 k27
  have F28 := fun_mk (st := s__law_marks) l28 c28 k28
  have F29 := fun_mk (st := s__law_spoilt) l29 c29 k29
  have F30 := fun_mk (st := s__law_refused) l30 c30 k30
  have F31 := fun_mk (st := s_law) l31 c31 k31
  have b1 := F1.binds (ps := ["text"]) fun _ _ _ _ _ _ us hl => match us, hl with | [_], _ => rfl
  have m1 := PySem.W.mg_of X G a1
  have b2 := F2.binds (ps := ["tree"]) fun _ _ _ _ _ _ us hl => match us, hl with | [_], _ => rfl
  have m2 := PySem.W.mg_of X G a2
  have b3 := F3.binds (ps := ["tree"]) fun _ _ _ _ _ _ us hl => match us, hl with | [_], _ => rfl
  have m3 := PySem.W.mg_of X G a3
  have b4 := F4.binds (ps := ["word"]) fun _ _ _ _ _ _ us hl => match us, hl with | [_], _ => rfl
  have m4 := PySem.W.mg_of X G a4
  have b5 := F5.binds (ps := ["word"]) fun _ _ _ _ _ _ us hl => match us, hl with | [_], _ => rfl
  have m5 := PySem.W.mg_of X G a5
  have b6 := F6.binds (ps := ["tree"]) fun _ _ _ _ _ _ us hl => match us, hl with | [_], _ => rfl
  have m6 := PySem.W.mg_of X G a6
  have b7 := F7.binds (ps := ["sort"]) fun _ _ _ _ _ _ us hl => match us, hl with | [_], _ => rfl
  have m7 := PySem.W.mg_of X G a7
  have b8 := F8.binds (ps := ["yes", "no"]) fun _ _ _ _ _ _ us hl => match us, hl with | [_, _], _ => rfl
  have m8 := PySem.W.mg_of X G a8
  have b9 := F9.binds (ps := ["body"]) fun _ _ _ _ _ _ us hl => match us, hl with | [_], _ => rfl
  have m9 := PySem.W.mg_of X G a9
  have b10 := F10.binds (ps := ["word"]) fun _ _ _ _ _ _ us hl => match us, hl with | [_], _ => rfl
  have m10 := PySem.W.mg_of X G a10
  have b11 := F11.binds (ps := ["signs"]) fun _ _ _ _ _ _ us hl => match us, hl with | [_], _ => rfl
  have m11 := PySem.W.mg_of X G a11
  have b12 := F12.binds (ps := ["signs"]) fun _ _ _ _ _ _ us hl => match us, hl with | [_], _ => rfl
  have m12 := PySem.W.mg_of X G a12
  have b13 := F13.binds (ps := ["piece"]) fun _ _ _ _ _ _ us hl => match us, hl with | [_], _ => rfl
  have m13 := PySem.W.mg_of X G a13
  have b14 := F14.binds (ps := ["signs"]) fun _ _ _ _ _ _ us hl => match us, hl with | [_], _ => rfl
  have m14 := PySem.W.mg_of X G a14
  have b15 := F15.binds (ps := ["_law_script", "_law_k"]) fun _ _ _ _ _ _ us hl => match us, hl with | [_, _], _ => rfl
  have m15 := PySem.W.mg_of X G a15
  have b16 := F16.binds (ps := ["_law_cell", "_law_turn", "_law_many"]) fun _ _ _ _ _ _ us hl => match us, hl with | [_, _, _], _ => rfl
  have m16 := PySem.W.mg_of X G a16
  have b17 := F17.binds (ps := ["_law_kids"]) fun _ _ _ _ _ _ us hl => match us, hl with | [_], _ => rfl
  have m17 := PySem.W.mg_of X G a17
  have b18 := F18.binds (ps := ["_law_cells"]) fun _ _ _ _ _ _ us hl => match us, hl with | [_], _ => rfl
  have m18 := PySem.W.mg_of X G a18
  have b19 := F19.binds (ps := ["_law_many"]) fun _ _ _ _ _ _ us hl => match us, hl with | [_], _ => rfl
  have m19 := PySem.W.mg_of X G a19
  have b20 := F20.binds (ps := ["_law_cell"]) fun _ _ _ _ _ _ us hl => match us, hl with | [_], _ => rfl
  have m20 := PySem.W.mg_of X G a20
  have b21 := F21.binds (ps := ["_law_cell", "_law_trees"]) fun _ _ _ _ _ _ us hl => match us, hl with | [_, _], _ => rfl
  have m21 := PySem.W.mg_of X G a21
  have b22 := F22.binds (ps := ["_law_words_here"]) fun _ _ _ _ _ _ us hl => match us, hl with | [_], _ => rfl
  have m22 := PySem.W.mg_of X G a22
  have b23 := F23.binds (ps := ["_law_some"]) fun _ _ _ _ _ _ us hl => match us, hl with | [_], _ => rfl
  have m23 := PySem.W.mg_of X G a23
  have b24 := F24.binds (ps := ["_law_cell", "_law_way", "_law_trees", "_law_held"]) fun _ _ _ _ _ _ us hl => match us, hl with | [_, _, _, _], _ => rfl
  have m24 := PySem.W.mg_of X G a24
  have b25 := F25.binds (ps := ["_law_cells", "_law_trees"]) fun _ _ _ _ _ _ us hl => match us, hl with | [_, _], _ => rfl
  have m25 := PySem.W.mg_of X G a25
  have b26 := F26.binds (ps := ["_law_script", "_law_start"]) fun _ _ _ _ _ _ us hl => match us, hl with | [_, _], _ => rfl
  have m26 := PySem.W.mg_of X G a26
  have b27 := F27.binds (ps := ["_law_cell", "_law_trees"]) fun _ _ _ _ _ _ us hl => match us, hl with | [_, _], _ => rfl
  have m27 := PySem.W.mg_of X G a27
  have b28 := F28.binds (ps := ["_law_row"]) fun _ _ _ _ _ _ us hl => match us, hl with | [_], _ => rfl
  have m28 := PySem.W.mg_of X G a28
  have b29 := F29.binds (ps := ["_law_cell", "_law_row", "_law_trees"]) fun _ _ _ _ _ _ us hl => match us, hl with | [_, _, _], _ => rfl
  have m29 := PySem.W.mg_of X G a29
  have b30 := F30.binds (ps := ["_law_thing"]) fun _ _ _ _ _ _ us hl => match us, hl with | [_], _ => rfl
  have m30 := PySem.W.mg_of X G a30
  have m_isinstance := PySem.W.mg_none_of X G z_isinstance
  have m_str := PySem.W.mg_none_of X G z_str
  have m_len := PySem.W.mg_none_of X G z_len
  have m_tuple := PySem.W.mg_none_of X G z_tuple
  have m_min := PySem.W.mg_none_of X G z_min
  have m_any := PySem.W.mg_none_of X G z_any
  have m_sum := PySem.W.mg_none_of X G z_sum
  have m_range := PySem.W.mg_none_of X G z_range
  have m_enumerate := PySem.W.mg_none_of X G z_enumerate
  have m_int := PySem.W.mg_none_of X G z_int
  have m_ValueError := PySem.W.mg_none_of X G z_ValueError
  have F___init__ := fun_mk (st := s___init__) l___init__ c___init__ k___init__
  have b___init__ := F___init__.binds (ps := ["self"]) fun _ _ _ _ _ _ us hl => match us, hl with | [_], _ => rfl
  have F_take := fun_mk (st := s_take) l_take c_take k_take
  have b_take := F_take.binds (ps := ["self", "piece"]) fun _ _ _ _ _ _ us hl => match us, hl with | [_, _], _ => rfl
  have M_take : Meth K C "take" f_take := ⟨a_take, i_take, k_take⟩
  have F_enter := fun_mk (st := s_enter) l_enter c_enter k_enter
  have b_enter := F_enter.binds (ps := ["self", "place"]) fun _ _ _ _ _ _ us hl => match us, hl with | [_, _], _ => rfl
  have M_enter : Meth K C "enter" f_enter := ⟨a_enter, i_enter, k_enter⟩
  have F_leave := fun_mk (st := s_leave) l_leave c_leave k_leave
  have b_leave := F_leave.binds (ps := ["self"]) fun _ _ _ _ _ _ us hl => match us, hl with | [_], _ => rfl
  have M_leave : Meth K C "leave" f_leave := ⟨a_leave, i_leave, k_leave⟩
  have F_bracketed := fun_mk (st := s_bracketed) l_bracketed c_bracketed k_bracketed
  have b_bracketed := F_bracketed.binds (ps := ["self"]) fun _ _ _ _ _ _ us hl => match us, hl with | [_], _ => rfl
  have M_bracketed : Meth K C "bracketed" f_bracketed := ⟨a_bracketed, i_bracketed, k_bracketed⟩
  have F_add_word := fun_mk (st := s_add_word) l_add_word c_add_word k_add_word
  have b_add_word := F_add_word.binds (ps := ["self", "word"]) fun _ _ _ _ _ _ us hl => match us, hl with | [_, _], _ => rfl
  have M_add_word : Meth K C "add_word" f_add_word := ⟨a_add_word, i_add_word, k_add_word⟩
  have F_whole := fun_mk (st := s_whole) l_whole c_whole k_whole
  have b_whole := F_whole.binds (ps := ["self"]) fun _ _ _ _ _ _ us hl => match us, hl with | [_], _ => rfl
  have M_whole : Meth K C "whole" f_whole := ⟨a_whole, i_whole, k_whole⟩
  have cC : Cls K C := ⟨pg, hd, po, sa⟩
  have MK : Mk K C f___init__ := ⟨mk, a___init__, i___init__, kc⟩
  have m_Reading := PySem.W.mg_of X G aC
  have mS := PySem.W.mg_of X G eS
  have mT := PySem.W.mg_of X G eT
  have mX := PySem.W.mg_of X G eX
  have Z : Xs K mg cS cT cX := ⟨mS, mT, mX, t1, t2, ⟨_, t3⟩, sX, ⟨⟨_, g1X⟩, g2X, g3X, g4X, g5X, g6X⟩, iXT, iXX, iXV⟩
  have m_NAMES := PySem.W.mg_of X G e_NAMES
  have q_NAMES := fun H => y_NAMES.sq (H := H) l_NAMES
  have m_DROP := PySem.W.mg_of X G e_DROP
  have m_TURN := PySem.W.mg_of X G e_TURN
  have m_NAMELESS := PySem.W.mg_of X G e_NAMELESS
  have m_FORK := PySem.W.mg_of X G e_FORK
  have m_WHILE := PySem.W.mg_of X G e_WHILE
  have m_LAY := PySem.W.mg_of X G e_LAY
  refine ⟨PySem.W.fnOf "law" "law" (defArgs s_law) (defBody s_law) (defScope s_law) .none kV31 dc31 pm31 an31 cd31 ct31, fun s v => .of_eq rfl, fun base _ _ => ?_⟩
  have O1 := ok_read_tree (P := l.prog) (w := w) (mg := mg) (base := base) m_isinstance m_str m_len m_tuple xT mT F1
  have O2 := ok_first (P := l.prog) (w := w) (mg := mg) (base := base) F2
  have O3 := ok_rest (P := l.prog) (w := w) (mg := mg) (base := base) F3
  have O6 := ok_lay (P := l.prog) (w := w) (mg := mg) (base := base) F6
  have O7 := ok_plain (P := l.prog) (w := w) (mg := mg) (base := base) F7
  have O8 := ok_fork (P := l.prog) (w := w) (mg := mg) (base := base) m_FORK r_FORK F8
  have O9 := ok_loop (P := l.prog) (w := w) (mg := mg) (base := base) m_WHILE r_WHILE F9
  have O12 := ok_pieces_of (P := l.prog) (w := w) (mg := mg) (base := base) F12
  have O15 := ok__law_at (P := l.prog) (w := w) (mg := mg) (base := base) m_len m_sum F15
  have O16 := ok__law_pick (P := l.prog) (w := w) (mg := mg) (base := base) F16
  have O17 := ok_joined (P := l.prog) (w := w) (mg := mg) (base := base) m_tuple F17
  have O19 := ok__law_leaves (P := l.prog) (w := w) (mg := mg) (base := base) m_tuple m_range F19
  have O22 := ok__law_text (P := l.prog) (w := w) (mg := mg) (base := base) m_tuple F22
  have O23 := ok__law_between (P := l.prog) (w := w) (mg := mg) (base := base) F23
  have O___init__ := ok___init__ (P := l.prog) (w := w) (mg := mg) (base := base) cC nR nP nN F___init__
  have O_enter := ok_enter (P := l.prog) (w := w) (mg := mg) (base := base) cC nR nP nN F_enter
  have O_leave := ok_leave (P := l.prog) (w := w) (mg := mg) (base := base) cC nR nP nN m_tuple F_leave
  have O_add_word := ok_add_word (P := l.prog) (w := w) (mg := mg) (base := base) cC nR nP nN F_add_word
  have O_whole := ok_whole (P := l.prog) (w := w) (mg := mg) (base := base) cC nR nP nN xX mX m_len m_tuple F_whole
  have O4 := ok_sort_of (P := l.prog) (w := w) (mg := mg) (base := base) m_min m_len m_NAMELESS r_NAMELESS F2 (O2.mono (by decide)) b2 m2 F4
  have O5 := ok_load_of (P := l.prog) (w := w) (mg := mg) (base := base) F3 (O3.mono (by decide)) b3 m3 F5
  have O18 := ok_grown (P := l.prog) (w := w) (mg := mg) (base := base) m_min m_len F16 (O16.mono (by decide)) b16 m16 F17 (O17.mono (by decide)) b17 m17 F18
  have O20 := ok__law_plain (P := l.prog) (w := w) (mg := mg) (base := base) F16 (O16.mono (by decide)) b16 m16 F19 (O19.mono (by decide)) b19 m19 F20
  have O28 := ok__law_marks (P := l.prog) (w := w) (mg := mg) (base := base) m_range m_len F28
  have O10 := ok_odd (P := l.prog) (w := w) (mg := mg) (base := base) m_any m_WHILE r_WHILE m_LAY r_LAY m_FORK r_FORK m_NAMELESS r_NAMELESS F2 (O2.mono (by decide)) b2 m2 F4 (O4.mono (by decide)) b4 m4 F5 (O5.mono (by decide)) b5 m5 F10
  have O14 := ok_tree_of (P := l.prog) (w := w) (mg := mg) (base := base) mT t1T t2T ⟨_, g1T⟩ sTT kpX xX mX F1 (O1.mono (by decide)) b1 m1 F14
  have O21 := ok__law_odd (P := l.prog) (w := w) (mg := mg) (base := base) m_len F16 (O16.mono (by decide)) b16 m16 F19 (O19.mono (by decide)) b19 m19 F17 (O17.mono (by decide)) b17 m17 F21
  have O27 := ok__law_bad_piece (P := l.prog) (w := w) (mg := mg) (base := base) m_len F16 (O16.mono (by decide)) b16 m16 F19 (O19.mono (by decide)) b19 m19 F27
  have O_bracketed := ok_bracketed (P := l.prog) (w := w) (mg := mg) (base := base) cC nR nP nN xX mX F9 (O9.mono (by decide)) b9 m9 F8 (O8.mono (by decide)) b8 m8 M_leave (O_leave.mono (by decide)) b_leave F_bracketed
  have O24 := ok__law_word (P := l.prog) (w := w) (mg := mg) (base := base) m_len F20 (O20.mono (by decide)) b20 m20 F16 (O16.mono (by decide)) b16 m16 F21 (O21.mono (by decide)) b21 m21 F22 (O22.mono (by decide)) b22 m22 F23 (O23.mono (by decide)) b23 m23 F19 (O19.mono (by decide)) b19 m19 F24
  have O25 := ok__law_words (P := l.prog) (w := w) (mg := mg) (base := base) m_enumerate m_min m_len F16 (O16.mono (by decide)) b16 m16 F24 (O24.mono (by decide)) b24 m24 F25
  have O29 := ok__law_spoilt (P := l.prog) (w := w) (mg := mg) (base := base) m_len m_int F16 (O16.mono (by decide)) b16 m16 F28 (O28.mono (by decide)) b28 m28 F27 (O27.mono (by decide)) b27 m27 F29
  have O13 := ok_word_of (P := l.prog) (w := w) (mg := mg) (base := base) xX mX m_NAMES q_NAMES m_DROP r_DROP m_TURN r_TURN F7 (O7.mono (by decide)) b7 m7 F6 (O6.mono (by decide)) b6 m6 F14 (O14.mono (by decide)) b14 m14 F10 (O10.mono (by decide)) b10 m10 ⟨_, l_NAMES, u_N⟩ F13
  have O26 := ok__law_drawn (P := l.prog) (w := w) (mg := mg) (base := base) m_range F15 (O15.mono (by decide)) b15 m15 F16 (O16.mono (by decide)) b16 m16 F18 (O18.mono (by decide)) b18 m18 F25 (O25.mono (by decide)) b25 m25 F26
  have O_take := ok_take (P := l.prog) (w := w) (mg := mg) (base := base) cC nR nP nN xX mX m_NAMES q_NAMES m_FORK r_FORK m_WHILE r_WHILE F13 (O13.mono (by decide)) b13 m13 M_enter (O_enter.mono (by decide)) b_enter M_add_word (O_add_word.mono (by decide)) b_add_word M_bracketed (O_bracketed.mono (by decide)) b_bracketed F_take
  have O11 := ok_read (P := l.prog) (w := w) (mg := mg) (base := base) cC nR nP nN xX mX m_isinstance m_str F12 (O12.mono (by decide)) b12 m12 MK (O___init__.mono (by decide)) b___init__ m_Reading M_take (O_take.mono (by decide)) b_take M_whole (O_whole.mono (by decide)) b_whole F11
  have O30 := ok__law_refused (P := l.prog) (w := w) (mg := mg) (base := base) m_isinstance m_ValueError Z F11 (O11.mono (by decide)) b11 m11 F30
  exact ok_law (P := l.prog) (w := w) (mg := mg) (base := base) m_range F26 (O26.mono (by decide)) b26 m26 F20 (O20.mono (by decide)) b20 m20 F15 (O15.mono (by decide)) b15 m15 F22 (O22.mono (by decide)) b22 m22 F18 (O18.mono (by decide)) b18 m18 F29 (O29.mono (by decide)) b29 m29 F11 (O11.mono (by decide)) b11 m11 F30 (O30.mono (by decide)) b30 m30 F31
theorem walk {l : PySem.W.OpenLaw} {q : Program} {loose : List Str} {XP : (Str → Option Value) → Heap → Prop} {YP : World → Heap → Prop} {d : DefRec} {K : Params → PySem.W.Frag} (hn : l.most = some 63) (hdf : d.params.defaults = [])
    (hY : ∀ (w : World) (h : Heap), YP w h → (K w.params).In h)
    (F : ∀ (w : World) (mg : Str → Option Value) (fa : Addr) (h : Heap), (K w.params).In h → h.Ns mainGlobals mg → mg d.name = some (.ref fa) →
      ∃ fd : FuncData, (∀ (s : Shared) (u : Value), BindsTo s fd ⟨[u], []⟩ [("_law_script", u)]) ∧ ∀ base : Heap, (K w.params).In base → base.Ns mainGlobals mg → FnOk l.prog w (K w.params) mg base CX0 60 fa fd ["_law_script"] (spLaw (K w.params))) :
    PySem.W.WalkO q loose XP YP l.row.toRowW d [] (fun f vs => PySem.call f vs) :=
  L2.walk_of (n := 63) (k := 60) (x := "_law_script") (CX := fun _ => CX0) (sp := fun w => spLaw (K w.params)) hn (by decide) hdf ⟨rfl, by decide, by decide⟩ hY F (fun _ _ a ns hl _ hS => ⟨a, ns, rfl, hS, hl, fun _ => rfl⟩) fun _ _ _ _ _ z => z
theorem walkX_of {q : Program} {loose : List Str} {XP : (Str → Option Value) → Heap → Prop} {K : Params → PySem.W.Frag} {n t : Nat} {ad : List Addr} {r : PySem.W.RowW} {d : DefRec} {kwd : List (Str × Expr)} {run : Value → List Value → Sem Value}
    (h : PySem.W.WalkO q loose XP (fun w hp => (K w.params).In hp) r d kwd run)
    (hI : ∀ (w : World) (s₀ s₁ : Shared) (args : List PySem.W.WData) (vals : List Value) (as : List Addr), PySem.W.X.obsZ ad s₀ = PySem.W.X.valZ K n t w → PySem.W.Laid r.records w s₀ s₁ args vals as → (K w.params).In s₁.heap) :
    PySem.W.WalkX q loose XP (PySem.W.X.obsZ ad) (PySem.W.X.valZ K n t) r d kwd run :=
  fun w s₀ s₁ mg mb G y a o pm cd doc dV kV ho hd hcd hD hmg hg args vals as L hpre hlay hrd hwl hlo => h w s₀ s₁ mg mb G (hI w s₀ s₁ args vals as y L) a o pm cd doc dV kV ho hd hcd hD hmg hg args vals as hpre hlay hrd hwl hlo
end Sw24
def PySem.W.Fast.tw9960159046309561944 : Nat := 0
def PySem.W.Fast.tw903607122871345910 : Nat := 0
def PySem.W.Fast.tw2106429174259457234 : Nat := 0
def PySem.W.Fast.tw3853799457625425441 : Nat := 0
def PySem.W.Fast.tw11172795992476502015 : Nat := 0
def PySem.W.Fast.tw7016469195769504938 : Nat := 0
def PySem.W.Fast.tw11348268235080797424 : Nat := 0
def PySem.W.Fast.tw1120569005742104658 : Nat := 0
def PySem.W.Fast.tw11334790309975196122 : Nat := 0
def PySem.W.Fast.tw10067071982097897692 : Nat := 0
def PySem.W.Fast.tw11714663421655951993 : Nat := 0
def PySem.W.Fast.tw5808055199932657797 : Nat := 0
def PySem.W.Fast.tw1563883035413918395 : Nat := 0
def PySem.W.Fast.tw17471471696198196778 : Nat := 0
def PySem.W.Fast.tw12804763547551681585 : Nat := 0
def PySem.W.Fast.tw13043571871578420393 : Nat := 0
def PySem.W.Fast.tw3378197252940804044 : Nat := 0
def PySem.W.Fast.tw17164538052275696204 : Nat := 0
def PySem.W.Fast.tw17787107079648661270 : Nat := 0
def PySem.W.Fast.tw9778168450625797293 : Nat := 0
def PySem.W.Fast.tw14848681870362281797 : Nat := 0
def PySem.W.Fast.tw11028695180379612138 : Nat := 0
def PySem.W.Fast.tw6077798627450399235 : Nat := 0
def PySem.W.Fast.tw4394677365915338043 : Nat := 0
def PySem.W.Fast.tw2178088825904169371 : Nat := 0
def PySem.W.Fast.tw10631556682095208167 : Nat := 0
def PySem.W.Fast.tw16010949981743953390 : Nat := 0
def PySem.W.Fast.tw12772272649819578564 : Nat := 0
def PySem.W.Fast.tw2362153301334814322 : Nat := 0
open PySem PySem.W PyProof.Rows
set_option maxRecDepth 100000 in
set_option maxHeartbeats 0 in
theorem PySem.Challenge.cw_selfword_k24_texts_spoilt_holds : PySem.Challenge.rw_selfword_k24_texts_spoilt.Holds := by
  w_on; o_law; z_head; (case hw => w_witness2)
  k_fill
  refine Sw24.walkX_of (Sw24.walk (l := PySem.Challenge.rw_selfword_k24_texts_spoilt) rfl rfl (fun w h Y => Y) ?F) ?I
  case I =>
    intro w s₀ s₁ args vals as y L
    z_open y L KX ZH ZN ZT
    exact KX
  case F =>
    intro w mg fa h KX G hmg
    refine' Sw24.all_mk KX G hmg ?a1 ?l1 ?c1 ?k1 ?a2 ?l2 ?c2 ?k2 ?a3 ?l3 ?c3 ?k3 ?a4 ?l4 ?c4 ?k4 ?a5 ?l5 ?c5 ?k5 ?a6 ?l6 ?c6 ?k6 ?a7 ?l7 ?c7 ?k7 ?a8 ?l8 ?c8 ?k8 ?a9 ?l9 ?c9 ?k9 ?a10 ?l10 ?c10 ?k10 ?a11 ?l11 ?c11 ?k11 ?a12 ?l12 ?c12 ?k12 ?a13 ?l13 ?c13 ?k13 ?a14 ?l14 ?c14 ?k14 ?a15 ?l15 ?c15 ?k15 ?a16 ?l16 ?c16 ?k16 ?a17 ?l17 ?c17 ?k17 ?a18 ?l18 ?c18 ?k18 ?a19 ?l19 ?c19 ?k19 ?a20 ?l20 ?c20 ?k20 ?a21 ?l21 ?c21 ?k21 ?a22 ?l22 ?c22 ?k22 ?a23 ?l23 ?c23 ?k23 ?a24 ?l24 ?c24 ?k24 ?a25 ?l25 ?c25 ?k25 ?a26 ?l26 ?c26 ?k26 ?a27 ?l27 ?c27 ?k27 ?a28 ?l28 ?c28 ?k28 ?a29 ?l29 ?c29 ?k29 ?a30 ?l30 ?c30 ?k30 ?a31 ?l31 ?c31 ?k31 ?aC ?a___init__ ?i___init__ ?l___init__ ?c___init__ ?k___init__ ?a_take ?i_take ?l_take ?c_take ?k_take ?a_enter ?i_enter ?l_enter ?c_enter ?k_enter ?a_leave ?i_leave ?l_leave ?c_leave ?k_leave ?a_bracketed ?i_bracketed ?l_bracketed ?c_bracketed ?k_bracketed ?a_add_word ?i_add_word ?l_add_word ?c_add_word ?k_add_word ?a_whole ?i_whole ?l_whole ?c_whole ?k_whole ?pg ?hd ?po ?sa ?mk ?kc ?nR ?nP ?nN ?eS ?eT ?eX ?xT ?xX ?kpX ?t1 ?t2 ?t3 ?t1T ?t2T ?g1T ?sTT ?sX ?g1X ?g2X ?g3X ?g4X ?g5X ?g6X ?iXT ?iXX ?iXV ?e_NAMES ?l_NAMES ?y_NAMES ?e_DROP ?r_DROP ?e_TURN ?r_TURN ?e_NAMELESS ?r_NAMELESS ?e_FORK ?r_FORK ?e_WHILE ?r_WHILE ?e_LAY ?r_LAY ?u_N ?z_isinstance ?z_str ?z_len ?z_tuple ?z_min ?z_any ?z_sum ?z_range ?z_enumerate ?z_int ?z_ValueError
    (case a1 => k_is); (case l1 => k_is); (case c1 => k_is); (case k1 => k_is)
    (case a2 => k_is); (case l2 => k_is); (case c2 => k_is); (case k2 => k_is)
    (case a3 => k_is); (case l3 => k_is); (case c3 => k_is); (case k3 => k_is)
    (case a4 => k_is); (case l4 => k_is); (case c4 => k_is); (case k4 => k_is)
    (case a5 => k_is); (case l5 => k_is); (case c5 => k_is); (case k5 => k_is)
    (case a6 => k_is); (case l6 => k_is); (case c6 => k_is); (case k6 => k_is)
    (case a7 => k_is); (case l7 => k_is); (case c7 => k_is); (case k7 => k_is)
    (case a8 => k_is); (case l8 => k_is); (case c8 => k_is); (case k8 => k_is)
    (case a9 => k_is); (case l9 => k_is); (case c9 => k_is); (case k9 => k_is)
    (case a10 => k_is); (case l10 => k_is); (case c10 => k_is); (case k10 => k_is)
    (case a11 => k_is); (case l11 => k_is); (case c11 => k_is); (case k11 => k_is)
    (case a12 => k_is); (case l12 => k_is); (case c12 => k_is); (case k12 => k_is)
    (case a13 => k_is); (case l13 => k_is); (case c13 => k_is); (case k13 => k_is)
    (case a14 => k_is); (case l14 => k_is); (case c14 => k_is); (case k14 => k_is)
    (case a15 => k_is); (case l15 => k_is); (case c15 => k_is); (case k15 => k_is)
    (case a16 => k_is); (case l16 => k_is); (case c16 => k_is); (case k16 => k_is)
    (case a17 => k_is); (case l17 => k_is); (case c17 => k_is); (case k17 => k_is)
    (case a18 => k_is); (case l18 => k_is); (case c18 => k_is); (case k18 => k_is)
    (case a19 => k_is); (case l19 => k_is); (case c19 => k_is); (case k19 => k_is)
    (case a20 => k_is); (case l20 => k_is); (case c20 => k_is); (case k20 => k_is)
    (case a21 => k_is); (case l21 => k_is); (case c21 => k_is); (case k21 => k_is)
    (case a22 => k_is); (case l22 => k_is); (case c22 => k_is); (case k22 => k_is)
    (case a23 => k_is); (case l23 => k_is); (case c23 => k_is); (case k23 => k_is)
    (case a24 => k_is); (case l24 => k_is); (case c24 => k_is); (case k24 => k_is)
    (case a25 => k_is); (case l25 => k_is); (case c25 => k_is); (case k25 => k_is)
    (case a26 => k_is); (case l26 => k_is); (case c26 => k_is); (case k26 => k_is)
    (case a27 => k_is); (case l27 => k_is); (case c27 => k_is); (case k27 => k_is)
    (case a28 => k_is); (case l28 => k_is); (case c28 => k_is); (case k28 => k_is)
    (case a29 => k_is); (case l29 => k_is); (case c29 => k_is); (case k29 => k_is)
    (case a30 => k_is); (case l30 => k_is); (case c30 => k_is); (case k30 => k_is)
    (case a31 => k_is); (case l31 => k_is); (case c31 => k_is); (case k31 => k_is)
    (case aC => k_is)
    (case a___init__ => k_is)
    (case i___init__ => k_is)
    (case l___init__ => k_is)
    (case c___init__ => k_is)
    (case k___init__ => k_is)
    (case a_take => k_is)
    (case i_take => k_is)
    (case l_take => k_is)
    (case c_take => k_is)
    (case k_take => k_is)
    (case a_enter => k_is)
    (case i_enter => k_is)
    (case l_enter => k_is)
    (case c_enter => k_is)
    (case k_enter => k_is)
    (case a_leave => k_is)
    (case i_leave => k_is)
    (case l_leave => k_is)
    (case c_leave => k_is)
    (case k_leave => k_is)
    (case a_bracketed => k_is)
    (case i_bracketed => k_is)
    (case l_bracketed => k_is)
    (case c_bracketed => k_is)
    (case k_bracketed => k_is)
    (case a_add_word => k_is)
    (case i_add_word => k_is)
    (case l_add_word => k_is)
    (case c_add_word => k_is)
    (case k_add_word => k_is)
    (case a_whole => k_is)
    (case i_whole => k_is)
    (case l_whole => k_is)
    (case c_whole => k_is)
    (case k_whole => k_is)
    (case pg => k_is)
    (case hd => k_is)
    (case po => k_is)
    (case sa => k_is)
    (case mk => k_is)
    (case kc => k_is)
    (case nR => k_is)
    (case nP => k_is)
    (case nN => k_is)
    (case eS => k_is)
    (case eT => k_is)
    (case eX => k_is)
    (case xT => k_exc)
    (case xX => k_exc)
    (case kpX => k_is)
    (case t1 => k_is)
    (case t2 => k_is)
    (case t3 => k_is)
    (case t1T => k_is)
    (case t2T => k_is)
    (case g1T => k_is)
    (case sTT => k_is)
    (case sX => k_is)
    (case g1X => k_is)
    (case g2X => k_is)
    (case g3X => k_is)
    (case g4X => k_is)
    (case g5X => k_is)
    (case g6X => k_is)
    (case iXT => kit_is)
    (case iXX => kit_is)
    (case iXV => kit_is)
    (case e_NAMES => k_is)
    (case l_NAMES => k_is)
    (case y_NAMES => exact ⟨_, _, rfl, rfl, by decide, by repeat (first | exact .nil | refine .cons ⟨_, rfl⟩ ?_)⟩)
    (case e_DROP => k_is)
    (case r_DROP => exact ⟨_, rfl⟩)
    (case e_TURN => k_is)
    (case r_TURN => exact ⟨_, rfl⟩)
    (case e_NAMELESS => k_is)
    (case r_NAMELESS => exact ⟨_, rfl⟩)
    (case e_FORK => k_is)
    (case r_FORK => exact ⟨_, rfl⟩)
    (case e_WHILE => k_is)
    (case r_WHILE => exact ⟨_, rfl⟩)
    (case e_LAY => k_is)
    (case r_LAY => exact ⟨_, rfl⟩)
    (case u_N => exact ⟨rfl, rfl⟩)
    (case z_isinstance => k_is)
    (case z_str => k_is)
    (case z_len => k_is)
    (case z_tuple => k_is)
    (case z_min => k_is)
    (case z_any => k_is)
    (case z_sum => k_is)
    (case z_range => k_is)
    (case z_enumerate => k_is)
    (case z_int => k_is)
    (case z_ValueError => k_is)
#print axioms PySem.Challenge.cw_selfword_k24_texts_spoilt_holds
