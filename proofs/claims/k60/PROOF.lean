import PyProof.Rows.All
import Wide.All
import OpenK.AllK
import Wide.FinOn
import PyProof.EqAt
import PyProof.EqKinds
import PyProof.TupleCall
import PySem.Challenge.RW_selfword_k60_one_form
set_option Elab.async false
set_option linter.all false
set_option maxRecDepth 100000
/-! THE HAND LAYER, for ints, bools, texts, own classes, LISTS and tuples (index, slices, in, append, pop ..), calls, loops. Paste it whole ahead of your own text; what your proof does not reach may be deleted. -/
namespace L2
open PySem PySem.Spec PyProof.Rows

/-- a key: an int or a str -/
abbrev Key := Sum Int Str
def keyIs : Key → Value → Bool
  | .inl k, v => Value.isInt k v
  | .inr x, v => Value.isStrOf x v
def keyH (w : World) : Key → Int
  | .inl k => hashInt k
  | .inr x => hashStr w x
theorem keyIs_shape : ∀ {k : Key} {v : Value}, keyIs k v = true → (∃ i t, k = Sum.inl i ∧ v = Value.int i t) ∨ (∃ x t, k = Sum.inr x ∧ v = Value.str x t)
  | .inl i, v, h => by
    obtain ⟨t, e⟩ := Value.isInt_shape (k := i) (v := v) h
    exact .inl ⟨i, t, rfl, e⟩
  | .inr x, v, h => by
    obtain ⟨t, e⟩ := Value.isStrOf_shape (x := x) (v := v) h
    exact .inr ⟨x, t, rfl, e⟩
theorem keyIs_int (i : Int) (t : Tok) : keyIs (.inl i) (.int i t) = true := by simp [keyIs, Value.isInt]
theorem keyIs_str (x : Str) (t : Tok) : keyIs (.inr x) (.str x t) = true := by simp [keyIs, Value.isStrOf]
theorem key_ll (a b : Int) : decide ((Sum.inl a : Key) = Sum.inl b) = (a == b) := by
  by_cases e : a = b
  · subst e; simp
  · have h : ¬ (Sum.inl a : Key) = Sum.inl b := fun q => e (Sum.inl.inj q)
    rw [decide_eq_false h]
    exact (beq_eq_false_iff_ne.mpr e).symm
theorem key_rr (a b : Str) : decide ((Sum.inr a : Key) = Sum.inr b) = decide (a = b) := by
  by_cases e : a = b
  · subst e; simp
  · have h : ¬ (Sum.inr a : Key) = Sum.inr b := fun q => e (Sum.inr.inj q)
    rw [decide_eq_false h, decide_eq_false e]
theorem key_lr (a : Int) (b : Str) : decide ((Sum.inl a : Key) = Sum.inr b) = false := decide_eq_false (fun q => nomatch q)
theorem key_rl (a : Str) (b : Int) : decide ((Sum.inr a : Key) = Sum.inl b) = false := decide_eq_false (fun q => nomatch q)

def mixKind (prog : Program) (w : World) : PySem.KeyKind prog w Key where
  is := keyIs
  hash := keyH w
  inj := fun v a b ha hb => by
    rcases keyIs_shape ha with ⟨i, t, rfl, rfl⟩ | ⟨x, t, rfl, rfl⟩
    · rcases keyIs_shape hb with ⟨j, u, rfl, e⟩ | ⟨y, u, rfl, e⟩
      · injection e with e1 _; rw [e1]
      · exact nomatch e
    · rcases keyIs_shape hb with ⟨j, u, rfl, e⟩ | ⟨y, u, rfl, e⟩
      · exact nomatch e
      · injection e with e1 _; rw [e1]
  byValue := fun k v h => by
    rcases keyIs_shape h with ⟨i, t, rfl, rfl⟩ | ⟨x, t, rfl, rfl⟩ <;> rfl
  pyHash := fun hv h => by
    rcases keyIs_shape hv with ⟨i, t, rfl, rfl⟩ | ⟨x, t, rfl, rfl⟩
    · exact wpAny_pyHash_int h
    · exact wpAny_pyHash_str h
  eqBool := fun hu hv h => by
    rcases keyIs_shape hu with ⟨i, t, rfl, rfl⟩ | ⟨x, t, rfl, rfl⟩
    · rcases keyIs_shape hv with ⟨j, u, rfl, rfl⟩ | ⟨y, u, rfl, rfl⟩
      · rw [key_ll] at h; exact wpAny_eqBool_int h
      · rw [key_lr] at h; exact SeqAt.EqAt.int_str i t y u _ _ _ _ h
    · rcases keyIs_shape hv with ⟨j, u, rfl, rfl⟩ | ⟨y, u, rfl, rfl⟩
      · rw [key_rl] at h; exact SeqAt.EqAt.str_int x t j u _ _ _ _ h
      · rw [key_rr] at h; exact wpAny_eqBool_str h
  «strs» := fun k x t v h => by
    rcases keyIs_shape h with ⟨i, u, rfl, e⟩ | ⟨y, u, rfl, e⟩
    · exact nomatch e
    · injection e with e1 _
      subst e1
      cases v <;> rfl

theorem mixKind_is (prog : Program) (w : World) (k : Key) (v : Value) : (mixKind prog w).is k v = keyIs k v := rfl
theorem mixKind_int (prog : Program) (w : World) (i : Int) (t : Tok) : (mixKind prog w).is (.inl i) (.int i t) = true := keyIs_int i t
theorem mixKind_str (prog : Program) (w : World) (x : Str) (t : Tok) : (mixKind prog w).is (.inr x) (.str x t) = true := keyIs_str x t
end L2

namespace L2
open PySem PySem.Spec PyProof.Rows

/-- a value, without the heap -/
inductive V where
  | non | bl (b : Bool) | int (i : Int) | str (x : Str) | byt (b : Array UInt8) | flt (b : UInt64) | ref (a : Addr) | ty (n : String)
  deriving DecidableEq

def RelV : V → Value → Prop
  | .non, u => u = Value.none
  | .bl b, u => u = Value.bool b
  | .int i, u => ∃ t, u = Value.int i t
  | .str x, u => ∃ t, u = Value.str x t
  | .byt b, u => ∃ t, u = Value.bytes b t
  | .flt b, u => ∃ t, u = Value.float b t
  | .ref a, u => u = Value.ref a
  | .ty n, u => u = Value.type n

abbrev Vals : List V → List Value → Prop := Paired RelV
theorem Vals.length {xs : List V} {us : List Value} (r : Vals xs us) : xs.length = us.length := Paired.length r
theorem Vals.get : ∀ {xs : List V} {us : List Value} {i : Nat} {x : V}, Vals xs us → xs[i]? = some x → ∃ u, us[i]? = some u ∧ RelV x u
  | _, _, _, _, .nil, e => by simp at e
  | _, _, 0, _, .cons r _, e => by simp at e; subst e; exact ⟨_, rfl, r⟩
  | _, _, i + 1, x, .cons _ t, e => by
    obtain ⟨u, h1, h2⟩ := Vals.get (i := i) (x := x) t (by simpa using e)
    exact ⟨u, by simpa using h1, h2⟩
theorem Vals.set {x : V} {u : Value} (r : RelV x u) : ∀ {xs : List V} {us : List Value} (i : Nat), Vals xs us → Vals (xs.set i x) (us.set i u)
  | _, _, _, .nil => .nil
  | _, _, 0, .cons _ t => .cons r t
  | _, _, i + 1, .cons q t => .cons q (Vals.set r i t)
theorem Vals.append : ∀ {xs ys : List V} {us ws : List Value}, Vals xs us → Vals ys ws → Vals (xs ++ ys) (us ++ ws)
  | _, _, _, _, .nil, s => s
  | _, _, _, _, .cons r t, s => .cons r (Vals.append t s)
theorem Vals.take : ∀ {xs : List V} {us : List Value} (n : Nat), Vals xs us → Vals (xs.take n) (us.take n)
  | _, _, 0, _ => .nil
  | _, _, _ + 1, .nil => .nil
  | _, _, n + 1, .cons r t => .cons r (Vals.take n t)
theorem Vals.drop : ∀ {xs : List V} {us : List Value} (n : Nat), Vals xs us → Vals (xs.drop n) (us.drop n)
  | _, _, 0, r => r
  | _, _, _ + 1, .nil => .nil
  | _, _, n + 1, .cons _ t => Vals.drop n t
theorem Vals.none_of : ∀ {xs : List V} {us : List Value} {i : Nat}, Vals xs us → xs[i]? = none → us[i]? = none := fun {xs us i} r e => by
  have h1 := r.length
  have h2 : xs.length ≤ i := List.getElem?_eq_none_iff.mp e
  exact List.getElem?_eq_none_iff.mpr (by omega)

def RelO : Option V → Option Value → Prop
  | some v, some u => RelV v u
  | none, none => True
  | _, _ => False
def KV {κ : Type} : List (κ × V) → List (κ × Value) → Prop := Paired fun (p : κ × V) (q : κ × Value) => p.1 = q.1 ∧ RelV p.2 q.2

/-- a key of a dict (00_mix): an int or a text -/
def kV : Key → V
  | .inl i => .int i
  | .inr x => .str x

/-- what stands at a tracked address -/
inductive HO where
  /-- a list -/
  | lst (xs : List V)
  /-- a tuple (never changes) -/
  | tup (xs : List V)
  /-- a dict whose keys are ints and texts; one whose keys are tuples of ints and texts (the empty one is both) -/
  | dK (kvs : List (Key × V)) | dT (kvs : List (List Key × V))
  /-- a set of ints: its members, its size -/
  | set (S : Int → Bool) (n : Nat)
  /-- an instance of the class at C, its dict at dx, its attributes -/
  | ins (C dx : Addr) (fs : List (Str × V))
  /-- the dict of the instance at x -/
  | own (x : Addr)
  /-- the dict of an exception -/
  | xd (fs : List (Str × V))
  /-- a bound method, f of x -/
  | met (f x : Addr)
  /-- a range object lo, lo + 1, .. below hi -/
  | rng (lo hi : Int)
  /-- a thing that is known to the object (the script; a dict while a loop walks it): read, never written while it is so -/
  | frz (o : Obj) (u : HO)
  /-- a code object's table -/
  | tbl (ps : Array Value)
  /-- any other thing, by what is true of its one object (a def of one's own: SetO a S n := HO.ext fun h => ..) -/
  | ext (φ : Heap → Prop)

abbrev Hp := Addr → Option HO
def upd (H : Hp) (a : Addr) (o : HO) : Hp := fun b => if b = a then some o else H b
theorem upd_same {H : Hp} {a : Addr} {o : HO} : upd H a o a = some o := by unfold upd; rw [if_pos rfl]
theorem upd_ne {H : Hp} {a b : Addr} {o : HO} (h : b ≠ a) : upd H a o b = H b := by unfold upd; rw [if_neg h]
theorem upd_upd {H : Hp} {a : Addr} {o u : HO} : upd (upd H a o) a u = upd H a u := by
  funext b; unfold upd; split <;> rfl
/-- two objects of different content stand apart -/
theorem ne_of {H : Hp} {a b : Addr} {o u : HO} (h : H a = some o) (h' : H b = some u) (d : o ≠ u) : a ≠ b := by
  intro e; subst e; rw [h] at h'; exact d (Option.some.inj h')
theorem ne_of_none {H : Hp} {a b : Addr} {o : HO} (h : H a = some o) (h' : H b = none) : a ≠ b := by
  intro e; subst e; rw [h] at h'; cases h'

section
variable (P : Program) (w : World)
def ObjOk (H : Hp) (h : Heap) (a : Addr) : HO → Prop
  | .lst xs => xs.length ≤ sizeLine ∧ ∃ (its : List Value) (n : Nat), Vals xs its ∧ h.get? a = some { cls := .type "list", data := .seq its.toArray n }
  | .tup xs => xs.length ≤ sizeLine ∧ ∃ its : List Value, Vals xs its ∧ IsTup h a its.toArray
  | .dK kvs => kvs.length ≤ sizeLine ∧ (a == sysModules) = false ∧ ∃ vs, KV kvs vs ∧ h.DictOf (mixKind P w) a vs
  | .dT kvs => kvs.length ≤ sizeLine ∧ (a == sysModules) = false ∧ ∃ xs : List (List Key × Addr × Value),
      Paired (fun (p : List Key × V) (q : List Key × Addr × Value) => p.1 = q.1 ∧ H q.2.1 = some (.tup (p.1.map kV)) ∧ RelV p.2 q.2.2) kvs xs ∧
      ∃ o es ep, h.get? a = some o ∧ o.ExactDict ∧ o.data = .dict es ep ∧ es.toList = xs.map (entryOfKey (tupleKind (mixKind P w))) ∧ (xs.map (·.1)).Nodup
  | .set S n => h.SetOf (intKind P w) a S n
  | .ins C dx fs => H dx = some (.own a) ∧ fs.length ≤ 1000 ∧ dx ≠ a ∧ h.get? a = some (PySem.W.instObj C dx) ∧
      ∃ mA, h.Ns1 dx mA ∧ (∀ f, RelO (fs.lookup f) (mA f)) ∧ PySem.Within mA (fs.map (·.1))
  | .own _ => ∃ o, h.get? a = some o
  | .xd fs => ∃ mA, h.Ns1 a mA ∧ ∀ f, RelO (fs.lookup f) (mA f)
  | .rng lo hi => ∃ t u v, h.get? a = some { cls := .type "range", data := .fields #[.int lo t, .int hi u, .int 1 v] }
  | .frz o u => h.get? a = some o ∧ ObjOk H h a u
  | .tbl ps => h.get? a = some { cls := .none, data := .fields ps }
  | .met f x => h.get? a = some (PySem.W.methodObj (.ref f) (.ref x))
  | .ext φ => φ h ∧ (∃ o, h.get? a = some o) ∧ ∀ h1 h2 : Heap, φ h1 → (∀ o, h1.get? a = some o → h2.get? a = some o) → φ h2
/-- the abstract heap is held -/
def HOk (H : Hp) (h : Heap) : Prop := ∀ a o, H a = some o → ObjOk P w H h a o
end

section
variable {P : Program} {w : World} {H H' : Hp} {h h' : Heap} {a : Addr} {o : HO}
theorem ObjOk.lt (x : ObjOk P w H h a o) : a < h.objs.size := by
  cases o with
  | lst xs => obtain ⟨_, _, _, _, e⟩ := x; exact Heap.lt_size e
  | tup xs => obtain ⟨_, _, _, p⟩ := x; exact p.lt
  | dK kvs => obtain ⟨_, _, _, _, o, _, _, e, _⟩ := x; exact Heap.lt_size e
  | dT kvs => obtain ⟨_, _, _, _, o, _, _, e, _⟩ := x; exact Heap.lt_size e
  | set S n => obtain ⟨o, _, _, _, e, _⟩ := x; exact Heap.lt_size e
  | ins C dx fs => obtain ⟨_, _, _, e, _⟩ := x; exact Heap.lt_size e
  | own y => obtain ⟨_, e⟩ := x; exact Heap.lt_size e
  | xd fs => obtain ⟨_, ⟨_, _, _, e, _⟩, _⟩ := x; exact Heap.lt_size e
  | rng lo hi => obtain ⟨_, _, _, e⟩ := x; exact Heap.lt_size e
  | frz ob u => obtain ⟨e, _⟩ := x; exact Heap.lt_size e
  | tbl ps => exact Heap.lt_size (show h.get? a = some _ from x)
  | met f y => exact Heap.lt_size (show h.get? a = some _ from x)
  | ext φ => obtain ⟨_, ⟨_, e⟩, _⟩ := x; exact Heap.lt_size e
theorem Paired.mapP {α β : Type} {F G : α → β → Prop} : ∀ {l₁ : List α} {l₂ : List β}, Paired F l₁ l₂ → (∀ a b, F a b → G a b) → Paired G l₁ l₂
  | _, _, .nil, _ => .nil
  | _, _, .cons r t, f => .cons (f _ _ r) (Paired.mapP t f)
theorem Paired.imp' {α β : Type} {F G : α → β → Prop} (f : ∀ a b, F a b → G a b) {l₁ : List α} {l₂ : List β} (r : Paired F l₁ l₂) : Paired G l₁ l₂ := Paired.mapP r f
/-- what an object's description leans on: its own object, its own dict, the tuples -/
theorem ObjOk.stay (x : ObjOk P w H h a o) (k : ∀ b u, (b = a ∨ H b = some (.own a)) → h.get? b = some u → h'.get? b = some u)
    (ho : ∀ b, H b = some (.own a) → H' b = some (.own a)) (ht : ∀ b xs, H b = some (.tup xs) → H' b = some (.tup xs)) : ObjOk P w H' h' a o := by
  induction o with
  | lst xs => obtain ⟨z, its, n, r, e⟩ := x; exact ⟨z, its, n, r, k _ _ (.inl rfl) e⟩
  | tup xs => obtain ⟨z, its, r, ob, e, c⟩ := x; exact ⟨z, its, r, ob, k _ _ (.inl rfl) e, c⟩
  | dK kvs => obtain ⟨z, y, vs, r, ob, es, ep, e, c⟩ := x; exact ⟨z, y, vs, r, ob, es, ep, k _ _ (.inl rfl) e, c⟩
  | dT kvs =>
    obtain ⟨z, y, xs, r, ob, es, ep, e, c⟩ := x
    exact ⟨z, y, xs, Paired.mapP r fun p q z => ⟨z.1, ht _ _ z.2.1, z.2.2⟩, ob, es, ep, k _ _ (.inl rfl) e, c⟩
  | set S n => obtain ⟨ob, es, ep, t, e, c⟩ := x; exact ⟨ob, es, ep, t, k _ _ (.inl rfl) e, c⟩
  | ins C dx fs =>
    obtain ⟨d, z, ne, e, mA, ⟨od, es, ep, e2, c⟩, r⟩ := x
    exact ⟨ho _ d, z, ne, k _ _ (.inl rfl) e, mA, ⟨od, es, ep, k _ _ (.inr d) e2, c⟩, r⟩
  | own y => obtain ⟨ob, e⟩ := x; exact ⟨ob, k _ _ (.inl rfl) e⟩
  | xd fs => obtain ⟨mA, ⟨od, es, ep, e, c⟩, r⟩ := x; exact ⟨mA, ⟨od, es, ep, k _ _ (.inl rfl) e, c⟩, r⟩
  | rng lo hi => obtain ⟨t, u, v, e⟩ := x; exact ⟨t, u, v, k _ _ (.inl rfl) e⟩
  | frz ob u ih => obtain ⟨e, q⟩ := x; exact ⟨k _ _ (.inl rfl) e, ih q⟩
  | tbl ps =>
    have e : h.get? a = some { cls := .none, data := .fields ps } := x
    show h'.get? a = some { cls := .none, data := .fields ps }
    exact k a _ (.inl rfl) e
  | met f y =>
    have e : h.get? a = some (PySem.W.methodObj (.ref f) (.ref y)) := x
    show h'.get? a = some (PySem.W.methodObj (.ref f) (.ref y))
    exact k a _ (.inl rfl) e
  | ext φ => obtain ⟨p, ⟨o, e⟩, st⟩ := x; exact ⟨st _ _ p fun o q => k _ _ (.inl rfl) q, ⟨o, k _ _ (.inl rfl) e⟩, st⟩
theorem HOk.lt (x : HOk P w H h) (e : H a = some o) : a < h.objs.size := (x a o e).lt
theorem HOk.fresh (x : HOk P w H h) (e : h.objs.size ≤ a) : H a = none := by
  cases q : H a with
  | none => rfl
  | some u => exact absurd (Nat.lt_of_lt_of_le (x.lt q) e) (Nat.lt_irrefl _)
/-- every object of the heap is kept -/
theorem HOk.kept (x : HOk P w H h) (k : ∀ b u, h.get? b = some u → h'.get? b = some u) : HOk P w H h' := fun a o e =>
  (x a o e).stay (fun b u _ q => k b u q) (fun _ q => q) fun _ _ q => q
/-- a new object is laid and tracked -/
theorem HOk.laid (x : HOk P w H h) (k : ∀ b u, h.get? b = some u → h'.get? b = some u) (hp : h.objs.size ≤ a) (new : ObjOk P w (upd H a o) h' a o) : HOk P w (upd H a o) h' := fun b u e => by
  have hn := x.fresh hp
  by_cases hb : b = a
  · subst hb; rw [upd_same] at e; cases e; exact new
  · rw [upd_ne hb] at e
    exact (x b u e).stay (fun c v _ q => k c v q) (fun c q => by rw [upd_ne (ne_of_none q hn)]; exact q) fun c xs q => by rw [upd_ne (ne_of_none q hn)]; exact q
end

/-- what may be read as u: it is u, or a known u -/
def Rd (H : Hp) (a : Addr) (u : HO) : Prop := H a = some u ∨ ∃ o, H a = some (.frz o u)
theorem Rd.of {H : Hp} {a : Addr} {u : HO} (h : H a = some u) : Rd H a u := .inl h
theorem Rd.ok {P : Program} {w : World} {H : Hp} {h : Heap} {a : Addr} {u : HO} (r : Rd H a u) (x : HOk P w H h) : ObjOk P w H h a u := by
  rcases r with r | ⟨o, r⟩
  · exact x a u r
  · obtain ⟨_, q⟩ := x a _ r
    exact q
/-- what may be written -/
def Mut : Option HO → Prop
  | some (.lst _) => True
  | some (.dK _) => True
  | some (.dT _) => True
  | some (.set _ _) => True
  | some (.ins _ _ _) => True
  | some (.ext _) => True
  | _ => False
section
variable {P : Program} {w : World} {H : Hp} {h h' : Heap} {x e : Addr} {o' : HO}
/-- the object at e is changed: x itself, or the dict of the instance x -/
theorem HOk.write (ok : HOk P w H h) (mu : Mut (H x)) (he : e = x ∨ H e = some (.own x)) (k : ∀ b u, b ≠ e → h.get? b = some u → h'.get? b = some u) (heo : ∃ u, h'.get? e = some u)
    (new : ObjOk P w (upd H x o') h' x o') : HOk P w (upd H x o') h' := fun b u q => by
  have nown : ∀ c y, H c = some (.own y) → c ≠ x := fun c y r z => by subst z; rw [r] at mu; exact mu
  have ntup : ∀ c xs, H c = some (.tup xs) → c ≠ x := fun c xs r z => by subst z; rw [r] at mu; exact mu
  by_cases hb : b = x
  · subst hb; rw [upd_same] at q; cases q; exact new
  · rw [upd_ne hb] at q
    by_cases hbe : b = e
    · have q' : H b = some (.own x) := by
        rcases he with z | z
        · exact absurd (hbe.trans z) hb
        · rw [hbe]; exact z
      rw [q] at q'; cases q'
      obtain ⟨v, hv⟩ := heo
      exact ⟨v, by rw [hbe]; exact hv⟩
    · refine (ok b u q).stay (fun c v hc r => k c v ?_ r) (fun c r => by rw [upd_ne (nown c b r)]; exact r) fun c xs r => by rw [upd_ne (ntup c xs r)]; exact r
      rcases hc with rfl | hc
      · exact hbe
      · rintro rfl
        rcases he with z | z
        · exact nown c b hc z
        · rw [hc] at z; cases z; exact hb rfl
end

/-! ### kept unless tracked; of the frames at fs (the callers') the slots may change (an exception that passes writes there); of the records at ex (iterators) nothing is said -/
structure Un (fs ex : List Addr) (H H' : Hp) (h h' : Heap) : Prop where
  keep : ∀ b o, h.get? b = some o → H b = none → b ∉ fs → b ∉ ex → h'.get? b = some o
  slot : ∀ b o, h.get? b = some o → H b = none → b ∈ fs → b ∉ ex → ∃ sl, h'.get? b = some { o with slots := sl }
  free : ∀ b o, h.get? b = some o → H b = none → b ∉ ex → H' b = none
  there : ∀ b o, h.get? b = some o → b ∉ ex → ∃ o', h'.get? b = some o'
  tups : ∀ b xs, H b = some (.tup xs) → H' b = some (.tup xs)
  frzs : ∀ b o u, H b = some (.frz o u) → H' b = some (.frz o u)
  tbls : ∀ b ps, H b = some (.tbl ps) → ∃ more, H' b = some (.tbl (ps ++ more))
section
variable {fs fs' ex ex' : List Addr} {H H1 H2 : Hp} {h h1 h2 h' : Heap} {a x e : Addr} {o : HO}
theorem Un.any (u : Un fs ex H H1 h h1) {b : Addr} {ob : Obj} (q : h.get? b = some ob) (n : H b = none) (hx : b ∉ ex) : ∃ sl, h1.get? b = some { ob with slots := sl } := by
  by_cases hb : b ∈ fs
  · exact u.slot b ob q n hb hx
  · exact ⟨ob.slots, u.keep b ob q n hb hx⟩
theorem Un.trans (a : Un fs ex H H1 h h1) (b : Un fs ex H1 H2 h1 h2) : Un fs ex H H2 h h2 where
  keep := fun c ob q n hc hx => b.keep c ob (a.keep c ob q n hc hx) (a.free c ob q n hx) hc hx
  slot := fun c ob q n hc hx => by
    obtain ⟨sl, e1⟩ := a.slot c ob q n hc hx
    obtain ⟨sl', e2⟩ := b.slot c _ e1 (a.free c ob q n hx) hc hx
    exact ⟨sl', e2⟩
  free := fun c ob q n hx => by
    obtain ⟨o', e1⟩ := a.there c ob q hx
    exact b.free c o' e1 (a.free c ob q n hx) hx
  there := fun c ob q hx => by
    obtain ⟨o', e1⟩ := a.there c ob q hx
    exact b.there c o' e1 hx
  tups := fun c xs q => b.tups c xs (a.tups c xs q)
  frzs := fun c ob xs q => b.frzs c ob xs (a.frzs c ob xs q)
  tbls := fun c ps q => by
    obtain ⟨m1, e1⟩ := a.tbls c ps q
    obtain ⟨m2, e2⟩ := b.tbls c _ e1
    exact ⟨m1 ++ m2, by rw [e2, Array.append_assoc]⟩
theorem Un.kept (k : ∀ b u, h.get? b = some u → h'.get? b = some u) : Un fs ex H H h h' :=
  ⟨fun b ob q _ _ _ => k b ob q, fun b ob q _ _ _ => ⟨ob.slots, k b ob q⟩, fun _ _ _ n _ => n, fun b ob q _ => ⟨ob, k b ob q⟩, fun _ _ q => q, fun _ _ _ q => q, fun _ ps q => ⟨#[], by rw [q]; simp⟩⟩
theorem Un.refl : Un fs ex H H h h := Un.kept fun _ _ q => q
theorem Un.laid (k : ∀ b u, h.get? b = some u → h'.get? b = some u) (hp : h.objs.size ≤ a) (hn : H a = none) : Un fs ex H (upd H a o) h h' where
  keep := fun b u q _ _ _ => k b u q
  slot := fun b u q _ _ _ => ⟨u.slots, k b u q⟩
  free := fun b u q n _ => by rw [upd_ne (Nat.ne_of_lt (Nat.lt_of_lt_of_le (Heap.lt_size q) hp))]; exact n
  there := fun b u q _ => ⟨u, k b u q⟩
  tups := fun b xs q => by rw [upd_ne (ne_of_none q hn)]; exact q
  frzs := fun b u xs q => by rw [upd_ne (ne_of_none q hn)]; exact q
  tbls := fun b ps q => ⟨#[], by rw [upd_ne (ne_of_none q hn), q]; simp⟩
theorem Un.write (mu : Mut (H x)) (he : e = x ∨ H e = some (.own x)) (k : ∀ b u, b ≠ e → h.get? b = some u → h'.get? b = some u) (heo : ∃ u, h'.get? e = some u) : Un fs ex H (upd H x o) h h' := by
  have hx : ∀ b, H b = none → b ≠ x := fun b n z => by subst z; rw [n] at mu; exact mu
  have hb : ∀ b, H b = none → b ≠ e := fun b n z => by
    subst z
    rcases he with r | r
    · exact hx b n r
    · rw [n] at r; cases r
  have hm : ∀ b u, H b = some u → ¬ Mut (some u) → b ≠ x := fun b u q nm z => by subst z; rw [q] at mu; exact nm mu
  refine ⟨fun b u q n _ _ => k b u (hb b n) q, fun b u q n _ _ => ⟨u.slots, k b u (hb b n) q⟩, fun b u q n _ => by rw [upd_ne (hx b n)]; exact n, fun b u q _ => ?_,
    fun b xs q => by rw [upd_ne (hm b _ q fun z => z)]; exact q, fun b u xs q => by rw [upd_ne (hm b _ q fun z => z)]; exact q, fun b ps q => ⟨#[], by rw [upd_ne (hm b _ q fun z => z), q]; simp⟩⟩
  by_cases hbe : b = e
  · subst hbe; exact heo
  · exact ⟨u, k b u hbe q⟩
theorem Un.mono (u : Un fs ex H H1 h h1) (hs : ∀ b ∈ fs, b ∈ fs') (hx : ∀ b ∈ ex, b ∈ ex') : Un fs' ex' H H1 h h1 :=
  ⟨fun b ob q n hb he => u.keep b ob q n (fun z => hb (hs b z)) fun z => he (hx b z), fun _ _ q n _ he => u.any q n fun z => he (hx _ z), fun b ob q n he => u.free b ob q n fun z => he (hx b z), fun b ob q he => u.there b ob q fun z => he (hx b z), u.tups, u.frzs, u.tbls⟩
end

/-! ### the heap without what is tracked -/
def trk (h : Heap) (H : Hp) : List Addr := (List.range h.objs.size).filter fun a => (H a).isSome
def hidT (h : Heap) (H : Hp) : Heap := PySem.W.hideAll h (trk h H)
theorem hidT_size (h : Heap) (H : Hp) : (hidT h H).objs.size = h.objs.size := PySem.W.hideAll_size _ _
theorem hidT_get {h : Heap} {H : Hp} {b : Addr} {o : Obj} (e : h.get? b = some o) (n : H b = none) : (hidT h H).get? b = some o :=
  PySem.W.hideAll_get _ e fun hm => by
    have q : (H b).isSome = true := (List.mem_filter.mp hm).2
    rw [n] at q; simp at q
theorem of_hidT {h : Heap} {H : Hp} {b : Addr} {o : Obj} (e : (hidT h H).get? b = some o) : h.get? b = some o ∧ H b = none := by
  have e' : h.get? b = some o := PySem.W.of_hideAll (trk h H) e
  refine ⟨e', ?_⟩
  cases q : H b with
  | none => rfl
  | some x =>
    have hm : b ∈ trk h H := List.mem_filter.mpr ⟨List.mem_range.mpr (Heap.lt_size e'), by simp [q]⟩
    have z : (hidT h H).get? b = none := PySem.W.hideAll_none (trk h H) hm
    rw [z] at e; cases e

/-! ### OpenK's ledger, filled with every new object but one -/
def allNews (g h : Heap) (L : Addr) : List (Addr × Obj) := (List.range h.objs.size).filterMap fun a => if a = L ∨ (g.get? a).isSome = true then none else (h.get? a).map fun o => (a, o)
theorem mem_allNews {g h : Heap} {L a : Addr} {o : Obj} (h1 : a ≠ L) (h2 : g.get? a = none) (h3 : h.get? a = some o) : (a, o) ∈ allNews g h L :=
  List.mem_filterMap.mpr ⟨a, List.mem_range.mpr (Heap.lt_size h3), by simp [h1, h2, h3]⟩
theorem of_mem_allNews {g h : Heap} {L : Addr} {p : Addr × Obj} (hp : p ∈ allNews g h L) : p.1 ≠ L ∧ g.get? p.1 = none ∧ h.get? p.1 = some p.2 := by
  obtain ⟨b, _, e⟩ := List.mem_filterMap.mp hp
  split at e
  · cases e
  · rename_i hn
    cases q : h.get? b with
    | none => rw [q] at e; simp at e
    | some u =>
      rw [q] at e
      simp only [Option.map_some, Option.some.injEq] at e
      subst e
      refine ⟨fun z => hn (.inl z), ?_, q⟩
      show g.get? b = none
      cases r : g.get? b with
      | none => rfl
      | some v => exact (hn (.inr (by simp [r]))).elim
def rest (g h : Heap) (L d : Addr) : List (Addr × Obj) := (allNews g h L).filter fun p => decide (p.1 ≠ d)
theorem rest_ne {g h : Heap} {L d : Addr} : ∀ p ∈ rest g h L d, p.1 ≠ d := fun p hp => of_decide_eq_true (List.mem_filter.mp hp).2
theorem mem_rest {g h : Heap} {L d a : Addr} {o : Obj} (h1 : a ≠ L) (h2 : g.get? a = none) (h3 : h.get? a = some o) (h4 : a ≠ d) : (a, o) ∈ rest g h L d :=
  List.mem_filter.mpr ⟨mem_allNews h1 h2 h3, decide_eq_true h4⟩
theorem news_all {g h : Heap} {L : Addr} : News g L h (allNews g h L) := fun p hp => let ⟨a, b, c⟩ := of_mem_allNews hp; ⟨c, a, b⟩
theorem news_at {g h : Heap} {L d : Addr} {o : Obj} (h1 : d ≠ L) (h2 : g.get? d = none) (h3 : h.get? d = some o) : News g L h ((d, o) :: rest g h L d) := fun p hp => by
  rcases List.mem_cons.mp hp with rfl | hp
  · exact ⟨h3, h1, h2⟩
  · exact news_all p (List.mem_filter.mp hp).1
/-- behind a rule that changed d alone: all else but the frame is kept -/
theorem kept_of_news {g h h' : Heap} {L d : Addr} {m : Str → Option Value} (k : ∀ b o, g.get? b = some o → h.get? b = some o) (F : Fr g L h' m) (N : News g L h' (rest g h L d)) :
    ∀ b o, b ≠ L → b ≠ d → h.get? b = some o → h'.get? b = some o := fun b o h1 h2 e => by
  cases q : g.get? b with
  | some u =>
    have := k b u q
    rw [e] at this; cases this
    exact F.keep b _ q
  | none => exact (N (b, o) (mem_rest h1 q e h2)).1
end L2

namespace L2
open PySem PySem.Spec PyProof.Rows

/-- the module's facts, over the base: the heap at the law's entry without what is tracked there -/
structure Mod (K : PySem.W.Frag) (mg : Str → Option Value) (base : Heap) : Prop where
  kin : K.In base
  glob : base.Ns mainGlobals mg
  blt : ∃ mb, base.Ns builtinsNs mb ∧ ∀ x : Str, x ≠ "__name__" → mb x = bootBuiltins x
  nolimit : base.NoLimit

/-- the context: a def's body (or a comprehension's block) running. base: fixed through the whole law; s₀, H₀: the entry; outer: the frames whose slots others may change (a def's callers); stack: all frames that run;
   ex: iterators that were made ahead of the entry and are walked here (a comprehension's); fn: the names whose cells were made at the entry (a def: all; a comprehension's block: its own); calm: not within an except suite; pn: pins that every state bears; xe: what is wanted of an exception that leaves the code -/
structure Cx where
  prog : Program
  w : World
  K : PySem.W.Frag
  mg : Str → Option Value
  base : Heap
  A : Around
  N : List Str
  s₀ : Shared
  H₀ : Hp
  env : Env
  outer : List Env
  stack : List Env
  ex : List Addr
  fn : Str → Bool
  calm : Bool
  pn : List (Addr × Obj)
  xe : Value → Shared → Prop
/-- the callers' frames -/
def frs (l : List Env) : List Addr := l.filterMap (·.frame)
abbrev Cx.fs (X : Cx) : List Addr := frs X.outer

def Vis (sc : Scope) (x : Str) : Prop := sc.names.lookup x = some .local ∨ sc.names.lookup x = some .cell ∨ sc.names.lookup x = some .free
def Loc (sc : Scope) (x : Str) : Prop := sc.names.lookup x = some .local ∨ sc.names.lookup x = some .cell
def Look (env : Env) (h : Heap) (m : Str → Option Value) (x : Str) (u : Value) : Prop :=
  (env.kindOf x = some .local ∧ m x = some u) ∨ ((env.kindOf x = some .cell ∨ env.kindOf x = some .free) ∧ ∃ c, env.cells.lookup x = some c ∧ h.IsCell c (some u))

structure Cx.Ok (X : Cx) : Prop where
  mod : Mod X.K X.mg X.base
  kind : X.env.scope.kind = .function
  glob : X.env.globals = mainGlobals
  blt : X.env.builtins = builtinsNs
  above : X.s₀.heap.objs.size ≤ X.env.locals
  inj : ∀ x y c, X.env.cells.lookup x = some c → X.env.cells.lookup y = some c → x = y
  has : ∀ x, (X.env.kindOf x = some .cell ∨ X.env.kindOf x = some .free) → ∃ c, X.env.cells.lookup x = some c
  cab : ∀ x c, X.fn x = true → X.env.cells.lookup x = some c → X.s₀.heap.objs.size ≤ c
  hd : X.calm = true → X.A.handled = none
  frames : X.A.frames = some X.stack
  stk : X.stack = X.outer ∨ (X.stack = X.env :: X.outer ∧ X.env.frame = some X.env.locals)
  exf : ∀ b ∈ X.ex, b ≠ X.env.locals ∧ ∀ x c, X.env.cells.lookup x = some c → c ≠ b
  bs : ∀ b o, X.base.get? b = some o → X.s₀.heap.get? b = some o ∧ X.H₀ b = none
  bsz : X.base.objs.size ≤ X.s₀.heap.objs.size
  noex : ∀ b o, X.base.get? b = some o → b ∉ X.ex
  exfs : ∀ b ∈ X.ex, b ∉ X.fs
  funs : X.s₀.heap.FunFrames X.base X.outer
  frf : ∀ b ∈ X.fs, X.H₀ b = none

structure Inv (X : Cx) (pins : List (Addr × Obj)) (σ : List (Option V)) (H : Hp) (s : Shared) : Prop where
  ok : X.Ok
  os : s.os = X.s₀.os
  bare : AllBare s.gens
  base : Un X.fs X.ex X.H₀ H X.s₀.heap s.heap
  loc : ∃ m, s.heap.Ns X.env.locals m ∧ ∀ (i : Nat) (x : Str) (v : V), X.N[i]? = some x → σ[i]? = some (some v) → Vis X.env.scope x → ∃ u, RelV v u ∧ Look X.env s.heap m x u
  cell : ∀ x c, X.env.cells.lookup x = some c → ∃ v, s.heap.IsCell c v
  free : H X.env.locals = none
  freeC : ∀ x c, X.env.cells.lookup x = some c → H c = none
  pin : ∀ p ∈ X.pn ++ pins, s.heap.get? p.1 = some p.2 ∧ H p.1 = none ∧ p.1 ≠ X.env.locals ∧ p.1 ∉ X.fs ∧ ∀ v, p.2.data ≠ .cell v
  hok : HOk X.prog X.w H s.heap
  len : σ.length = X.N.length

section
variable {X : Cx} {pins : List (Addr × Obj)} {σ : List (Option V)} {H H' : Hp} {s : Shared} {h' : Heap}

theorem Cx.Ok.nofr (ok : X.Ok) {b : Addr} {o : Obj} (e : X.base.get? b = some o) : b ∉ X.fs := fun hb => by
  have := (ok.funs.mem hb).1
  rw [e] at this; cases this
theorem Inv.bs (I : Inv X pins σ H s) : ∀ b o, X.base.get? b = some o → s.heap.get? b = some o ∧ H b = none := fun b o e =>
  ⟨I.base.keep b o (I.ok.bs b o e).1 (I.ok.bs b o e).2 (I.ok.nofr e) (I.ok.noex b o e), I.base.free b o (I.ok.bs b o e).1 (I.ok.bs b o e).2 (I.ok.noex b o e)⟩
theorem Inv.bk (I : Inv X pins σ H s) : ∀ b o, X.base.get? b = some o → s.heap.get? b = some o := fun b o e => (I.bs b o e).1
theorem Inv.mod (I : Inv X pins σ H s) : Mod X.K X.mg X.base := I.ok.mod
theorem Inv.kIn (I : Inv X pins σ H s) : X.K.In s.heap := I.ok.mod.kin.keeps I.bk
theorem Inv.nolimit (I : Inv X pins σ H s) : s.heap.NoLimit := I.ok.mod.nolimit.keeps I.bk
/-- the frame over the base: for OpenK's rules (K.In X.base is I.mod.kin) -/
theorem Inv.fr (I : Inv X pins σ H s) : ∃ m, Fr X.base X.env.locals s.heap m :=
  let ⟨m, hn, _⟩ := I.loc
  ⟨m, hn, I.bk, Nat.le_trans I.ok.bsz I.ok.above⟩
theorem Inv.lt (I : Inv X pins σ H s) : X.env.locals < s.heap.objs.size := let ⟨_, hn, _⟩ := I.loc; hn.lt
theorem Inv.sz (I : Inv X pins σ H s) : X.s₀.heap.objs.size ≤ s.heap.objs.size := Nat.le_trans I.ok.above (Nat.le_of_lt I.lt)
theorem Inv.nofs (I : Inv X pins σ H s) {a : Addr} (h : s.heap.objs.size ≤ a) : a ∉ X.fs := fun hb => by
  obtain ⟨_, o, ho, _⟩ := I.ok.funs.mem hb
  exact absurd (Nat.lt_of_lt_of_le (Heap.lt_size ho) (Nat.le_trans I.sz h)) (Nat.lt_irrefl _)
theorem Inv.cne (I : Inv X pins σ H s) : ∀ x c, X.env.cells.lookup x = some c → c ≠ X.env.locals := fun x c e z => by
  obtain ⟨v, o, ho, hd⟩ := I.cell x c e
  obtain ⟨m, ⟨o', es, ep, ho', hd', _⟩, _⟩ := I.loc
  rw [z, ho'] at ho; cases ho; rw [hd'] at hd; cases hd
theorem Inv.funs (I : Inv X pins σ H s) : s.heap.FunFrames X.base X.outer := by
  have all : ∀ (l : List Env), (∀ b ∈ frs l, b ∈ X.fs) → X.s₀.heap.FunFrames X.base l → s.heap.FunFrames X.base l := by
    intro l
    induction l with
    | nil => intro _ _; trivial
    | cons env r ih =>
      intro hs hl
      obtain ⟨hk, ⟨L, o, hf, hn, ho, hd⟩, hr⟩ := hl
      have hL : L ∈ X.fs := hs L (by unfold frs; rw [List.filterMap_cons, hf]; exact List.mem_cons_self)
      obtain ⟨sl, e⟩ := I.base.slot L o ho (I.ok.frf L hL) hL fun z => I.ok.exfs L z hL
      exact ⟨hk, ⟨L, _, hf, hn, e, hd⟩, ih (fun b hb => hs b (by unfold frs; rw [List.filterMap_cons, hf]; exact List.mem_cons_of_mem _ hb)) hr⟩
  exact all X.outer (fun _ hb => hb) I.ok.funs

/-- the frames that run, for a call -/
theorem Inv.stack (I : Inv X pins σ H s) : s.heap.FunFrames X.base X.stack := by
  rcases I.ok.stk with e | ⟨e, hf⟩
  · rw [e]; exact I.funs
  · rw [e]
    obtain ⟨m, hn, _⟩ := I.loc
    refine .cons (by rw [I.ok.kind]; decide) hf hn ?_ I.funs
    exact Heap.get?_none_of_le (Nat.le_trans I.ok.bsz I.ok.above)
theorem Inv.stkSub (I : Inv X pins σ H s) : ∀ b ∈ frs X.stack, b ∈ X.env.locals :: X.fs := fun b hb => by
  rcases I.ok.stk with e | ⟨e, hf⟩
  · rw [e] at hb; exact List.mem_cons_of_mem _ hb
  · rw [e] at hb
    unfold frs at hb
    rw [List.filterMap_cons, hf] at hb
    exact hb
theorem Inv.stkFree (I : Inv X pins σ H s) : ∀ b ∈ frs X.stack, H b = none := fun b hb => by
  rcases List.mem_cons.mp (I.stkSub b hb) with e | hb
  · rw [e]; exact I.free
  · obtain ⟨_, o, ho, _⟩ := I.ok.funs.mem hb
    exact I.base.free b o ho (I.ok.frf b hb) fun z => I.ok.exfs b z hb

/-- THE STEP: the untracked objects but the frame and the records at ch are kept (the callers' frames up to slots), the frame's map is kept, the new abstract heap is held -/
theorem Inv.step {g' : Array GenState} {t' : Nat} {d' : Drawn} {ch : List Addr} (I : Inv X pins σ H s)
    (hch : ∀ b ∈ ch, (b ∈ X.ex ∨ X.s₀.heap.objs.size ≤ b) ∧ b ≠ X.env.locals ∧ (∀ x c, X.env.cells.lookup x = some c → c ≠ b) ∧ ∀ p ∈ X.pn ++ pins, p.1 ≠ b)
    (keep : ∀ b o, b ≠ X.env.locals → b ∉ X.fs → b ∉ ch → s.heap.get? b = some o → H b = none → h'.get? b = some o)
    (slot : ∀ b o, b ≠ X.env.locals → b ∈ X.fs → b ∉ ch → s.heap.get? b = some o → H b = none → ∃ sl, h'.get? b = some { o with slots := sl }) (free : ∀ b o, b ∉ ch → s.heap.get? b = some o → H b = none → H' b = none)
    (there : ∀ b o, b ∉ ch → s.heap.get? b = some o → ∃ o', h'.get? b = some o')
    (tups : ∀ b xs, H b = some (.tup xs) → H' b = some (.tup xs)) (frzs : ∀ b o u, H b = some (.frz o u) → H' b = some (.frz o u)) (tbls : ∀ b ps, H b = some (.tbl ps) → ∃ more, H' b = some (.tbl (ps ++ more)))
    (ns : ∀ m, s.heap.Ns X.env.locals m → h'.Ns X.env.locals m) (hok : HOk X.prog X.w H' h') (hg : AllBare g') :
    Inv X pins σ H' { s with heap := h', gens := g', drawn := d', toks := t' } := by
  have neL : ∀ b o, X.s₀.heap.get? b = some o → b ≠ X.env.locals := fun b o e => Nat.ne_of_lt (Nat.lt_of_lt_of_le (Heap.lt_size e) I.ok.above)
  have neC : ∀ b o, X.s₀.heap.get? b = some o → b ∉ X.ex → b ∉ ch := fun b o e hx hb => by
    rcases (hch b hb).1 with z | z
    · exact hx z
    · exact absurd (Nat.lt_of_lt_of_le (Heap.lt_size e) z) (Nat.lt_irrefl _)
  have cellK : ∀ x c, X.env.cells.lookup x = some c → ∀ v, s.heap.IsCell c v → h'.IsCell c v := fun x c e v ⟨o, ho, hd⟩ => by
    have nch : c ∉ ch := fun z => (hch c z).2.2.1 x c e rfl
    by_cases hc : c ∈ X.fs
    · obtain ⟨sl, q⟩ := slot c o (I.cne x c e) hc nch ho (I.freeC x c e)
      exact ⟨_, q, hd⟩
    · exact ⟨o, keep c o (I.cne x c e) hc nch ho (I.freeC x c e), hd⟩
  refine ⟨I.ok, I.os, hg, ⟨fun b o e n hb hx => ?_, fun b o e n hb hx => ?_, fun b o e n hx => ?_, fun b o e hx => ?_, fun b xs e => tups b xs (I.base.tups b xs e), fun b o xs e => frzs b o xs (I.base.frzs b o xs e), fun b ps e => ?_⟩, ?_, fun x c e => ?_, ?_, fun x c e => ?_, fun p hp => ?_, hok, I.len⟩
  · exact keep b o (neL b o e) hb (neC b o e hx) (I.base.keep b o e n hb hx) (I.base.free b o e n hx)
  · obtain ⟨sl, e1⟩ := I.base.slot b o e n hb hx
    obtain ⟨sl', e2⟩ := slot b _ (neL b o e) hb (neC b o e hx) e1 (I.base.free b o e n hx)
    exact ⟨sl', e2⟩
  · obtain ⟨o', e1⟩ := I.base.there b o e hx
    exact free b o' (neC b o e hx) e1 (I.base.free b o e n hx)
  · obtain ⟨o', e1⟩ := I.base.there b o e hx
    exact there b o' (neC b o e hx) e1
  · obtain ⟨m1, e1⟩ := I.base.tbls b ps e
    obtain ⟨m2, e2⟩ := tbls b _ e1
    exact ⟨m1 ++ m2, by rw [e2, Array.append_assoc]⟩
  · obtain ⟨m, hn, hl⟩ := I.loc
    refine ⟨m, ns m hn, fun i x v e1 e2 e3 => ?_⟩
    obtain ⟨u, r, l⟩ := hl i x v e1 e2 e3
    refine ⟨u, r, ?_⟩
    rcases l with l | ⟨k, c, e, z⟩
    · exact .inl l
    · exact .inr ⟨k, c, e, cellK x c e _ z⟩
  · obtain ⟨v, z⟩ := I.cell x c e
    exact ⟨v, cellK x c e v z⟩
  · obtain ⟨m, ⟨o, _, _, ho, _⟩, _⟩ := I.loc
    exact free _ o (fun z => (hch _ z).2.1 rfl) ho I.free
  · obtain ⟨v, o, ho, hd⟩ := I.cell x c e
    exact free c o (fun z => (hch c z).2.2.1 x c e rfl) ho (I.freeC x c e)
  · obtain ⟨e, n, ne, nf, d⟩ := I.pin p hp
    have nch : p.1 ∉ ch := fun z => (hch p.1 z).2.2.2 p hp rfl
    exact ⟨keep p.1 p.2 ne nf nch e n, free p.1 p.2 nch e n, ne, nf, d⟩
/-- .. where the frame's own object is kept too -/
theorem Inv.un {t' : Nat} (I : Inv X pins σ H s) (u : Un X.fs [] H H' s.heap h') (hok : HOk X.prog X.w H' h') : Inv X pins σ H' { s with heap := h', toks := t' } := by
  obtain ⟨m, ⟨o, es, ep, ho, r⟩, _⟩ := id I.loc
  obtain ⟨sl, hL⟩ := u.any ho I.free (by simp)
  exact I.step (g' := s.gens) (d' := s.drawn) (ch := []) (fun _ z => nomatch z) (fun b o _ hb _ e n => u.keep b o e n hb (by simp)) (fun b o _ hb _ e n => u.slot b o e n hb (by simp)) (fun b o _ e n => u.free b o e n (by simp)) (fun b o _ e => u.there b o e (by simp)) u.tups u.frzs u.tbls (fun m' hm => by
    obtain ⟨o', es', ep', ho', r'⟩ := hm
    rw [ho] at ho'; cases ho'
    exact ⟨_, es', ep', hL, r'⟩) hok I.bare
/-- behind a call (or a comprehension's block): the slots of this frame may have changed too, the records at ch may have turned -/
theorem Inv.call {g' : Array GenState} {t' : Nat} {d' : Drawn} {ch : List Addr} (I : Inv X pins σ H s) (u : Un (frs X.stack) ch H H' s.heap h') (hok : HOk X.prog X.w H' h') (hg : AllBare g')
    (hch : ∀ b ∈ ch, (b ∈ X.ex ∨ X.s₀.heap.objs.size ≤ b) ∧ b ≠ X.env.locals ∧ (∀ x c, X.env.cells.lookup x = some c → c ≠ b) ∧ ∀ p ∈ X.pn ++ pins, p.1 ≠ b) :
    Inv X pins σ H' { s with heap := h', gens := g', drawn := d', toks := t' } := by
  obtain ⟨m, ⟨o, es, ep, ho, r⟩, _⟩ := id I.loc
  obtain ⟨sl, hL⟩ := u.any ho I.free fun z => (hch _ z).2.1 rfl
  exact I.step (ch := ch) hch (fun b o hL hb hc e n => u.keep b o e n (fun z => (List.mem_cons.mp (I.stkSub b z)).elim hL hb) hc) (fun b o _ _ hc e n => u.any e n hc) (fun b o hc e n => u.free b o e n hc) (fun b o hc e => u.there b o e hc) u.tups u.frzs u.tbls (fun m' hm => by
    obtain ⟨o', es', ep', ho', r'⟩ := hm
    rw [ho] at ho'; cases ho'
    exact ⟨_, es', ep', hL, r'⟩) hok hg
/-- an untracked record of ours (an iterator) has turned -/
theorem Inv.turned {t' : Nat} {it : Addr} (I : Inv X pins σ H s) (k : ∀ b o, b ≠ it → s.heap.get? b = some o → h'.get? b = some o) (hn : H it = none) (hL : it ≠ X.env.locals)
    (h1 : it ∈ X.ex ∨ X.s₀.heap.objs.size ≤ it) (h2 : ∀ x c, X.env.cells.lookup x = some c → c ≠ it) (h3 : ∀ p ∈ X.pn ++ pins, p.1 ≠ it) : Inv X pins σ H { s with heap := h', toks := t' } := by
  have nit : ∀ b u, H b = some u → b ≠ it := fun b u e z => by rw [z, hn] at e; cases e
  refine I.step (g' := s.gens) (d' := s.drawn) (ch := [it]) (fun b hb => ?_) (fun b o _ _ hc e _ => k b o (fun z => hc (by simp [z])) e) (fun b o _ _ hc e _ => ⟨o.slots, k b o (fun z => hc (by simp [z])) e⟩) (fun _ _ _ _ n => n)
    (fun b o hc e => ⟨o, k b o (fun z => hc (by simp [z])) e⟩) (fun _ _ e => e) (fun _ _ _ e => e) (fun b ps e => ⟨#[], by rw [e]; simp⟩) (fun m hm => ?_) (fun b u e => ?_) I.bare
  · have e : b = it := by simpa using hb
    subst e
    exact ⟨h1, hL, h2, h3⟩
  · obtain ⟨o, es, ep, ho, r⟩ := hm
    exact ⟨o, es, ep, k _ o (Ne.symm hL) ho, r⟩
  · refine (I.hok b u e).stay (fun c v hc q => k c v ?_ q) (fun _ q => q) fun _ _ q => q
    rcases hc with z | z
    · rw [z]; exact nit b u e
    · exact nit c _ z
theorem Inv.tok (I : Inv X pins σ H s) (t : Nat) : Inv X pins σ H { s with toks := t } := I.un (h' := s.heap) (t' := t) Un.refl I.hok
/-- all objects kept -/
theorem Inv.kept {t' : Nat} (I : Inv X pins σ H s) (k : ∀ b u, s.heap.get? b = some u → h'.get? b = some u) : Inv X pins σ H { s with heap := h', toks := t' } := I.un (Un.kept k) (I.hok.kept k)
/-- a new object laid and tracked -/
theorem Inv.laid {a : Addr} {o : HO} {t' : Nat} (I : Inv X pins σ H s) (k : ∀ b u, s.heap.get? b = some u → h'.get? b = some u) (hp : s.heap.objs.size ≤ a) (new : ObjOk X.prog X.w (upd H a o) h' a o) :
    Inv X pins σ (upd H a o) { s with heap := h', toks := t' } := I.un (Un.laid k hp (I.hok.fresh hp)) (I.hok.laid k hp new)
/-- an object written -/
theorem Inv.write {x e : Addr} {o : HO} {t' : Nat} (I : Inv X pins σ H s) (mu : Mut (H x)) (he : e = x ∨ H e = some (.own x)) (k : ∀ b u, b ≠ e → s.heap.get? b = some u → h'.get? b = some u) (heo : ∃ u, h'.get? e = some u)
    (new : ObjOk X.prog X.w (upd H x o) h' x o) : Inv X pins σ (upd H x o) { s with heap := h', toks := t' } := I.un (Un.write mu he k heo) (I.hok.write mu he k heo new)
/-- forgetting slots, pins -/
theorem Inv.weak {σ' : List (Option V)} (I : Inv X pins σ H s) (hl : σ'.length = σ.length) (w : ∀ (i : Nat) v, σ'[i]? = some (some v) → σ[i]? = some (some v)) : Inv X pins σ' H s :=
  ⟨I.ok, I.os, I.bare, I.base, let ⟨m, hn, hl'⟩ := I.loc; ⟨m, hn, fun i x v e1 e2 e3 => hl' i x v e1 (w i v e2) e3⟩, I.cell, I.free, I.freeC, I.pin, I.hok, hl.trans I.len⟩
theorem Inv.pins_of {pins' : List (Addr × Obj)} (I : Inv X pins σ H s) (h : ∀ p ∈ pins', s.heap.get? p.1 = some p.2 ∧ H p.1 = none ∧ p.1 ≠ X.env.locals ∧ p.1 ∉ X.fs ∧ ∀ v, p.2.data ≠ .cell v) : Inv X pins' σ H s :=
  ⟨I.ok, I.os, I.bare, I.base, I.loc, I.cell, I.free, I.freeC, fun p hp => (List.mem_append.mp hp).elim (fun z => I.pin p (List.mem_append_left _ z)) (h p), I.hok, I.len⟩

theorem nodup_ix {N : List Str} (hN : N.Nodup) {i j : Nat} {x : Str} (a : N[i]? = some x) (b : N[j]? = some x) : i = j := by
  obtain ⟨h1, e1⟩ := List.getElem?_eq_some_iff.mp a
  obtain ⟨h2, e2⟩ := List.getElem?_eq_some_iff.mp b
  exact (List.getElem_inj hN).mp (e1.trans e2.symm)

/-- a name is stored; what changed -/
theorem store_ok2 {M : Model} {A : Around} {E : Value → Shared → Prop} {i : Nat} {x : Str} {v : V} {u : Value} {Q : Unit → Shared → Prop} (I : Inv X pins σ H s) (hN : X.N.Nodup) (hi : X.N[i]? = some x) (hx : Loc X.env.scope x) (r : RelV v u)
    (h : ∀ s', Inv X pins (σ.set i (some v)) H s' → (∃ a, Heap.SameBut a s.heap s'.heap ∧ (a = X.env.locals ∨ X.env.cells.lookup x = some a)) → Q () s') (hf : X.fn x = true ∨ X.env.scope.names.lookup x = some .local := by first | exact .inl rfl | exact .inr rfl | assumption) : wpAny M A (storeName X.env x u) Q E s := by
  obtain ⟨m, hn, hl⟩ := id I.loc
  have hcls : (X.env.scope.kind == .class || (X.env.scope.kind == .module && X.env.locals != X.env.globals)) = false := by rw [I.ok.kind]; rfl
  have hiσ : i < σ.length := by rw [I.len]; exact (List.getElem?_eq_some_iff.mp hi).1
  have cne := I.cne
  have tracked : ∀ {a : Addr} {h' : Heap}, (∃ o, s.heap.get? a = some o ∧ H a = none) → Heap.SameBut a s.heap h' → HOk X.prog X.w H h' := fun {a h'} ha hs b ob e => by
    obtain ⟨_, _, hfree⟩ := ha
    refine (I.hok b ob e).stay (fun c w' hc q => (hs.2 c ?_).trans q) (fun _ q => q) fun _ _ q => q
    rintro rfl
    rcases hc with rfl | hc
    · rw [hfree] at e; cases e
    · rw [hfree] at hc; cases hc
  rcases hx with hk | hk
  · refine wpAny_storeName_local hk hn (fun h' hn' hs => ?_) hcls
    obtain ⟨oL, _, _, hoL, _⟩ := id hn
    refine h _ ⟨I.ok, I.os, I.bare, ⟨fun b o e n hb hx => ?_, fun b o e n hb hx => ?_, I.base.free, fun b o e hx => ?_, I.base.tups, I.base.frzs, I.base.tbls⟩, ⟨_, hn', fun j y v' e1 e2 e3 => ?_⟩, fun y c e => ?_, I.free, I.freeC, fun p hp => ?_, tracked ⟨oL, hoL, I.free⟩ hs, by simpa using I.len⟩ ⟨_, hs, .inl rfl⟩
    · exact (hs.2 b (Nat.ne_of_lt (Nat.lt_of_lt_of_le (Heap.lt_size e) I.ok.above))).trans (I.base.keep b o e n hb hx)
    · obtain ⟨sl, e1⟩ := I.base.slot b o e n hb hx
      exact ⟨sl, (hs.2 b (Nat.ne_of_lt (Nat.lt_of_lt_of_le (Heap.lt_size e) I.ok.above))).trans e1⟩
    · obtain ⟨o', e1⟩ := I.base.there b o e hx
      exact ⟨o', (hs.2 b (Nat.ne_of_lt (Nat.lt_of_lt_of_le (Heap.lt_size e) I.ok.above))).trans e1⟩
    · by_cases hj : j = i
      · subst hj
        rw [hi] at e1; cases e1
        rw [List.getElem?_set_self hiσ] at e2
        cases e2
        exact ⟨u, r, .inl ⟨hk, by simp⟩⟩
      · rw [List.getElem?_set_ne (Ne.symm hj)] at e2
        obtain ⟨u', r', q⟩ := hl j y v' e1 e2 e3
        refine ⟨u', r', ?_⟩
        rcases q with ⟨k, e⟩ | ⟨k, c, e, z⟩
        · refine .inl ⟨k, ?_⟩
          have : y ≠ x := fun e => hj (nodup_ix hN e1 (e ▸ hi))
          simp [this, e]
        · exact .inr ⟨k, c, e, z.sameBut hs (cne y c e)⟩
    · obtain ⟨w', z⟩ := I.cell y c e
      exact ⟨w', z.sameBut hs (cne y c e)⟩
    · obtain ⟨e, n, ne, nf, d⟩ := I.pin p hp
      exact ⟨(hs.2 p.1 ne).trans e, n, ne, nf, d⟩
  · have hfn : X.fn x = true := by
      rcases hf with z | z
      · exact z
      · rw [z] at hk; cases hk
    obtain ⟨c, hc⟩ := I.ok.has x (.inl hk)
    obtain ⟨w', z⟩ := I.cell x c hc
    refine wpAny_storeName_cell I.ok.kind hk hc z (fun h' hc' hs => ?_)
    obtain ⟨oc, hoc, hocd⟩ := id z
    refine h { s with heap := h' } ⟨I.ok, I.os, I.bare, ⟨fun b o e n hb hx => ?_, fun b o e n hb hx => ?_, I.base.free, fun b o e hx => ?_, I.base.tups, I.base.frzs, I.base.tbls⟩, ⟨m, hn.sameBut hs (Ne.symm (cne x c hc)), fun j y v' e1 e2 e3 => ?_⟩, fun y c' e => ?_, I.free, I.freeC, fun p hp => ?_, tracked ⟨oc, hoc, I.freeC x c hc⟩ hs, by simpa using I.len⟩ ⟨c, hs, .inr hc⟩
    · exact (hs.2 b (Nat.ne_of_lt (Nat.lt_of_lt_of_le (Heap.lt_size e) (I.ok.cab x c hfn hc)))).trans (I.base.keep b o e n hb hx)
    · obtain ⟨sl, e1⟩ := I.base.slot b o e n hb hx
      exact ⟨sl, (hs.2 b (Nat.ne_of_lt (Nat.lt_of_lt_of_le (Heap.lt_size e) (I.ok.cab x c hfn hc)))).trans e1⟩
    · obtain ⟨o', e1⟩ := I.base.there b o e hx
      exact ⟨o', (hs.2 b (Nat.ne_of_lt (Nat.lt_of_lt_of_le (Heap.lt_size e) (I.ok.cab x c hfn hc)))).trans e1⟩
    · by_cases hj : j = i
      · subst hj
        rw [hi] at e1; cases e1
        rw [List.getElem?_set_self hiσ] at e2
        cases e2
        exact ⟨u, r, .inr ⟨.inl hk, c, hc, hc'⟩⟩
      · rw [List.getElem?_set_ne (Ne.symm hj)] at e2
        obtain ⟨u', r', q⟩ := hl j y v' e1 e2 e3
        refine ⟨u', r', ?_⟩
        rcases q with q | ⟨k, c', e, z'⟩
        · exact .inl q
        · refine .inr ⟨k, c', e, z'.sameBut hs ?_⟩
          rintro rfl
          exact hj (nodup_ix hN e1 (I.ok.inj _ _ _ e hc ▸ hi))
    · by_cases hcc : c' = c
      · subst hcc; exact ⟨_, hc'⟩
      · obtain ⟨w2, z2⟩ := I.cell y c' e
        exact ⟨w2, z2.sameBut hs hcc⟩
    · obtain ⟨e, n, ne, nf, d⟩ := I.pin p hp
      refine ⟨(hs.2 p.1 ?_).trans e, n, ne, nf, d⟩
      intro q
      rw [q, hoc] at e
      have q' : oc = p.2 := Option.some.inj e
      exact d w' (by rw [← q']; exact hocd)
theorem store_ok {M : Model} {A : Around} {E : Value → Shared → Prop} {i : Nat} {x : Str} {v : V} {u : Value} {Q : Unit → Shared → Prop} (I : Inv X pins σ H s) (hN : X.N.Nodup) (hi : X.N[i]? = some x) (hx : Loc X.env.scope x) (r : RelV v u)
    (h : ∀ s', Inv X pins (σ.set i (some v)) H s' → Q () s') (hf : X.fn x = true ∨ X.env.scope.names.lookup x = some .local := by first | exact .inl rfl | exact .inr rfl | assumption) : wpAny M A (storeName X.env x u) Q E s :=
  store_ok2 I hN hi hx r (fun s' I' _ => h s' I') hf
/-- behind a call or a block, the state as it is -/
theorem Inv.call' {s' : Shared} {ch : List Addr} (I : Inv X pins σ H s) (ho : s'.os = s.os) (u : Un (frs X.stack) ch H H' s.heap s'.heap) (hok : HOk X.prog X.w H' s'.heap) (hg : AllBare s'.gens)
    (hch : ∀ b ∈ ch, (b ∈ X.ex ∨ X.s₀.heap.objs.size ≤ b) ∧ b ≠ X.env.locals ∧ (∀ x c, X.env.cells.lookup x = some c → c ≠ b) ∧ ∀ p ∈ X.pn ++ pins, p.1 ≠ b) : Inv X pins σ H' s' := by
  obtain ⟨h', g', d', t', o'⟩ := s'
  have e : o' = s.os := ho
  subst e
  exact I.call (g' := g') (t' := t') (d' := d') u hok hg hch
end

/-! ### the judgements -/
/-- an exception: its class, its own dict's address (where it has one), the abstract heap behind it -/
abbrev XK := Value → Option Addr → Hp → Prop
abbrev St := List (Option V)
abbrev VK := V → Hp → Prop
/-- an expression's reading; a test's; an argument list's -/
abbrev TE := St → Hp → VK → Prop
abbrev TT := St → Hp → (Bool → Hp → Prop) → Prop
abbrev TA := St → Hp → (List V → Hp → Prop) → Prop
/-- what is wanted behind a statement -/
structure Ends where
  nx : St → Hp → Prop
  rt : VK
  bk : St → Hp → Prop := fun _ _ => False
  ct : St → Hp → Prop := fun _ _ => False
abbrev TS := Ends → St → Hp → Prop

def EP (X : Cx) (pins : List (Addr × Obj)) (σ : St) (Q : VK) (u : Value) (s' : Shared) : Prop := ∃ v H', Inv X pins σ H' s' ∧ RelV v u ∧ Q v H'
def TP (X : Cx) (pins : List (Addr × Obj)) (σ : St) (Q : Bool → Hp → Prop) (b : Bool) (s' : Shared) : Prop := ∃ H', Inv X pins σ H' s' ∧ Q b H'
def AP (X : Cx) (pins : List (Addr × Obj)) (σ : St) (Q : List V → Hp → Prop) (us : List Value) (s' : Shared) : Prop := ∃ vs H', Inv X pins σ H' s' ∧ Vals vs us ∧ Q vs H'
def SP (X : Cx) (pins : List (Addr × Obj)) (D : Ends) (f : Flow) (s' : Shared) : Prop :=
  match f with
  | .next => ∃ σ' H', Inv X pins σ' H' s' ∧ D.nx σ' H'
  | .brk => ∃ σ' H', Inv X pins σ' H' s' ∧ D.bk σ' H'
  | .cont => ∃ σ' H', Inv X pins σ' H' s' ∧ D.ct σ' H'
  | .ret u => ∃ v σ' H', Inv X pins σ' H' s' ∧ RelV v u ∧ D.rt v H'

def PE (X : Cx) (e : Expr) (t : TE) : Prop :=
  ∀ (pins : List (Addr × Obj)) (s : Shared) (σ : St) (H : Hp) (Q : VK), Inv X pins σ H s → t σ H Q → wpAny (model X.prog X.w) X.A (eval e X.env) (EP X pins σ Q) X.xe s
def PT (X : Cx) (e : Expr) (t : TT) : Prop :=
  ∀ (pins : List (Addr × Obj)) (s : Shared) (σ : St) (H : Hp) (Q : Bool → Hp → Prop), Inv X pins σ H s → t σ H Q → wpAny (model X.prog X.w) X.A (isTrue e X.env (eval e X.env)) (TP X pins σ Q) X.xe s
/-- a test whatever its 'whole' is (and, or) -/
def PW (X : Cx) (e : Expr) (t : TT) : Prop :=
  ∀ (whole : Sem Value) (pins : List (Addr × Obj)) (s : Shared) (σ : St) (H : Hp) (Q : Bool → Hp → Prop), Inv X pins σ H s → t σ H Q → wpAny (model X.prog X.w) X.A (isTrue e X.env whole) (TP X pins σ Q) X.xe s
theorem PW.pt {X : Cx} {e : Expr} {t : TT} (h : PW X e t) : PT X e t := h _
/-- an argument list (no star), from the left -/
def PA (X : Cx) (es : List Expr) (t : TA) : Prop :=
  ∀ (pos : Pos) (pins : List (Addr × Obj)) (s : Shared) (σ : St) (H : Hp) (Q : List V → Hp → Prop), Inv X pins σ H s → t σ H Q → wpAny (model X.prog X.w) X.A (spliced (backTo pos (starEach es X.env))) (AP X pins σ Q) X.xe s
def PS (X : Cx) (st : Stmt) (t : TS) : Prop :=
  ∀ (pins : List (Addr × Obj)) (s : Shared) (σ : St) (H : Hp) (D : Ends), Inv X pins σ H s → t D σ H → wpAny (model X.prog X.w) X.A (exec st X.env) (SP X pins D) X.xe s
def PSs (X : Cx) (st : List Stmt) (t : TS) : Prop :=
  ∀ (pins : List (Addr × Obj)) (s : Shared) (σ : St) (H : Hp) (D : Ends), Inv X pins σ H s → t D σ H → wpAny (model X.prog X.w) X.A (execs st X.env) (SP X pins D) X.xe s
/-- weaken the end -/
theorem thn {α : Type} {t : Sem α} {Q Q' : α → Shared → Prop} {M : Model} {A : Around} {E : Value → Shared → Prop} {s : Shared} (h : wpAny M A t Q E s) (hQ : ∀ a s, Q a s → Q' a s) : wpAny M A t Q' E s := wpAny_mono h hQ fun _ _ x => x
end L2

namespace L2
open PySem PySem.Spec PyProof.Rows
section
variable {X : Cx}

/-- two expressions in a row -/
theorem bin {a b : Expr} {ta tb : TE} (ha : PE X a ta) (hb : PE X b tb) {pins : List (Addr × Obj)} {s : Shared} {σ : St} {H : Hp} {R : V → V → Hp → Prop} (I : Inv X pins σ H s) (h : ta σ H fun x H1 => tb σ H1 fun y H2 => R x y H2)
    {α : Type} {Q : α → Shared → Prop} {f : Value → Value → Sem α}
    (hf : ∀ v u s2 x y H2, Inv X pins σ H2 s2 → RelV x v → RelV y u → R x y H2 → wpAny (model X.prog X.w) X.A (f v u) Q X.xe s2) :
    wpAny (model X.prog X.w) X.A (eval a X.env) (fun v s₁ => wpAny (model X.prog X.w) X.A (eval b X.env) (fun u s₂ => wpAny (model X.prog X.w) X.A (f v u) Q X.xe s₂) X.xe s₁) X.xe s := by
  refine thn (ha pins s σ H _ I h) fun v s1 ⟨x, H1, I1, r1, q1⟩ => ?_
  refine thn (hb pins s1 σ H1 _ I1 q1) fun u s2 ⟨y, H2, I2, r2, q2⟩ => ?_
  exact hf v u s2 x y H2 I2 r1 r2 q2

/-! ### names and constants -/
def tVar (i : Nat) : TE := fun σ H Q => ∃ v, σ[i]? = some (some v) ∧ Q v H
def tC (v : V) : TE := fun _ H Q => Q v H
theorem pe_var {i : Nat} {x : Str} {pos : Pos} (hN : X.N[i]? = some x) (hv : Vis X.env.scope x) (hd : (x == ("__debug__" : Str)) = false := by decide) (hcd : (x == ("__classdict__" : Str)) = false := by decide) : PE X (.Name x pos) (tVar i) := by
  intro pins s σ H Q I h
  obtain ⟨v, e, h⟩ := h
  obtain ⟨m, hn, hl⟩ := I.loc
  obtain ⟨u, r, l⟩ := hl i x v hN e hv
  have fin : EP X pins σ Q u s := ⟨v, H, I, r, h⟩
  rcases l with ⟨hk, hm⟩ | ⟨hk, c, hc, hcell⟩
  · exact wpAny_Name (wpAny_loadName_local I.ok.kind hk hn hm fin) hd
  · rcases hk with hk | hk
    · exact wpAny_Name (wpAny_loadName_cell I.ok.kind hk hc hcell fin) hd
    · exact wpAny_Name (wpAny_loadName_free I.ok.kind hk hc hcell fin hcd) hd
theorem pe_int {i j pos} : PE X (.Constant (.int i) j pos) (tC (.int i)) := fun _ _ _ H _ I h => wpAny_Constant_int ⟨.int i, H, I.tok _, ⟨_, rfl⟩, h⟩
theorem pe_bl {b j pos} : PE X (.Constant (.bool b) j pos) (tC (.bl b)) := fun _ _ _ H _ I h => Constant_bool ⟨.bl b, H, I, rfl, h⟩
theorem pe_non {j pos} : PE X (.Constant .none j pos) (tC .non) := fun _ _ _ H _ I h => Constant_none ⟨.non, H, I, rfl, h⟩
theorem pe_str {x j pos} : PE X (.Constant (.str x) j pos) (tC (.str x)) := fun _ _ _ H _ I h => Calls.Constant_str ⟨.str x, H, I.tok _, ⟨_, rfl⟩, h⟩

/-- a global name of the def -/
def Gl (X : Cx) (x : Str) : Prop := X.env.kindOf x = some .globalImplicit
theorem ld_glob {E : Value → Shared → Prop} {pins : List (Addr × Obj)} {s : Shared} {σ : St} {H : Hp} {x : Str} {u : Value} {pos : Pos} {Q : Value → Shared → Prop} (I : Inv X pins σ H s) (hg : Gl X x) (hm : X.mg x = some u) (h : Q u s)
    (hd : (x == ("__debug__" : Str)) = false := by decide) : wpAny (model X.prog X.w) X.A (eval (.Name x pos) X.env) Q E s :=
  Calls.Name_function_global I.ok.kind hg (Calls.loadGlobal_global (by rw [I.ok.glob]; exact I.mod.glob.keeps I.bk) hm h) hd
theorem ld_blt {E : Value → Shared → Prop} {pins : List (Addr × Obj)} {s : Shared} {σ : St} {H : Hp} {x : Str} {u : Value} {pos : Pos} {Q : Value → Shared → Prop} (I : Inv X pins σ H s) (hg : Gl X x) (hm : X.mg x = none) (hv : bootBuiltins x = some u) (h : Q u s)
    (hn : x ≠ "__name__" := by decide) (hd : (x == ("__debug__" : Str)) = false := by decide) : wpAny (model X.prog X.w) X.A (eval (.Name x pos) X.env) Q E s := by
  obtain ⟨mb, h1, h2⟩ := I.mod.blt
  exact Calls.Name_function_global I.ok.kind hg (Calls.loadGlobal_builtin (by rw [I.ok.glob]; exact I.mod.glob.keeps I.bk) hm (by rw [I.ok.blt]; exact h1.keeps I.bk) ((h2 x hn).trans hv) h) hd
/-- a module's constant, a class, a function, as a value -/
theorem pe_glob {x : Str} {v : V} {u : Value} {pos : Pos} (hg : Gl X x) (hm : X.mg x = some u) (r : RelV v u) (hd : (x == ("__debug__" : Str)) = false := by decide) : PE X (.Name x pos) (tC v) :=
  fun _ _ _ H _ I h => ld_glob I hg hm ⟨v, H, I, r, h⟩ hd
theorem pe_bltn {x : Str} {v : V} {u : Value} {pos : Pos} (hg : Gl X x) (hm : X.mg x = none) (hv : bootBuiltins x = some u) (r : RelV v u) (hn : x ≠ "__name__" := by decide) (hd : (x == ("__debug__" : Str)) = false := by decide) : PE X (.Name x pos) (tC v) :=
  fun _ _ _ H _ I h => ld_blt I hg hm hv ⟨v, H, I, r, h⟩ hn hd

/-! ### arithmetic -/
/-- two ints -/
def t2I (ta tb : TE) (k : Int → Int → Hp → Prop) : St → Hp → Prop := fun σ H => ta σ H fun x H1 => tb σ H1 fun y H2 => ∃ i j, x = .int i ∧ y = .int j ∧ k i j H2
def tAdd (ta tb : TE) : TE := fun σ H Q => t2I ta tb (fun i j H2 => Q (.int (i + j)) H2) σ H
def tSub (ta tb : TE) : TE := fun σ H Q => t2I ta tb (fun i j H2 => Q (.int (i - j)) H2) σ H
/-- the left factor below 2^64 -/
def tMul (ta tb : TE) : TE := fun σ H Q => t2I ta tb (fun i j H2 => (-(2 ^ 64) < i ∧ i < 2 ^ 64) ∧ Q (.int (i * j)) H2) σ H
variable {a b : Expr} {ta tb : TE} {pos : Pos}
theorem pe_add (ha : PE X a ta) (hb : PE X b tb) : PE X (.BinOp a .Add b pos) (tAdd ta tb) := by
  intro pins s σ H Q I h
  refine wpAny_BinOp (bin ha hb I h fun v u s2 x y H2 I2 rx ry q => ?_)
  obtain ⟨i, j, rfl, rfl, q⟩ := q
  obtain ⟨t, rfl⟩ := rx
  obtain ⟨t', rfl⟩ := ry
  exact add_int ⟨.int _, H2, I2.tok _, ⟨_, rfl⟩, q⟩
theorem pe_sub (ha : PE X a ta) (hb : PE X b tb) : PE X (.BinOp a .Sub b pos) (tSub ta tb) := by
  intro pins s σ H Q I h
  refine wpAny_BinOp (bin ha hb I h fun v u s2 x y H2 I2 rx ry q => ?_)
  obtain ⟨i, j, rfl, rfl, q⟩ := q
  obtain ⟨t, rfl⟩ := rx
  obtain ⟨t', rfl⟩ := ry
  exact sub_int ⟨.int _, H2, I2.tok _, ⟨_, rfl⟩, q⟩
theorem pe_mul (ha : PE X a ta) (hb : PE X b tb) : PE X (.BinOp a .Mult b pos) (tMul ta tb) := by
  intro pins s σ H Q I h
  refine wpAny_BinOp (bin ha hb I h fun v u s2 x y H2 I2 rx ry q => ?_)
  obtain ⟨i, j, rfl, rfl, ⟨q1, q2⟩, q⟩ := q
  obtain ⟨t, rfl⟩ := rx
  obtain ⟨t', rfl⟩ := ry
  exact mul_int ⟨.int _, H2, I2.tok _, ⟨_, rfl⟩, q⟩ (.of_left (intBits_le_64 q1 q2))

/-! ### comparisons -/
def PC (X : Cx) (op : CmpOp) (a b : Expr) (t : TE) : Prop :=
  ∀ (pins : List (Addr × Obj)) (s : Shared) (σ : St) (H : Hp) (Q : VK), Inv X pins σ H s → t σ H Q →
    wpAny (model X.prog X.w) X.A (eval a X.env) (fun v s₁ => wpAny (model X.prog X.w) X.A (eval b X.env) (fun u s₂ => wpAny (model X.prog X.w) X.A (compareOp op v u) (EP X pins σ Q) X.xe s₂) X.xe s₁) X.xe s
theorem nobehind (b : Expr) {op : CmpOp} (h : op ≠ .In) (h2 : op ≠ .NotIn) : behindInMarks op b = false := by
  have e1 : (op == CmpOp.In) = false := by cases op <;> first | rfl | exact absurd rfl h
  have e2 : (op == CmpOp.NotIn) = false := by cases op <;> first | rfl | exact absurd rfl h2
  cases b <;> simp [behindInMarks, e1, e2]
def tCmp (p : Int → Int → Bool) (ta tb : TE) : TE := fun σ H Q => t2I ta tb (fun i j H2 => Q (.bl (p i j)) H2) σ H
abbrev tLt : TE → TE → TE := tCmp fun i j => decide (i < j)
abbrev tLe : TE → TE → TE := tCmp fun i j => decide (i ≤ j)
abbrev tGt : TE → TE → TE := tCmp fun i j => decide (j < i)
abbrev tGe : TE → TE → TE := tCmp fun i j => decide (j ≤ i)
abbrev tEqI : TE → TE → TE := tCmp fun i j => decide (i = j)
abbrev tNeI : TE → TE → TE := tCmp fun i j => !decide (i = j)
/-- a comparison of two ints, by its rule -/
theorem pc_int {op : CmpOp} {p : Int → Int → Bool} (ha : PE X a ta) (hb : PE X b tb)
    (rule : ∀ (i j : Int) (t u : Tok) (Q : Value → Shared → Prop) (s : Shared), Q (.bool (p i j)) s → wpAny (model X.prog X.w) X.A (compareOp op (.int i t) (.int j u)) Q X.xe s) : PC X op a b (tCmp p ta tb) := by
  intro pins s σ H Q I h
  refine bin ha hb I h fun v u s2 x y H2 I2 rx ry q => ?_
  obtain ⟨i, j, rfl, rfl, q⟩ := q
  obtain ⟨t, rfl⟩ := rx
  obtain ⟨t', rfl⟩ := ry
  exact rule i j t t' _ s2 ⟨.bl _, H2, I2, rfl, q⟩
theorem pc_lt (ha : PE X a ta) (hb : PE X b tb) : PC X .Lt a b (tLt ta tb) := pc_int ha hb fun _ _ _ _ _ _ h => lt_int h
theorem pc_le (ha : PE X a ta) (hb : PE X b tb) : PC X .LtE a b (tLe ta tb) := pc_int ha hb fun _ _ _ _ _ _ h => le_int h
theorem pc_gt (ha : PE X a ta) (hb : PE X b tb) : PC X .Gt a b (tGt ta tb) := pc_int ha hb fun _ _ _ _ _ _ h => gt_int h
theorem pc_ge (ha : PE X a ta) (hb : PE X b tb) : PC X .GtE a b (tGe ta tb) := pc_int ha hb fun _ _ _ _ _ _ h => ge_int h
theorem pc_eqI (ha : PE X a ta) (hb : PE X b tb) : PC X .Eq a b (tEqI ta tb) := pc_int ha hb fun _ _ _ _ _ _ h => eq_int (by rw [Bool.beq_eq_decide_eq]; exact h)
theorem pc_neI (ha : PE X a ta) (hb : PE X b tb) : PC X .NotEq a b (tNeI ta tb) := pc_int ha hb fun _ _ _ _ _ _ h => ne_int (by rw [bne, Bool.beq_eq_decide_eq]; exact h)
/-- is None -/
def tIsN (ta : TE) : TE := fun σ H Q => ta σ H fun x H1 => Q (.bl (decide (x = .non))) H1
def tNotN (ta : TE) : TE := fun σ H Q => ta σ H fun x H1 => Q (.bl (!decide (x = .non))) H1
theorem RelV.none_iff {x : V} {v : Value} (r : RelV x v) : (v == Value.none) = decide (x = .non) := by
  cases x with
  | non => cases r; rfl
  | bl _ => cases r; rfl
  | int _ => obtain ⟨t, rfl⟩ := r; rfl
  | str _ => obtain ⟨t, rfl⟩ := r; rfl
  | byt _ => obtain ⟨t, rfl⟩ := r; rfl
  | flt _ => obtain ⟨t, rfl⟩ := r; rfl
  | ref _ => cases r; rfl
  | ty _ => cases r; rfl
theorem pc_isN {j pos'} (ha : PE X a ta) : PC X .Is a (.Constant .none j pos') (tIsN ta) := by
  intro pins s σ H Q I h
  refine thn (ha pins s σ H _ I h) fun v s1 ⟨x, H1, I1, r1, q1⟩ => ?_
  exact Constant_none (is_none_gen ⟨.bl _, H1, I1, by rw [r1.none_iff]; rfl, q1⟩)
theorem pc_notN {j pos'} (ha : PE X a ta) : PC X .IsNot a (.Constant .none j pos') (tNotN ta) := by
  intro pins s σ H Q I h
  refine thn (ha pins s σ H _ I h) fun v s1 ⟨x, H1, I1, r1, q1⟩ => ?_
  exact Constant_none (isnot_none_gen ⟨.bl _, H1, I1, by rw [r1.none_iff]; rfl, q1⟩)
/-- a comparison as a value, as a test -/
def tB (t : TE) : TT := fun σ H Q => t σ H fun x H1 => ∃ c, x = .bl c ∧ Q c H1
theorem pe_cmp {op : CmpOp} {t : TE} (h : PC X op a b t) (h1 : behindInMarks op b = false := by first | exact nobehind _ (by decide) (by decide) | rfl) : PE X (.Compare a [op] [b] pos) t := fun pins s σ H Q I hw => wpAny_Compare1 (h pins s σ H Q I hw) h1
theorem pt_cmp {op : CmpOp} {t : TE} (h : PC X op a b t) (h1 : behindInMarks op b = false := by first | exact nobehind _ (by decide) (by decide) | rfl) : PT X (.Compare a [op] [b] pos) (tB t) := by
  intro pins s σ H Q I hw
  refine wpAny_isTrue_Compare1 (thn (h pins s σ H _ I hw) fun v s1 h1 => thn h1 fun u s2 h2 => thn h2 fun c s3 ⟨x, H1, I1, r1, q1⟩ => ?_) h1
  obtain ⟨d, rfl, q⟩ := q1
  cases r1
  exact wpAny_truthy_bool ⟨H1, I1, q⟩
/-- an expression whose value is a bool, as a test -/
theorem pt_val {e : Expr} {t : TE} (h : PE X e t) (he : ∀ whole, isTrue e X.env whole = (do let v ← whole; standAt e.pos; holding [v] (truthy v)) := by intro _; rfl) : PT X e (tB t) := by
  intro pins s σ H Q I hw
  refine isTrue_plain (thn (h pins s σ H _ I hw) fun v s1 ⟨x, H1, I1, r1, q1⟩ => ?_) (he _)
  obtain ⟨d, rfl, q⟩ := q1
  cases r1
  exact wpAny_truthy_bool ⟨H1, I1, q⟩

/-! ### and, or, not -/
variable {tA tB' : TT} {rest : List Expr}
def tAnd (t u : TT) : TT := fun σ H Q => t σ H fun c H1 => if c = true then u σ H1 Q else Q false H1
def tOr (t u : TT) : TT := fun σ H Q => t σ H fun c H1 => if c = true then Q true H1 else u σ H1 Q
def tNot (t : TT) : TT := fun σ H Q => t σ H fun c H1 => Q (!c) H1
theorem pw_and1 (ha : PT X a tA) : PW X (.BoolOp .And [a] pos) tA := by
  intro wh pins s σ H Q I h
  refine isTrue_and (thn (ha pins s σ H Q I h) fun c s1 e => ?_)
  cases c with
  | true => exact isTrue_and_nil e
  | false => exact e
theorem pw_or1 (ha : PT X a tA) : PW X (.BoolOp .Or [a] pos) tA := by
  intro wh pins s σ H Q I h
  refine isTrue_or (thn (ha pins s σ H Q I h) fun c s1 e => ?_)
  cases c with
  | false => exact isTrue_or_nil e
  | true => exact e
theorem pw_and (ha : PT X a tA) (hb : PW X (.BoolOp .And (b :: rest) pos) tB') : PW X (.BoolOp .And (a :: b :: rest) pos) (tAnd tA tB') := by
  intro wh pins s σ H Q I h
  refine isTrue_and (thn (ha pins s σ H _ I h) fun c s1 ⟨H1, I1, q1⟩ => ?_)
  cases c with
  | true => exact hb wh pins s1 σ H1 Q I1 q1
  | false => exact ⟨H1, I1, q1⟩
theorem pw_or (ha : PT X a tA) (hb : PW X (.BoolOp .Or (b :: rest) pos) tB') : PW X (.BoolOp .Or (a :: b :: rest) pos) (tOr tA tB') := by
  intro wh pins s σ H Q I h
  refine isTrue_or (thn (ha pins s σ H _ I h) fun c s1 ⟨H1, I1, q1⟩ => ?_)
  cases c with
  | true => exact ⟨H1, I1, q1⟩
  | false => exact hb wh pins s1 σ H1 Q I1 q1
theorem pt_not (ha : PT X a tA) : PT X (.UnaryOp .Not a pos) (tNot tA) := by
  intro pins s σ H Q I h
  exact isTrue_not (ha pins s σ H (fun c H1 => Q (!c) H1) I h)
/-- .. as values (bools) -/
def tAndV (ta tb : TE) : TE := fun σ H Q => ta σ H fun x H1 => ∃ c, x = .bl c ∧ if c = true then tb σ H1 Q else Q (.bl false) H1
def tOrV (ta tb : TE) : TE := fun σ H Q => ta σ H fun x H1 => ∃ c, x = .bl c ∧ if c = true then Q (.bl true) H1 else tb σ H1 Q
def tNotV (ta : TE) : TE := fun σ H Q => ta σ H fun x H1 => ∃ c, x = .bl c ∧ Q (.bl (!c)) H1
theorem pe_one {op} {t : TE} (h : PE X a t) : PE X (.BoolOp op [a] pos) t := fun pins s σ H Q I hw => BoolOp_one (h pins s σ H Q I hw)
theorem pe_and (ha : PE X a ta) (hb : PE X (.BoolOp .And (b :: rest) pos) tb) : PE X (.BoolOp .And (a :: b :: rest) pos) (tAndV ta tb) := by
  intro pins s σ H Q I h
  refine BoolOp_and (thn (ha pins s σ H _ I h) fun v s1 ⟨x, H1, I1, r1, q1⟩ => ?_)
  obtain ⟨c, rfl, q1⟩ := q1
  cases r1
  refine wpAny_truthy_bool ?_
  cases c with
  | true => exact hb pins s1 σ H1 Q I1 q1
  | false => exact ⟨.bl false, H1, I1, rfl, q1⟩
theorem pe_or (ha : PE X a ta) (hb : PE X (.BoolOp .Or (b :: rest) pos) tb) : PE X (.BoolOp .Or (a :: b :: rest) pos) (tOrV ta tb) := by
  intro pins s σ H Q I h
  refine BoolOp_or (thn (ha pins s σ H _ I h) fun v s1 ⟨x, H1, I1, r1, q1⟩ => ?_)
  obtain ⟨c, rfl, q1⟩ := q1
  cases r1
  refine wpAny_truthy_bool ?_
  cases c with
  | false => exact hb pins s1 σ H1 Q I1 q1
  | true => exact ⟨.bl true, H1, I1, rfl, q1⟩
theorem pe_not (ha : PE X a ta) : PE X (.UnaryOp .Not a pos) (tNotV ta) := by
  intro pins s σ H Q I h
  refine UnaryOp_ (thn (ha pins s σ H _ I h) fun v s1 ⟨x, H1, I1, r1, q1⟩ => ?_)
  obtain ⟨c, rfl, q1⟩ := q1
  cases r1
  exact not_of (wpAny_truthy_bool ⟨.bl (!c), H1, I1, rfl, q1⟩)
/-- a if t else b -/
def tIf (t : TT) (ta tb : TE) : TE := fun σ H Q => t σ H fun c H1 => if c = true then ta σ H1 Q else tb σ H1 Q
theorem pe_ifExp {c : Expr} (hc : PT X c tA) (ha : PE X a ta) (hb : PE X b tb) : PE X (.IfExp c a b pos) (tIf tA ta tb) := by
  intro pins s σ H Q I h
  refine wpAny_IfExp (thn (hc pins s σ H _ I h) fun d s1 ⟨H1, I1, q1⟩ => ?_)
  cases d with
  | true => exact ha pins s1 σ H1 Q I1 q1
  | false => exact hb pins s1 σ H1 Q I1 q1
end
end L2

namespace L2
open PySem PySem.Spec PyProof.Rows

/-! ### a list, a tuple that is read: tracked, frozen, or an object of the module -/
def SqL (K : PySem.W.Frag) (H : Hp) (a : Addr) (xs : List V) : Prop :=
  Rd H a (.lst xs) ∨
    ∃ (o : Obj) (its : Array Value) (n : Nat), K.lookup a = some o ∧ o.cls = .type "list" ∧ o.dict = none ∧ o.data = .seq its n ∧ its.size ≤ sizeLine ∧ Vals xs its.toList
def SqT (K : PySem.W.Frag) (H : Hp) (a : Addr) (xs : List V) : Prop :=
  Rd H a (.tup xs) ∨
    ∃ (o : Obj) (its : Array Value) (n : Nat), K.lookup a = some o ∧ o.cls = .type "tuple" ∧ o.data = .seq its n ∧ its.size ≤ sizeLine ∧ Vals xs its.toList
def absV : Value → Option V
  | .none => some .non
  | .bool b => some (.bl b)
  | .int i _ => some (.int i)
  | .str x _ => some (.str x)
  | .bytes b _ => some (.byt b)
  | .float b _ => some (.flt b)
  | .ref a => some (.ref a)
  | .type n => some (.ty n)
  | _ => none
theorem RelV.abs {x : V} {u : Value} (r : RelV x u) : absV u = some x := by
  cases x with
  | non => cases r; rfl
  | bl _ => cases r; rfl
  | int _ => obtain ⟨t, rfl⟩ := r; rfl
  | str _ => obtain ⟨t, rfl⟩ := r; rfl
  | byt _ => obtain ⟨t, rfl⟩ := r; rfl
  | flt _ => obtain ⟨t, rfl⟩ := r; rfl
  | ref _ => cases r; rfl
  | ty _ => cases r; rfl
theorem RelV.inj {x y : V} {u : Value} (r : RelV x u) (q : RelV y u) : x = y := Option.some.inj (r.abs.symm.trans q.abs)
theorem Vals.inj : ∀ {xs ys : List V} {us : List Value}, Vals xs us → Vals ys us → xs = ys
  | _, _, _, .nil, .nil => rfl
  | _, _, _, .cons r t, .cons r' t' => by rw [r.inj r', Vals.inj t t']
section
variable {X : Cx} {pins : List (Addr × Obj)} {σ : St} {H : Hp} {s : Shared} {a : Addr} {xs ys : List V}
theorem SqL.of {K : PySem.W.Frag} (h : H a = some (.lst xs)) : SqL K H a xs := .inl (.inl h)
theorem SqT.of {K : PySem.W.Frag} (h : H a = some (.tup xs)) : SqT K H a xs := .inl (.inl h)
theorem Inv.list (I : Inv X pins σ H s) (h : SqL X.K H a xs) : ∃ its : List Value, Vals xs its ∧ PlainL s.heap a its.toArray ∧ xs.length ≤ sizeLine := by
  rcases h with h | ⟨o, its, n, hk, hc, hd, hs, hz, r⟩
  · obtain ⟨z, its, n, r, e⟩ := h.ok I.hok
    exact ⟨its, r, ⟨_, n, e, rfl, rfl, rfl⟩, z⟩
  · refine ⟨its.toList, r, ⟨o, n, I.kIn a o hk, hc, hd, by simpa using hs⟩, ?_⟩
    have e := r.length
    simp only [Array.length_toList] at e
    omega
theorem Inv.tuple (I : Inv X pins σ H s) (h : SqT X.K H a xs) : ∃ its : List Value, Vals xs its ∧ IsTup s.heap a its.toArray ∧ xs.length ≤ sizeLine := by
  rcases h with h | ⟨o, its, n, hk, hc, hs, hz, r⟩
  · obtain ⟨z, its, r, p⟩ := h.ok I.hok
    exact ⟨its, r, p, z⟩
  · refine ⟨its.toList, r, ⟨o, I.kIn a o hk, hc, n, by simpa using hs⟩, ?_⟩
    have e := r.length
    simp only [Array.length_toList] at e
    omega
theorem Inv.list_inj (I : Inv X pins σ H s) (h : SqL X.K H a xs) (h' : SqL X.K H a ys) : xs = ys := by
  obtain ⟨its, r, ⟨o, n, e, _, _, d⟩, _⟩ := I.list h
  obtain ⟨its', r', ⟨o', n', e', _, _, d'⟩, _⟩ := I.list h'
  rw [e] at e'; cases e'
  rw [d] at d'
  injection d' with d1 _
  have : its = its' := by simpa using congrArg Array.toList d1
  subst this
  exact r.inj r'
theorem Inv.tuple_inj (I : Inv X pins σ H s) (h : SqT X.K H a xs) (h' : SqT X.K H a ys) : xs = ys := by
  obtain ⟨its, r, ⟨o, e, _, n, d⟩, _⟩ := I.tuple h
  obtain ⟨its', r', ⟨o', e', _, n', d'⟩, _⟩ := I.tuple h'
  rw [e] at e'; cases e'
  rw [d] at d'
  injection d' with d1 _
  have : its = its' := by simpa using congrArg Array.toList d1
  subst this
  exact r.inj r'
end

/-! ### another wish about exceptions -/
abbrev Cx.wish (X : Cx) (E : Value → Shared → Prop) : Cx := { X with xe := E }
/-- no exception leaves -/
abbrev Cx.nox (X : Cx) : Cx := X.wish fun _ _ => False
theorem Cx.Ok.wish {X : Cx} (ok : X.Ok) (E : Value → Shared → Prop) : (X.wish E).Ok :=
  ⟨ok.mod, ok.kind, ok.glob, ok.blt, ok.above, ok.inj, ok.has, ok.cab, ok.hd, ok.frames, ok.stk, ok.exf, ok.bs, ok.bsz, ok.noex, ok.exfs, ok.funs, ok.frf⟩
theorem Cx.Ok.unwish {X : Cx} {E : Value → Shared → Prop} (ok : (X.wish E).Ok) : X.Ok :=
  ⟨ok.mod, ok.kind, ok.glob, ok.blt, ok.above, ok.inj, ok.has, ok.cab, ok.hd, ok.frames, ok.stk, ok.exf, ok.bs, ok.bsz, ok.noex, ok.exfs, ok.funs, ok.frf⟩
section
variable {X : Cx} {pins : List (Addr × Obj)} {σ : St} {H : Hp} {s : Shared} {E : Value → Shared → Prop}
theorem Inv.wish (I : Inv X pins σ H s) (E : Value → Shared → Prop) : Inv (X.wish E) pins σ H s := ⟨I.ok.wish E, I.os, I.bare, I.base, I.loc, I.cell, I.free, I.freeC, I.pin, I.hok, I.len⟩
theorem Inv.unwish (I : Inv (X.wish E) pins σ H s) : Inv X pins σ H s := ⟨I.ok.unwish, I.os, I.bare, I.base, I.loc, I.cell, I.free, I.freeC, I.pin, I.hok, I.len⟩
theorem SP.unwish {D : Ends} {f : Flow} {s' : Shared} (h : SP (X.wish E) pins D f s') : SP X pins D f s' := by
  cases f with
  | next => obtain ⟨σ', H', I, q⟩ := h; exact ⟨σ', H', I.unwish, q⟩
  | brk => obtain ⟨σ', H', I, q⟩ := h; exact ⟨σ', H', I.unwish, q⟩
  | cont => obtain ⟨σ', H', I, q⟩ := h; exact ⟨σ', H', I.unwish, q⟩
  | ret u => obtain ⟨v, σ', H', I, r, q⟩ := h; exact ⟨v, σ', H', I.unwish, r, q⟩
theorem PE.nox {e : Expr} {t : TE} (h : PE X.nox e t) : PE X e t := fun pins s σ H Q I hw =>
  wpAny_mono (h pins s σ H Q (I.wish _) hw) (fun _ _ ⟨v, H', I', r, q⟩ => ⟨v, H', I'.unwish, r, q⟩) fun _ _ z => False.elim z
theorem PT.nox {e : Expr} {t : TT} (h : PT X.nox e t) : PT X e t := fun pins s σ H Q I hw =>
  wpAny_mono (h pins s σ H Q (I.wish _) hw) (fun _ _ ⟨H', I', q⟩ => ⟨H', I'.unwish, q⟩) fun _ _ z => False.elim z
theorem PSs.nox {st : List Stmt} {t : TS} (h : PSs X.nox st t) : PSs X st t := fun pins s σ H D I hw =>
  wpAny_mono (h pins s σ H D (I.wish _) hw) (fun _ _ q => q.unwish) fun _ _ z => False.elim z
end

/-! ### blocks and small statements -/
section
variable {X : Cx} {st : Stmt} {rest : List Stmt} {t u : TS} {e : Expr} {te : TE} {pos : Pos}
def tNext : TS := fun D σ H => D.nx σ H
def tSeq (t u : TS) : TS := fun D σ H => t { D with nx := u D } σ H
theorem pss_nil : PSs X [] tNext := fun _ _ σ H _ I h => wpAny_execs_nil ⟨σ, H, I, h⟩
theorem pss_cons (h1 : PS X st t) (h2 : PSs X rest u) : PSs X (st :: rest) (tSeq t u) := by
  intro pins s σ H D I h
  refine wpAny_execs_cons (thn (h1 pins s σ H { D with nx := u D } I h) fun f s1 q => ?_)
  cases f with
  | next =>
    obtain ⟨σ', H', I', q⟩ := q
    exact h2 pins s1 σ' H' D I' q
  | ret v => exact q
  | brk => exact q
  | cont => exact q
theorem pss_one (h1 : PS X st t) : PSs X [st] t := by
  intro pins s σ H D I h
  refine wpAny_execs_cons (thn (h1 pins s σ H D I h) fun f s1 q => ?_)
  cases f with
  | next => exact wpAny_execs_nil q
  | ret v => exact q
  | brk => exact q
  | cont => exact q
def tBreak : TS := fun D σ H => D.bk σ H
def tCont : TS := fun D σ H => D.ct σ H
theorem ps_pass : PS X (.Pass pos) tNext := fun _ _ σ H _ I h => wpAny_Pass ⟨σ, H, I, h⟩
theorem ps_break : PS X (.Break pos) tBreak := fun _ _ σ H _ I h => wpAny_Break ⟨σ, H, I, h⟩
theorem ps_continue : PS X (.Continue pos) tCont := fun _ _ σ H _ I h => wpAny_Continue ⟨σ, H, I, h⟩
/-- in a def's body nothing is shown -/
theorem Inv.quiet {pins : List (Addr × Obj)} {σ : St} {H : Hp} {s : Shared} (I : Inv X pins σ H s) : interactive X.env = false := by simp [interactive, I.ok.kind]
/-- a docstring -/
theorem ps_doc {x j pos pos'} : PS X (.Expr (.Constant (.str x) j pos) pos') tNext := fun _ s σ H _ I h => wpAny_Expr (Calls.Constant_str (show SP X _ _ .next { s with toks := s.toks + 1 } from ⟨σ, H, I.tok _, h⟩)) I.quiet
/-- an expression whose value is dropped -/
def tDrop (te : TE) : TS := fun D σ H => te σ H fun _ H1 => D.nx σ H1
theorem ps_expr (he : PE X e te) (hs : swapsWith e none pos.line X.env = pure false := by rfl) : PS X (.Expr e pos) (tDrop te) := by
  intro pins s σ H D I h
  exact wpAny_Expr_any (thn (he pins s σ H _ I h) fun v s1 ⟨x, H1, I1, r1, q1⟩ => ⟨σ, H1, I1, q1⟩) I.quiet hs
def tRet (te : TE) : TS := fun D σ H => te σ H D.rt
theorem ps_ret (he : PE X e te) : PS X (.Return (some e) pos) (tRet te) := by
  intro pins s σ H D I h
  exact wpAny_Return_some (thn (he pins s σ H _ I h) fun v s1 ⟨x, H1, I1, r1, q1⟩ => ⟨x, σ, H1, I1, r1, q1⟩)
def tRetN : TS := fun D _ H => D.rt .non H
theorem ps_retN : PS X (.Return none pos) tRetN := fun _ _ σ H _ I h => wpAny_Return_none ⟨.non, σ, H, I, rfl, h⟩
def tIfS (c : TT) (t u : TS) : TS := fun D σ H => c σ H fun b H1 => if b = true then t D σ H1 else u D σ H1
theorem ps_if {c : Expr} {a b : List Stmt} {tc : TT} (hc : PT X c tc) (ha : PSs X a t) (hb : PSs X b u) : PS X (.If c a b pos) (tIfS tc t u) := by
  intro pins s σ H D I h
  refine wpAny_If (thn (hc pins s σ H _ I h) fun d s1 ⟨H1, I1, q1⟩ => ?_)
  cases d with
  | true => exact ha pins s1 σ H1 D I1 q1
  | false => exact hb pins s1 σ H1 D I1 q1
/-- code that the proof never comes to -/
def tNever : TS := fun _ _ _ => False
theorem ps_never : PS X st tNever := fun _ _ _ _ _ _ h => h.elim
theorem pss_never {sts : List Stmt} : PSs X sts tNever := fun _ _ _ _ _ _ h => h.elim
end

/-! ### targets -/
abbrev TG := V → St → Hp → (St → Hp → Prop) → Prop
abbrev TGs := List V → St → Hp → (St → Hp → Prop) → Prop
def PG (X : Cx) (target : Expr) (t : TG) : Prop :=
  ∀ (pins : List (Addr × Obj)) (s : Shared) (σ : St) (H : Hp) (v : V) (u : Value) (Q : St → Hp → Prop), Inv X pins σ H s → RelV v u → t v σ H Q →
    wpAny (model X.prog X.w) X.A (assign target X.env u) (fun _ s' => ∃ σ' H', Inv X pins σ' H' s' ∧ Q σ' H') X.xe s
/-- several targets, one after another -/
def PGs (X : Cx) (ts : List Expr) (t : TGs) : Prop :=
  ∀ (pins : List (Addr × Obj)) (s : Shared) (σ : St) (H : Hp) (vs : List V) (us : List Value) (Q : St → Hp → Prop), Inv X pins σ H s → Vals vs us → t vs σ H Q →
    wpAny (model X.prog X.w) X.A (assignInOrder ((assignEach ts X.env).map (·.2)) us) (fun _ s' => ∃ σ' H', Inv X pins σ' H' s' ∧ Q σ' H') X.xe s
/-- o[i] = v, by values -/
abbrev TSet := V → V → V → Hp → (Hp → Prop) → Prop
def PSet (X : Cx) (t : TSet) : Prop :=
  ∀ (pins : List (Addr × Obj)) (s : Shared) (σ : St) (H : Hp) (o i v : V) (ov iv u : Value) (Q : Hp → Prop), Inv X pins σ H s → RelV o ov → RelV i iv → RelV v u → t o i v H Q →
    wpAny (model X.prog X.w) X.A (setItem ov iv u) (fun _ s' => ∃ H', Inv X pins σ H' s' ∧ Q H') X.xe s
/-- a op= b, by values -/
abbrev TIp := V → V → Hp → VK → Prop
def PIp (X : Cx) (op : Operator) (t : TIp) : Prop :=
  ∀ (pins : List (Addr × Obj)) (s : Shared) (σ : St) (H : Hp) (x y : V) (v u : Value) (Q : VK), Inv X pins σ H s → RelV x v → RelV y u → t x y H Q →
    wpAny (model X.prog X.w) X.A (inplaceOp op v u) (EP X pins σ Q) X.xe s
section
variable {X : Cx} {pos : Pos}
def gName (i : Nat) : TG := fun v σ H Q => Q (σ.set i (some v)) H
theorem pg_name {i : Nat} {x : Str} (hN : X.N.Nodup) (hi : X.N[i]? = some x) (hx : Loc X.env.scope x) (hf : X.fn x = true ∨ X.env.scope.names.lookup x = some .local := by first | exact .inl rfl | exact .inr rfl | assumption) : PG X (.Name x pos) (gName i) := by
  intro pins s σ H v u Q I r h
  exact wpAny_assign_Name (store_ok I hN hi hx r (fun s' I' => ⟨_, H, I', h⟩) hf)
def gNil : TGs := fun vs σ H Q => vs = [] ∧ Q σ H
def gCons (t : TG) (u : TGs) : TGs := fun vs σ H Q => ∃ v r, vs = v :: r ∧ t v σ H fun σ' H' => u r σ' H' Q
theorem pgs_nil : PGs X [] gNil := by
  intro pins s σ H vs us Q I r h
  obtain ⟨e, h⟩ := h
  subst e
  cases r
  exact assignInOrder_nil ⟨σ, H, I, h⟩
theorem pgs_cons {e : Expr} {es : List Expr} {t : TG} {u : TGs} (h1 : PG X e t) (h2 : PGs X es u)
    (hs : (assignEach (e :: es) X.env).map (·.2) = assign e X.env :: (assignEach es X.env).map (·.2) := by rfl) : PGs X (e :: es) (gCons t u) := by
  intro pins s σ H vs us Q I r h
  obtain ⟨v, vr, e1, h⟩ := h
  subst e1
  cases r with
  | cons r rr =>
    rw [hs]
    refine assignInOrder_cons (thn (h1 pins s σ H _ _ _ I r h) fun _ s1 ⟨σ1, H1, I1, q1⟩ => ?_)
    exact h2 pins s1 σ1 H1 _ _ Q I1 rr q1
/-- (a, b, ..) = a tuple of that length -/
def gTup (K : PySem.W.Frag) (n : Nat) (t : TGs) : TG := fun v σ H Q => ∃ a xs, v = .ref a ∧ SqT K H a xs ∧ xs.length = n ∧ t xs σ H Q
theorem pg_tup {es : List Expr} {k : Nat} {t : TGs} {n : Nat} (hc : X.calm = true) (h : PGs X es t)
    (hn : (assignEach es X.env).length = n := by rfl) (hst : (assignEach es X.env).findIdx? (·.1) = none := by rfl) : PG X (.Tuple es k pos) (gTup X.K n t) := by
  intro pins s σ H v u Q I r hw
  obtain ⟨a, xs, e1, hq, hl, hw⟩ := hw
  subst e1
  cases r
  obtain ⟨its, rv, ht, hz⟩ := I.tuple hq
  refine assign_Tuple_tuple (I.ok.hd hc) ht (by simp [hn, ← hl, rv.length]) hst fun h' hx => ?_
  have I1 : Inv X pins σ H { s with heap := h' } := I.kept (t' := s.toks) fun b o e => hx b o (Nat.ne_of_lt (Heap.lt_size e)) e
  exact h pins _ σ H xs _ Q I1 (by simpa using rv) hw
/-- o[i] = .. -/
def gSub (to ti : TE) (t : TSet) : TG := fun v σ H Q => to σ H fun o H1 => ti σ H1 fun i H2 => t o i v H2 fun H3 => Q σ H3
theorem pg_sub {o i : Expr} {to ti : TE} {t : TSet} (ho : PE X o to) (hi : PE X i ti) (hs : PSet X t)
    (ha : ∀ v, assign (.Subscript o i pos) X.env v = (do
      let ov ← holding [v] (eval o X.env)
      let iv ← holding [v, ov] (eval i X.env)
      standAt pos
      holding [v, ov, iv] (setItem ov iv v)
      release [v, ov, iv] []) := by intro _; rfl) : PG X (.Subscript o i pos) (gSub to ti t) := by
  intro pins s σ H v u Q I r h
  rw [ha]
  refine wpAny_bind (wpAny_holding (thn (ho pins s σ H _ I h) fun ov s1 ⟨x, H1, I1, r1, q1⟩ => ?_))
  refine wpAny_bind (wpAny_holding (thn (hi pins s1 σ H1 _ I1 q1) fun iv s2 ⟨y, H2, I2, r2, q2⟩ => ?_))
  refine wpAny_bind (wpAny_standAt (wpAny_bind (wpAny_holding (thn (hs pins s2 σ H2 x y v ov iv u _ I2 r1 r2 r q2) fun _ s3 ⟨H3, I3, q3⟩ => ?_))))
  exact wpAny_release ⟨σ, H3, I3, q3⟩
/-- target = value -/
def tAsg (te : TE) (g : TG) : TS := fun D σ H => te σ H fun x H1 => g x σ H1 D.nx
theorem ps_asg {tg e : Expr} {te : TE} {g : TG} (he : PE X e te) (hg : PG X tg g) (hs : swapsWithSole [tg] e pos.line X.env = pure false := by rfl) (hw : swappedStores [tg] e X.env = pure none := by rfl)
    (h1 : (assignEach [tg] X.env).map (·.2) = [assign tg X.env] := by rfl) : PS X (.Assign [tg] e pos) (tAsg te g) := by
  intro pins s σ H D I h
  refine wpAny_Assign_stores (thn (he pins s σ H _ I h) fun v s1 ⟨x, H1, I1, r1, q1⟩ => ?_) hs hw
  rw [h1]
  exact thn (hg pins s1 σ H1 x v _ I1 r1 q1) fun _ s2 q => q
/-- name = value -/
theorem ps_set {i : Nat} {x : Str} {e : Expr} {te : TE} {pos' : Pos} (hN : X.N.Nodup) (hi : X.N[i]? = some x) (hx : Loc X.env.scope x) (he : PE X e te) (hs : swapsWith e (some (.Name x pos')) pos.line X.env = pure false := by rfl) (hf : X.fn x = true ∨ X.env.scope.names.lookup x = some .local := by first | exact .inl rfl | exact .inr rfl | assumption) :
    PS X (.Assign [.Name x pos'] e pos) (tAsg te (gName i)) := by
  intro pins s σ H D I h
  refine wpAny_Assign_Name (thn (he pins s σ H _ I h) fun v s1 ⟨y, H1, I1, r1, q1⟩ => ?_) hs
  exact store_ok I1 hN hi hx r1 (fun s2 I2 => ⟨_, H1, I2, q1⟩) hf
/-- a, b = x, y with plain local names: stored from the right; the pair itself is not tracked (the opening rows as in PyProof/Rows/TupAssign.lean:23) -/
def tPar (i j : Nat) (ta : TA) : TS := fun D σ H => ta σ H fun vs H1 => ∃ v w, vs = [v, w] ∧ D.nx ((σ.set i (some v)).set j (some w)) H1
theorem ps_par {i j : Nat} {x y : Str} {a b : Expr} {ta : TA} {px py pt : Pos} {kt k2 pt2} (hc : X.calm = true) (hN : X.N.Nodup) (hi : X.N[i]? = some x) (hj : X.N[j]? = some y) (hij : i ≠ j)
    (hx : X.env.scope.names.lookup x = some .local) (hy : X.env.scope.names.lookup y = some .local) (ha : PA X [a, b] ta)
    (hw : swappedStores [.Tuple [.Name x px, .Name y py] kt pt] (.Tuple [a, b] k2 pt2) X.env = pure (some [x, y]))
    (hs : swapsWithSole [.Tuple [.Name x px, .Name y py] kt pt] (.Tuple [a, b] k2 pt2) pos.line X.env = pure false := by rfl) :
    PS X (.Assign [.Tuple [.Name x px, .Name y py] kt pt] (.Tuple [a, b] k2 pt2) pos) (tPar i j ta) := by
  intro pins s σ H D I h
  rw [exec_Assign_arm]
  refine wpAny_bind (wpAny_standAt ?_)
  rw [hs]
  refine wpAny_bind (wpAny_pure ?_)
  rw [if_neg (by decide)]
  refine wpAny_bind (Tuple_ (thn (ha _ pins s σ H _ I h) fun us s1 ⟨vs, H1, I1, r1, q1⟩ => ?_))
  obtain ⟨v, w, e1, q1⟩ := q1
  subst e1
  obtain ⟨u1, u2, rfl, rv, rw'⟩ : ∃ u1 u2, us = [u1, u2] ∧ RelV v u1 ∧ RelV w u2 := by
    cases r1 with
    | cons p q =>
      cases q with
      | cons p' q' =>
        cases q'
        exact ⟨_, _, rfl, p, p'⟩
  refine wpAny_newObj_type ?_ (by show 2 ≤ sizeLine; decide)
  have I2 : Inv X pins σ H1 { s1 with heap := s1.heap.push { cls := .type "tuple", data := .seq [u1, u2].toArray } } := I1.kept (t' := s1.toks) fun b o e => Heap.get?_push_of_some _ e
  rw [hw]
  refine wpAny_bind (wpAny_pure ?_)
  show wpAny (model X.prog X.w) X.A (do rule "assign.swapped-stores"; let items ← unpackItems (.ref s1.heap.objs.size) 2 none; assignInOrder [fun v => bindName X.env y v, fun v => bindName X.env x v] items.reverse; pure Flow.next) _ _ _
  refine wpAny_bind (wpAny_rule (wpAny_bind (unpackItems_tuple (items := #[u1, u2]) (I.ok.hd hc) (IsTup.new s1.heap _) fun h' hx' => ?_)))
  have I3 := I2.kept (h' := h') (t' := s1.toks) fun b o e => hx' b o (Nat.ne_of_lt (Heap.lt_size e)) e
  show wpAny _ _ (assignInOrder [fun v => bindName X.env y v, fun v => bindName X.env x v] [u2, u1] >>= fun _ => pure Flow.next) _ _ _
  refine wpAny_bind (assignInOrder_cons (wpAny_bindName (store_ok I3 hN hj (.inl hy) rw' (fun s2 I4 => ?_) (.inr hy))))
  refine assignInOrder_cons (wpAny_bindName (store_ok I4 hN hi (.inl hx) rv (fun s3 I5 => assignInOrder_nil (wpAny_pure ?_)) (.inr hx)))
  rw [List.set_comm _ _ (Ne.symm hij)] at I5
  exact ⟨_, H1, I5, q1⟩
/-- name op= e -/
def tAug (i : Nat) (te : TE) (ti : TIp) : TS := fun D σ H => ∃ x, σ[i]? = some (some x) ∧ te σ H fun y H1 => ti x y H1 fun z H2 => D.nx (σ.set i (some z)) H2
theorem ps_aug {i : Nat} {x : Str} {e : Expr} {te : TE} {op : Operator} {ti : TIp} {pos' : Pos} (hN : X.N.Nodup) (hi : X.N[i]? = some x) (hx : Loc X.env.scope x) (he : PE X e te) (ho : PIp X op ti) (hf : X.fn x = true ∨ X.env.scope.names.lookup x = some .local := by first | exact .inl rfl | exact .inr rfl | assumption) :
    PS X (.AugAssign (.Name x pos') op e pos) (tAug i te ti) := by
  intro pins s σ H D I h
  obtain ⟨v, e1, h⟩ := h
  obtain ⟨m, hn, hl⟩ := I.loc
  have vis : Vis X.env.scope x := by rcases hx with k | k; exact .inl k; exact .inr (.inl k)
  obtain ⟨u, r, l⟩ := hl i x v hi e1 vis
  refine wpAny_AugAssign_Name ?_
  have go : wpAny (model X.prog X.w) X.A (eval e X.env) (fun w s₂ => wpAny (model X.prog X.w) X.A (inplaceOp op u w) (fun r s₃ => wpAny (model X.prog X.w) X.A (storeName X.env x r) (fun _ => SP X pins D .next) X.xe s₃) X.xe s₂) X.xe s := by
    refine thn (he pins s σ H _ I h) fun w s1 ⟨y, H1, I1, r1, q1⟩ => ?_
    refine thn (ho pins s1 σ H1 v y u w _ I1 r r1 q1) fun z s2 ⟨zv, H2, I2, r2, q2⟩ => ?_
    exact store_ok I2 hN hi hx r2 (fun s3 I3 => ⟨_, H2, I3, q2⟩) hf
  rcases l with ⟨hk, hm⟩ | ⟨hk, c, hc, hcell⟩
  · exact wpAny_loadName_local I.ok.kind hk hn hm go
  · rcases hk with hk | hk
    · exact wpAny_loadName_cell I.ok.kind hk hc hcell go
    · rcases hx with k | k
      · have : X.env.scope.names.lookup x = some .free := hk
        rw [k] at this; cases this
      · have : X.env.scope.names.lookup x = some .free := hk
        rw [k] at this; cases this
/-- o[i] op= e -/
def tAugS (to ti te : TE) (tget : V → V → Hp → VK → Prop) (tip : TIp) (tset : TSet) : TS := fun D σ H => to σ H fun o H1 => ti σ H1 fun i H2 => tget o i H2 fun x H3 => te σ H3 fun y H4 => tip x y H4 fun z H5 => tset o i z H5 fun H6 => D.nx σ H6
/-- o[i], by values -/
def PGet (X : Cx) (t : V → V → Hp → VK → Prop) : Prop :=
  ∀ (pins : List (Addr × Obj)) (s : Shared) (σ : St) (H : Hp) (o i : V) (ov iv : Value) (Q : VK), Inv X pins σ H s → RelV o ov → RelV i iv → t o i H Q →
    wpAny (model X.prog X.w) X.A (getItem ov iv) (EP X pins σ Q) X.xe s
theorem ps_augS {o i e : Expr} {to ti te : TE} {tget : V → V → Hp → VK → Prop} {tip : TIp} {tset : TSet} {op : Operator} {tpos : Pos} (ho : PE X o to) (hi : PE X i ti) (hg : PGet X tget) (he : PE X e te) (hp : PIp X op tip) (hs : PSet X tset)
    (ha : ∀ ov iv new, augStore i ov iv new = (do holding [new, ov, iv] (setItem ov iv new); release [new, ov, iv] []; pure .next) := by intros; rfl) : PS X (.AugAssign (.Subscript o i tpos) op e pos) (tAugS to ti te tget tip tset) := by
  intro pins s σ H D I h
  refine wpAny_AugAssign_SubscriptAny (thn (ho pins s σ H _ I h) fun ov s1 ⟨x1, H1, I1, r1, q1⟩ => ?_) ha
  refine thn (hi pins s1 σ H1 _ I1 q1) fun iv s2 ⟨x2, H2, I2, r2, q2⟩ => ?_
  refine thn (hg pins s2 σ H2 x1 x2 ov iv _ I2 r1 r2 q2) fun old s3 ⟨x3, H3, I3, r3, q3⟩ => ?_
  refine thn (he pins s3 σ H3 _ I3 q3) fun v s4 ⟨x4, H4, I4, r4, q4⟩ => ?_
  refine thn (hp pins s4 σ H4 x3 x4 old v _ I4 r3 r4 q4) fun new s5 ⟨x5, H5, I5, r5, q5⟩ => ?_
  exact thn (hs pins s5 σ H5 x1 x2 x5 ov iv new _ I5 r1 r2 r5 q5) fun _ s6 ⟨H6, I6, q6⟩ => ⟨σ, H6, I6, q6⟩
/-- ints -/
def ipI (f : Int → Int → Int) : TIp := fun x y H Q => ∃ i j, x = .int i ∧ y = .int j ∧ Q (.int (f i j)) H
theorem ip_add : PIp X .Add (ipI fun i j => i + j) := by
  intro pins s σ H x y v u Q I r1 r2 h
  obtain ⟨i, j, e1, e2, q⟩ := h
  subst e1; subst e2
  obtain ⟨t, rfl⟩ := r1
  obtain ⟨t', rfl⟩ := r2
  exact iadd_int ⟨.int _, H, I.tok _, ⟨_, rfl⟩, q⟩
theorem ip_sub : PIp X .Sub (ipI fun i j => i - j) := by
  intro pins s σ H x y v u Q I r1 r2 h
  obtain ⟨i, j, e1, e2, q⟩ := h
  subst e1; subst e2
  obtain ⟨t, rfl⟩ := r1
  obtain ⟨t', rfl⟩ := r2
  exact isub_int ⟨.int _, H, I.tok _, ⟨_, rfl⟩, q⟩
end

/-! ### while -/
section
variable {X : Cx} {pos : Pos}
/-- the invariant W with its measure -/
def tWhile (c : TT) (tb : TS) : TS := fun D σ H => ∃ W : Nat → St → Hp → Prop, (∃ m, W m σ H) ∧ ∀ m σ H, W m σ H →
  c σ H fun b H1 => if b = true then ∃ N : St → Hp → Prop, (∀ σ' H', N σ' H' → ∃ m', m' < m ∧ W m' σ' H') ∧ tb { D with nx := N, ct := N, bk := D.nx } σ H1 else D.nx σ H1
theorem ps_while {c : Expr} {body : List Stmt} {tc : TT} {tb : TS} (hp : PassesOwn (model X.prog X.w) X.A X.env X.xe) (hc : PT X c tc) (hb : PSs X body tb) : PS X (.While c body [] pos) (tWhile tc tb) := by
  intro pins s σ H D I h
  obtain ⟨W, ⟨m0, w0⟩, turn⟩ := h
  refine wpAny_While (codeAny_whileLoop (fun n s' => ∃ σ' H', Inv X pins σ' H' s' ∧ W n σ' H') ?_ m0 ⟨σ, H, I, w0⟩)
  rintro n s1 ⟨σ1, H1, I1, w1⟩
  refine wpAny_passesOwn hp (thn (hc pins s1 σ1 H1 _ I1 (turn n σ1 H1 w1)) fun b s2 ⟨H2, I2, q2⟩ => ?_)
  cases b with
  | true =>
    obtain ⟨N, hN, q2⟩ := q2
    rw [if_pos rfl]
    refine wpAny_passesOwn hp (thn (hb pins s2 σ1 H2 _ I2 q2) fun f s3 q3 => ?_)
    cases f with
    | next =>
      obtain ⟨σ3, H3, I3, n3⟩ := q3
      obtain ⟨m', hm, w3⟩ := hN σ3 H3 n3
      exact ⟨m', hm, σ3, H3, I3, w3⟩
    | cont =>
      obtain ⟨σ3, H3, I3, n3⟩ := q3
      obtain ⟨m', hm, w3⟩ := hN σ3 H3 n3
      exact ⟨m', hm, σ3, H3, I3, w3⟩
    | brk => exact q3
    | ret v => exact q3
  | false =>
    rw [if_neg Bool.false_ne_true]
    exact wpAny_execs_nil ⟨σ1, H2, I2, q2⟩
end

/-! ### what a loop or a comprehension walks -/
/-- at turn i: it yields x (the heap may grow), or it stops -/
structure It where
  go : Nat → Hp → Prop
  yld : Nat → Hp → V → Hp → Prop
  stop : Nat → Hp → Prop
/-- the iterator's own objects may turn: they are not the frame's, not pinned, younger than the entry (or a comprehension's own) -/
def FpOk (X : Cx) (pins : List (Addr × Obj)) (H : Hp) (b : Addr) : Prop :=
  H b = none ∧ b ≠ X.env.locals ∧ b ∉ X.fs ∧ (b ∈ X.ex ∨ X.s₀.heap.objs.size ≤ b) ∧ (∀ x c, X.env.cells.lookup x = some c → c ≠ b) ∧ ∀ p ∈ X.pn ++ pins, p.1 ≠ b
theorem Inv.fpOk {X : Cx} {pins : List (Addr × Obj)} {σ : St} {H H' : Hp} {s : Shared} {b : Addr} (I : Inv X pins σ H s) (hb : s.heap.objs.size ≤ b) (hn : H' b = none) : FpOk X pins H' b := by
  refine ⟨hn, Nat.ne_of_gt (Nat.lt_of_lt_of_le I.lt hb), I.nofs hb, .inr (Nat.le_trans I.sz hb), fun x c e z => ?_, fun p hp z => ?_⟩
  · obtain ⟨v, q⟩ := I.cell x c e
    exact absurd (Nat.lt_of_lt_of_le q.lt (by rw [z]; exact hb)) (Nat.lt_irrefl _)
  · exact absurd (Nat.lt_of_lt_of_le (Heap.lt_size (I.pin p hp).1) (by rw [z]; exact hb)) (Nat.lt_irrefl _)
structure Turn (P : Program) (w : World) (K : PySem.W.Frag) (tg : Expr) (J : It) (fp : List Addr) (it : Addr) (tn : Nat → Heap → Prop) : Prop where
  mem : it ∈ fp
  obj : ∀ i h, tn i h → ∀ b ∈ fp, ∃ o, h.get? b = some o ∧ ∀ v, o.data ≠ .cell v
  keep : ∀ i h h', tn i h → (∀ b ∈ fp, ∀ o, h.get? b = some o → h'.get? b = some o) → tn i h'
  item : ∀ (X : Cx), X.prog = P → X.w = w → X.K = K → X.calm = true → ∀ (i : Nat) (pins : List (Addr × Obj)) (s : Shared) (σ : St) (H : Hp) (E : Value → Shared → Prop), Inv X pins σ H s → (∀ b ∈ fp, FpOk X pins H b) → tn i s.heap → J.go i H →
    wpAny (model P w) X.A (pyNext (.ref it)) (fun r s1 => ∃ u, r = some u ∧
      wpAny (model P w) X.A (letOwnedTupleGo tg (.ref it) u) (fun _ s2 => ∃ x H', Inv X pins σ H' s2 ∧ RelV x u ∧ J.yld i H x H' ∧ tn (i + 1) s2.heap ∧ ∀ b ∈ fp, H' b = none) E s1) E s
  done : ∀ (X : Cx), X.prog = P → X.w = w → X.K = K → X.calm = true → ∀ (i : Nat) (pins : List (Addr × Obj)) (s : Shared) (σ : St) (H : Hp) (E : Value → Shared → Prop), Inv X pins σ H s → (∀ b ∈ fp, FpOk X pins H b) → tn i s.heap → J.stop i H →
    wpAny (model P w) X.A (pyNext (.ref it)) (fun r s1 => r = none ∧ Inv X pins σ H s1) E s
  self : ∀ (A : Around) (i : Nat) (s : Shared) (Q : Value → Shared → Prop) (E : Value → Shared → Prop), tn i s.heap → Q (.ref it) s → wpAny (model P w) A (pyIter (.ref it)) Q E s
abbrev TI := St → Hp → (It → Hp → Prop) → Prop
/-- an iterator has come -/
def PIE (X : Cx) (pins : List (Addr × Obj)) (σ : St) (tg : Expr) (R : It → Hp → Prop) (itv : Value) (s2 : Shared) : Prop :=
  ∃ (it : Addr) (fp : List Addr) (tn : Nat → Heap → Prop) (J : It) (H' : Hp), itv = .ref it ∧ Inv X pins σ H' s2 ∧ Turn X.prog X.w X.K tg J fp it tn ∧ tn 0 s2.heap ∧ (∀ b ∈ fp, FpOk X pins H' b) ∧ R J H'
def PI (X : Cx) (tg iter : Expr) (wi : TI) : Prop :=
  ∀ (pins : List (Addr × Obj)) (s : Shared) (σ : St) (H : Hp) (R : It → Hp → Prop), Inv X pins σ H s → wi σ H R →
    wpAny (model X.prog X.w) X.A (eval iter X.env) (fun v s1 => wpAny (model X.prog X.w) X.A (pyIter v) (PIE X pins σ tg R) X.xe s1) X.xe s

/-- the step ahead of the store is nothing for an iterator that keeps no tuple -/
theorem go_of {M : Model} {A : Around} {E : Value → Shared → Prop} {s : Shared} {tg : Expr} {it : Addr} {u : Value} {o : Obj} {n : String} {vs : Array Value} {Q : Unit → Shared → Prop} (ho : s.heap.get? it = some o) (hc : o.cls = .type n) (hd : o.data = .fields vs)
    (hn : ["enumerate", "zip", "dict_itemiterator", "dict_reverseitemiterator", "odict_iterator", "itertools.zip_longest", "itertools.pairwise"].contains n = false) (hQ : Q () s) : wpAny M A (letOwnedTupleGo tg (.ref it) u) Q E s := by
  unfold letOwnedTupleGo
  cases tg <;> first
    | exact wpAny_pure hQ
    | (cases u <;> first
        | exact wpAny_pure hQ
        | (refine wpAny_bind (wpAny_load ho ?_)
           rw [hc, hd]
           show wpAny M A (if (["enumerate", "zip", "dict_itemiterator", "dict_reverseitemiterator", "odict_iterator", "itertools.zip_longest", "itertools.pairwise"].contains n && vs[0]? == some (rawInt _)) = true then _ else _) Q E s
           rw [if_neg (by intro h; rw [hn, Bool.false_and] at h; cases h)]
           exact wpAny_pure hQ))

/-- the list at a, as it stands at each turn (a loop may append to it) -/
def Itl (K : PySem.W.Frag) (a : Addr) : It :=
  ⟨fun i H => ∃ xs x, SqL K H a xs ∧ xs[i]? = some x, fun i H x H' => H' = H ∧ ∀ xs, SqL K H a xs → xs[i]? = some x, fun i H => ∃ xs, SqL K H a xs ∧ xs.length ≤ i⟩
def Itt (K : PySem.W.Frag) (a : Addr) : It :=
  ⟨fun i H => ∃ xs x, SqT K H a xs ∧ xs[i]? = some x, fun i H x H' => H' = H ∧ ∀ xs, SqT K H a xs → xs[i]? = some x, fun i H => ∃ xs, SqT K H a xs ∧ xs.length ≤ i⟩
/-- lo, lo + 1, .. (n of them) -/
def Itr (lo : Int) (n : Nat) : It := ⟨fun i _ => i < n, fun i H x H' => H' = H ∧ x = .int (lo + i), fun i _ => n ≤ i⟩
theorem turn_list {P : Program} {w : World} {K : PySem.W.Frag} {tg : Expr} (a it : Addr) : Turn P w K tg (Itl K a) [it] it (fun i h => h.IsListIter it a i) where
  mem := by simp
  obj := fun i h st b hb => by
    have e : b = it := by simpa using hb
    subst e
    obtain ⟨o, e, c, d⟩ := st
    exact ⟨o, e, fun v z => by rw [d] at z; cases z⟩
  keep := fun i h h' st k => st.at fun o e => k it (by simp) o e
  item := by
    intro X hP hw hK hc i pins s σ H E I hf st hg
    subst hP hw hK
    obtain ⟨xs, x, hq, hx⟩ := hg
    obtain ⟨its, rv, p, hz⟩ := I.list hq
    obtain ⟨u, hu, ru⟩ := rv.get hx
    obtain ⟨f0, f1, f2, f3, f4, f5⟩ := hf it (by simp)
    refine wpAny_pyNext_list_item st p.isList (x := u) (by simpa using hu) fun h' st' sb => ?_
    have I1 : Inv X pins σ H { s with heap := h' } := I.turned (t' := s.toks) (fun b o hb e => (sb.2 b hb).trans e) f0 f1 f3 f4 f5
    obtain ⟨o, e, c, d⟩ := id st'
    exact ⟨u, rfl, go_of (s := { s with heap := h' }) e c d (by decide) ⟨x, H, I1, ru, ⟨rfl, fun ys hy => by rw [I.list_inj hy hq]; exact hx⟩, st', fun b hb => (hf b hb).1⟩⟩
  done := by
    intro X hP hw hK hc i pins s σ H E I hf st hg
    subst hP hw hK
    obtain ⟨xs, hq, hx⟩ := hg
    obtain ⟨its, rv, p, hz⟩ := I.list hq
    obtain ⟨f0, f1, f2, f3, f4, f5⟩ := hf it (by simp)
    have hl := rv.length
    exact wpAny_pyNext_list_end (I.ok.hd hc) st p.isList (by simp; omega) fun h' eb => ⟨rfl, I.turned (t' := s.toks) (fun b o hb e => eb b o hb e) f0 f1 f3 f4 f5⟩
  self := fun _ _ _ _ _ st h => wpAny_pyIter_listiter st h
theorem turn_tuple {P : Program} {w : World} {K : PySem.W.Frag} {tg : Expr} (a it : Addr) : Turn P w K tg (Itt K a) [it] it (fun i h => h.IsTupleIter it a i) where
  mem := by simp
  obj := fun i h st b hb => by
    have e : b = it := by simpa using hb
    subst e
    obtain ⟨o, e, c, d⟩ := st
    exact ⟨o, e, fun v z => by rw [d] at z; cases z⟩
  keep := fun i h h' st k => st.at fun o e => k it (by simp) o e
  item := by
    intro X hP hw hK hc i pins s σ H E I hf st hg
    subst hP hw hK
    obtain ⟨xs, x, hq, hx⟩ := hg
    obtain ⟨its, rv, p, hz⟩ := I.tuple hq
    obtain ⟨u, hu, ru⟩ := rv.get hx
    obtain ⟨f0, f1, f2, f3, f4, f5⟩ := hf it (by simp)
    refine wpAny_pyNext_tuple_item st (show s.heap.IsTuple a its.toArray from p) (x := u) (by simpa using hu) fun h' st' sb => ?_
    have I1 : Inv X pins σ H { s with heap := h' } := I.turned (t' := s.toks) (fun b o hb e => (sb.2 b hb).trans e) f0 f1 f3 f4 f5
    obtain ⟨o, e, c, d⟩ := id st'
    exact ⟨u, rfl, go_of (s := { s with heap := h' }) e c d (by decide) ⟨x, H, I1, ru, ⟨rfl, fun ys hy => by rw [I.tuple_inj hy hq]; exact hx⟩, st', fun b hb => (hf b hb).1⟩⟩
  done := by
    intro X hP hw hK hc i pins s σ H E I hf st hg
    subst hP hw hK
    obtain ⟨xs, hq, hx⟩ := hg
    obtain ⟨its, rv, p, hz⟩ := I.tuple hq
    obtain ⟨f0, f1, f2, f3, f4, f5⟩ := hf it (by simp)
    have hl := rv.length
    exact wpAny_pyNext_tuple_end (I.ok.hd hc) st (show s.heap.IsTuple a its.toArray from p) (by simp; omega) fun h' eb => ⟨rfl, I.turned (t' := s.toks) (fun b o hb e => eb b o hb e) f0 f1 f3 f4 f5⟩
  self := fun _ _ _ _ _ st h => wpAny_pyIter_tupleiter st h
theorem turn_range {P : Program} {w : World} {K : PySem.W.Frag} {tg : Expr} (it : Addr) (lo : Int) (n : Nat) : Turn P w K tg (Itr lo n) [it] it (fun i h => IsRangeIter h it (lo + (i : Nat) * 1) ((n : Int) - (i : Nat)) 1) where
  mem := by simp
  obj := fun i h st b hb => by
    have e : b = it := by simpa using hb
    subst e
    exact ⟨_, st, fun v z => by
      have z' : Data.fields _ = Data.cell v := z
      cases z'⟩
  keep := fun i h h' st k => k it (by simp) _ st
  item := by
    intro X hP hw hK hc i pins s σ H E I hf st hg
    subst hP hw hK
    obtain ⟨f0, f1, f2, f3, f4, f5⟩ := hf it (by simp)
    have W := Walks.range (prog := X.prog) (w := X.w) (I.ok.hd hc) it lo 1 n
    refine W.item i s _ _ hg st fun v h' tk hv st' kk => ?_
    obtain ⟨t, rfl⟩ := hv
    have I1 : Inv X pins σ H { s with heap := h', toks := tk } := I.turned (fun b o hb e => kk b o (by simpa using hb) e) f0 f1 f3 f4 f5
    refine ⟨_, rfl, go_of (s := { s with heap := h', toks := tk }) (n := "range_iterator") st' rfl rfl (by decide) ⟨.int (lo + i), H, I1, ⟨t, ?_⟩, ⟨rfl, rfl⟩, st', fun b hb => (hf b hb).1⟩⟩
    rw [Int.mul_one]
  done := by
    intro X hP hw hK hc i pins s σ H E I hf st hg
    subst hP hw hK
    obtain ⟨f0, f1, f2, f3, f4, f5⟩ := hf it (by simp)
    exact wpAny_pyNext_range_end (I.ok.hd hc) st (by have : n ≤ i := hg; omega) fun h' eb => ⟨rfl, I.turned (t' := s.toks) (fun b o hb e => eb b o hb e) f0 f1 f3 f4 f5⟩
  self := fun _ _ _ _ _ st h => wpAny_pyIter_rangeiter st h
end L2

namespace L2
open PySem PySem.Spec PyProof.Rows
section
variable {X : Cx} {tg : Expr}
def iList (K : PySem.W.Frag) (tl : TE) : TI := fun σ H R => tl σ H fun x H1 => ∃ a, x = .ref a ∧ (∃ xs, SqL K H1 a xs) ∧ R (Itl K a) H1
def iTup (K : PySem.W.Frag) (tl : TE) : TI := fun σ H R => tl σ H fun x H1 => ∃ a, x = .ref a ∧ (∃ xs, SqT K H1 a xs) ∧ R (Itt K a) H1
theorem pi_list {l : Expr} {tl : TE} (hl : PE X l tl) : PI X tg l (iList X.K tl) := by
  intro pins s σ H R I h
  refine thn (hl pins s σ H _ I h) fun v s1 ⟨x, H1, I1, r1, q1⟩ => ?_
  obtain ⟨a, e, ⟨xs, hq⟩, q⟩ := q1
  subst e
  cases r1
  obtain ⟨its, rv, p, hz⟩ := I1.list hq
  refine wpAny_pyIter_list p.isList ?_
  refine ⟨s1.heap.objs.size, [s1.heap.objs.size], _, _, H1, rfl, I1.kept (t' := s1.toks) fun b o e => Heap.get?_push_of_some _ e, turn_list a _, ⟨_, Heap.get?_push_size _ rfl, rfl, rfl⟩, fun b hb => ?_, q⟩
  have e : b = s1.heap.objs.size := by simpa using hb
  subst e
  exact I1.fpOk (Nat.le_refl _) (I1.hok.fresh (Nat.le_refl _))
theorem pi_tup {l : Expr} {tl : TE} (hl : PE X l tl) : PI X tg l (iTup X.K tl) := by
  intro pins s σ H R I h
  refine thn (hl pins s σ H _ I h) fun v s1 ⟨x, H1, I1, r1, q1⟩ => ?_
  obtain ⟨a, e, ⟨xs, hq⟩, q⟩ := q1
  subst e
  cases r1
  obtain ⟨its, rv, p, hz⟩ := I1.tuple hq
  refine wpAny_pyIter_tuple (show s1.heap.IsTuple a its.toArray from p) ?_
  refine ⟨s1.heap.objs.size, [s1.heap.objs.size], _, _, H1, rfl, I1.kept (t' := s1.toks) fun b o e => Heap.get?_push_of_some _ e, turn_tuple a _, ⟨_, Heap.get?_push_size _ rfl, rfl, rfl⟩, fun b hb => ?_, q⟩
  have e : b = s1.heap.objs.size := by simpa using hb
  subst e
  exact I1.fpOk (Nat.le_refl _) (I1.hok.fresh (Nat.le_refl _))
/-- a range object just made, walked -/
theorem range_it {pins : List (Addr × Obj)} {σ : St} {H : Hp} {s : Shared} {R : It → Hp → Prop} {E : Value → Shared → Prop} {lo hi : Int} {t u v : Tok} {tk : Nat} (I : Inv X pins σ H s) (h1 : -(2 ^ 62) ≤ lo) (h2 : lo < 2 ^ 62) (h3 : -(2 ^ 62) ≤ hi) (h4 : hi < 2 ^ 62)
    (q : R (Itr lo (hi - lo).toNat) H) : wpAny (model X.prog X.w) X.A (pyIter (.ref s.heap.objs.size)) (PIE X pins σ tg R) E { s with heap := s.heap.push { cls := .type "range", data := .fields #[.int lo t, .int hi u, .int 1 v] }, toks := tk } := by
  refine wpAny_pyIter_range (IsRange.new ..) (small_one h1 h2 h3 h4) ?_
  have I1 : Inv X pins σ H { s with heap := s.heap.push { cls := .type "range", data := .fields #[.int lo t, .int hi u, .int 1 v] }, toks := tk } := I.kept fun b o e => Heap.get?_push_of_some _ e
  refine ⟨(s.heap.push { cls := .type "range", data := .fields #[.int lo t, .int hi u, .int 1 v] }).objs.size, [(s.heap.push { cls := .type "range", data := .fields #[.int lo t, .int hi u, .int 1 v] }).objs.size], _, _, H, rfl,
    I1.kept (t' := tk) fun b o e => Heap.get?_push_of_some _ e, turn_range _ lo (hi - lo).toNat, ?_, fun b hb => ?_, q⟩
  · have e1 : lo + ((0 : Nat) : Int) * 1 = lo := by simp
    have e2 : (((hi - lo).toNat : Nat) : Int) - ((0 : Nat) : Int) = Builtin.Range.rangeSize lo hi 1 := by rw [rangeSize_one]; split <;> omega
    show IsRangeIter _ _ (lo + ((0 : Nat) : Int) * 1) ((((hi - lo).toNat : Nat) : Int) - ((0 : Nat) : Int)) 1
    rw [e1, e2]
    exact Heap.get?_push_size _ rfl
  · have e : b = (s.heap.push { cls := .type "range", data := .fields #[.int lo t, .int hi u, .int 1 v] }).objs.size := by simpa using hb
    subst e
    exact I1.fpOk (Nat.le_refl _) (I1.hok.fresh (Nat.le_refl _))
def iRng1 (ta : TA) : TI := fun σ H R => ta σ H fun vs H1 => ∃ j : Int, vs = [.int j] ∧ -(2 ^ 62) ≤ j ∧ j < 2 ^ 62 ∧ R (Itr 0 j.toNat) H1
def iRng2 (ta : TA) : TI := fun σ H R => ta σ H fun vs H1 => ∃ i j : Int, vs = [.int i, .int j] ∧ (-(2 ^ 62) ≤ i ∧ i < 2 ^ 62 ∧ -(2 ^ 62) ≤ j ∧ j < 2 ^ 62) ∧ R (Itr i (j - i).toNat) H1
theorem pi_range1 {a : Expr} {ta : TA} {p pos : Pos} (hg : Gl X "range") (hm : X.mg "range" = none) (ha : PA X [a] ta) (hs : starEach [a] X.env = [(false, eval a X.env)] := by rfl) : PI X tg (.Call (.Name "range" p) [a] [] pos) (iRng1 ta) := by
  intro pins s σ H R I h
  refine Call_ (ld_blt I hg hm boot_range (PyProof.Rows.callWith_type1 (thn (ha pos pins s σ H _ I h) fun us s1 ⟨vs, H1, I1, r1, q1⟩ => ?_) hs rfl))
  obtain ⟨j, e, q1, q2, q⟩ := q1
  subst e
  cases r1 with
  | cons r rr =>
    cases rr
    obtain ⟨t, rfl⟩ := r
    exact call_range_1 (range_it I1 (by omega) (by omega) q1 q2 (by simpa using q))
theorem pi_range2 {a b : Expr} {ta : TA} {p pos : Pos} (hg : Gl X "range") (hm : X.mg "range" = none) (ha : PA X [a, b] ta) (hs : starEach [a, b] X.env = [(false, eval a X.env), (false, eval b X.env)] := by rfl) (hs2 : starEach [b] X.env = [(false, eval b X.env)] := by rfl) :
    PI X tg (.Call (.Name "range" p) [a, b] [] pos) (iRng2 ta) := by
  intro pins s σ H R I h
  refine Call_ (ld_blt I hg hm boot_range (PyProof.Rows.callWith_type1 (thn (ha pos pins s σ H _ I h) fun us s1 ⟨vs, H1, I1, r1, q1⟩ => ?_) (by rw [hs, hs2]) (by rw [hs2]; rfl)))
  obtain ⟨i, j, e, ⟨q1, q2, q3, q4⟩, q⟩ := q1
  subst e
  cases r1 with
  | cons r rr =>
    cases rr with
    | cons r' rr =>
      cases rr
      obtain ⟨t, rfl⟩ := r
      obtain ⟨t', rfl⟩ := r'
      exact call_range_2 (range_it I1 q1 q2 q3 q4 q)

/-! ### for -/
/-- W: the invariant by the turn and a measure; N: what the body is to reach -/
def tFor (wi : TI) (g : TG) (tb : TS) : TS := fun D σ H => wi σ H fun J H1 => ∃ W : Nat → Nat → St → Hp → Prop, (∃ m, W 0 m σ H1) ∧ ∀ i m σ H, W i m σ H →
  (J.stop i H ∧ D.nx σ H) ∨ (J.go i H ∧ ∃ N : St → Hp → Prop, (∀ σ' H', N σ' H' → ∃ m', m' < m ∧ W (i + 1) m' σ' H') ∧ ∀ x H', J.yld i H x H' → g x σ H' fun σ2 H2 => tb { D with nx := N, ct := N, bk := D.nx } σ2 H2)
/-- the records at fp as they stand -/
def pinsAt (fp : List Addr) (h : Heap) : List (Addr × Obj) := fp.filterMap fun b => (h.get? b).map fun o => (b, o)
theorem mem_pinsAt {fp : List Addr} {h : Heap} {b : Addr} {o : Obj} (hb : b ∈ fp) (e : h.get? b = some o) : (b, o) ∈ pinsAt fp h := List.mem_filterMap.mpr ⟨b, hb, by rw [e]; rfl⟩
theorem of_pinsAt {fp : List Addr} {h : Heap} {p : Addr × Obj} (hp : p ∈ pinsAt fp h) : p.1 ∈ fp ∧ h.get? p.1 = some p.2 := by
  obtain ⟨b, hb, e⟩ := List.mem_filterMap.mp hp
  cases q : h.get? b with
  | none => rw [q] at e; cases e
  | some o =>
    rw [q] at e
    have e' : (b, o) = p := Option.some.inj e
    subst e'
    exact ⟨hb, q⟩
theorem Inv.pinned {pins : List (Addr × Obj)} {σ : St} {H : Hp} {s : Shared} {fp : List Addr} (I : Inv X pins σ H s) (hf : ∀ b ∈ fp, FpOk X pins H b) (ho : ∀ b ∈ fp, ∃ o, s.heap.get? b = some o ∧ ∀ v, o.data ≠ .cell v) : Inv X (pins ++ pinsAt fp s.heap) σ H s :=
  I.pins_of fun p hp => (List.mem_append.mp hp).elim (fun z => I.pin p (List.mem_append_right _ z)) fun z => by
    obtain ⟨hb, e⟩ := of_pinsAt z
    obtain ⟨f0, f1, f2, _⟩ := hf p.1 hb
    obtain ⟨o, e', d⟩ := ho p.1 hb
    rw [e] at e'; cases e'
    exact ⟨e, f0, f1, f2, d⟩
theorem Inv.unpinned {pins pl : List (Addr × Obj)} {σ : St} {H : Hp} {s : Shared} (I : Inv X (pins ++ pl) σ H s) : Inv X pins σ H s := I.pins_of fun p hp => I.pin p (List.mem_append_right _ (List.mem_append_left _ hp))
theorem ps_for {iter : Expr} {body : List Stmt} {wi : TI} {g : TG} {tb : TS} {pos : Pos} (hp : PassesOwn (model X.prog X.w) X.A X.env X.xe) (hc : X.calm = true) (hi : PI X tg iter wi) (hg : PG X tg g) (hb : PSs X body tb)
    (hs : ∀ x, foldedSetIterable iter X.env x = pure x := by intro _; rfl) : PS X (.For tg iter body [] pos) (tFor wi g tb) := by
  intro pins s σ H D I h
  refine wpAny_For (thn (hi pins s σ H _ I h) fun v s1 h1 => thn h1 fun itv s2 h2 => ?_) hs
  obtain ⟨it, fp, tn, J, H2, e, I2, T, st2, f2, W, ⟨m0, w0⟩, turn⟩ := h2
  subst e
  -- what stays true of the iterator's objects through the loop
  have stat : ∀ {H' : Hp}, (∀ b ∈ fp, H' b = none) → ∀ b ∈ fp, FpOk X pins H' b := fun hn b hb => ⟨hn b hb, (f2 b hb).2⟩
  refine codeAny_forLoop_any (fun n s' => ∃ i σ' H', Inv X pins σ' H' s' ∧ tn i s'.heap ∧ (∀ b ∈ fp, H' b = none) ∧ W i n σ' H') ?_ m0 ⟨0, σ, H2, I2, st2, fun b hb => (f2 b hb).1, w0⟩
  rintro n s3 ⟨i, σ3, H3, I3, st3, fr3, w3⟩
  rcases turn i n σ3 H3 w3 with ⟨stop, qn⟩ | ⟨go, N, hN, step⟩
  · refine wpAny_passesOwn hp (thn (T.done X rfl rfl rfl hc i pins s3 σ3 H3 X.xe I3 (stat fr3) st3 stop) fun r s4 ⟨hr, I4⟩ => ?_)
    subst hr
    exact wpAny_execs_nil ⟨σ3, H3, I4, qn⟩
  · refine wpAny_passesOwn hp (thn (T.item X rfl rfl rfl hc i pins s3 σ3 H3 X.xe I3 (stat fr3) st3 go) fun r s4 ⟨u, hr, h4⟩ => ?_)
    subst hr
    refine wpAny_passesOwn hp (thn h4 fun _ s5 ⟨x, H5, I5, r5, y5, st5, fr5⟩ => ?_)
    have I5' := I5.pinned (stat fr5) (T.obj _ _ st5)
    refine wpAny_passesOwn hp (thn (hg _ s5 σ3 H5 x u _ I5' r5 (step x H5 y5)) fun _ s6 ⟨σ6, H6, I6, q6⟩ => ?_)
    refine wpAny_passesOwn hp (thn (hb _ s6 σ6 H6 _ I6 q6) fun f s7 q7 => ?_)
    have again : ∀ {σ7 : St} {H7 : Hp}, Inv X (pins ++ pinsAt fp s5.heap) σ7 H7 s7 → N σ7 H7 → ∃ m, m < n ∧ ∃ i σ' H', Inv X pins σ' H' s7 ∧ tn i s7.heap ∧ (∀ b ∈ fp, H' b = none) ∧ W i m σ' H' := fun {σ7 H7} I7 n7 => by
      obtain ⟨m', hm, w7⟩ := hN σ7 H7 n7
      refine ⟨m', hm, i + 1, σ7, H7, I7.unpinned, T.keep _ _ _ st5 fun b hb o e => (I7.pin (b, o) (List.mem_append_right _ (List.mem_append_right _ (mem_pinsAt hb e)))).1, fun b hb => ?_, w7⟩
      obtain ⟨o, e, d⟩ := T.obj _ _ st5 b hb
      exact (I7.pin (b, o) (List.mem_append_right _ (List.mem_append_right _ (mem_pinsAt hb e)))).2.1
    cases f with
    | next => obtain ⟨σ7, H7, I7, n7⟩ := q7; exact again I7 n7
    | cont => obtain ⟨σ7, H7, I7, n7⟩ := q7; exact again I7 n7
    | brk => obtain ⟨σ7, H7, I7, q7⟩ := q7; exact ⟨σ7, H7, I7.unpinned, q7⟩
    | ret v => obtain ⟨x7, σ7, H7, I7, r7, q7⟩ := q7; exact ⟨x7, σ7, H7, I7.unpinned, r7, q7⟩
end

/-! ### the forms one uses -/
/-- over a list that the body leaves as it is -/
theorem for_list {K : PySem.W.Frag} {a : Addr} {xs : List V} {g : TG} {tb : TS} {D : Ends} {σ : St} {H : Hp} (Pv : Nat → St → Hp → Prop) (h0 : Pv 0 σ H) (hl : ∀ i σ H, i ≤ xs.length → Pv i σ H → SqL K H a xs)
    (hs : ∀ i x σ H, xs[i]? = some x → Pv i σ H → g x σ H fun σ2 H2 => tb { D with nx := Pv (i + 1), ct := Pv (i + 1), bk := D.nx } σ2 H2) (hd : ∀ σ H, Pv xs.length σ H → D.nx σ H) :
    ∃ W : Nat → Nat → St → Hp → Prop, (∃ m, W 0 m σ H) ∧ ∀ i m σ H, W i m σ H →
      ((Itl K a).stop i H ∧ D.nx σ H) ∨ ((Itl K a).go i H ∧ ∃ N : St → Hp → Prop, (∀ σ' H', N σ' H' → ∃ m', m' < m ∧ W (i + 1) m' σ' H') ∧ ∀ x H', (Itl K a).yld i H x H' → g x σ H' fun σ2 H2 => tb { D with nx := N, ct := N, bk := D.nx } σ2 H2) := by
  refine ⟨fun i m σ H => m = xs.length - i ∧ i ≤ xs.length ∧ Pv i σ H, ⟨xs.length, by simp, Nat.zero_le _, h0⟩, ?_⟩
  rintro i m σ H ⟨rfl, hi, p⟩
  have q := hl i σ H hi p
  by_cases hlt : i < xs.length
  · refine .inr ⟨⟨xs, xs[i], q, by simp [hlt]⟩, Pv (i + 1), fun σ' H' p' => ⟨xs.length - (i + 1), by omega, rfl, hlt, p'⟩, fun x H' y => ?_⟩
    obtain ⟨e, y⟩ := y
    subst e
    exact hs i x σ _ (y xs q) p
  · have e : i = xs.length := by omega
    subst e
    exact .inl ⟨⟨xs, q, Nat.le_refl _⟩, hd σ H p⟩
theorem for_tup {K : PySem.W.Frag} {a : Addr} {xs : List V} {g : TG} {tb : TS} {D : Ends} {σ : St} {H : Hp} (Pv : Nat → St → Hp → Prop) (h0 : Pv 0 σ H) (hl : ∀ i σ H, i ≤ xs.length → Pv i σ H → SqT K H a xs)
    (hs : ∀ i x σ H, xs[i]? = some x → Pv i σ H → g x σ H fun σ2 H2 => tb { D with nx := Pv (i + 1), ct := Pv (i + 1), bk := D.nx } σ2 H2) (hd : ∀ σ H, Pv xs.length σ H → D.nx σ H) :
    ∃ W : Nat → Nat → St → Hp → Prop, (∃ m, W 0 m σ H) ∧ ∀ i m σ H, W i m σ H →
      ((Itt K a).stop i H ∧ D.nx σ H) ∨ ((Itt K a).go i H ∧ ∃ N : St → Hp → Prop, (∀ σ' H', N σ' H' → ∃ m', m' < m ∧ W (i + 1) m' σ' H') ∧ ∀ x H', (Itt K a).yld i H x H' → g x σ H' fun σ2 H2 => tb { D with nx := N, ct := N, bk := D.nx } σ2 H2) := by
  refine ⟨fun i m σ H => m = xs.length - i ∧ i ≤ xs.length ∧ Pv i σ H, ⟨xs.length, by simp, Nat.zero_le _, h0⟩, ?_⟩
  rintro i m σ H ⟨rfl, hi, p⟩
  have q := hl i σ H hi p
  by_cases hlt : i < xs.length
  · refine .inr ⟨⟨xs, xs[i], q, by simp [hlt]⟩, Pv (i + 1), fun σ' H' p' => ⟨xs.length - (i + 1), by omega, rfl, hlt, p'⟩, fun x H' y => ?_⟩
    obtain ⟨e, y⟩ := y
    subst e
    exact hs i x σ _ (y xs q) p
  · have e : i = xs.length := by omega
    subst e
    exact .inl ⟨⟨xs, q, Nat.le_refl _⟩, hd σ H p⟩
theorem for_range {lo : Int} {n : Nat} {g : TG} {tb : TS} {D : Ends} {σ : St} {H : Hp} (Pv : Nat → St → Hp → Prop) (h0 : Pv 0 σ H)
    (hs : ∀ i σ H, i < n → Pv i σ H → g (.int (lo + i)) σ H fun σ2 H2 => tb { D with nx := Pv (i + 1), ct := Pv (i + 1), bk := D.nx } σ2 H2) (hd : ∀ σ H, Pv n σ H → D.nx σ H) :
    ∃ W : Nat → Nat → St → Hp → Prop, (∃ m, W 0 m σ H) ∧ ∀ i m σ H, W i m σ H →
      ((Itr lo n).stop i H ∧ D.nx σ H) ∨ ((Itr lo n).go i H ∧ ∃ N : St → Hp → Prop, (∀ σ' H', N σ' H' → ∃ m', m' < m ∧ W (i + 1) m' σ' H') ∧ ∀ x H', (Itr lo n).yld i H x H' → g x σ H' fun σ2 H2 => tb { D with nx := N, ct := N, bk := D.nx } σ2 H2) := by
  refine ⟨fun i m σ H => m = n - i ∧ i ≤ n ∧ Pv i σ H, ⟨n, by simp, Nat.zero_le _, h0⟩, ?_⟩
  rintro i m σ H ⟨rfl, hi, p⟩
  by_cases hlt : i < n
  · refine .inr ⟨hlt, Pv (i + 1), fun σ' H' p' => ⟨n - (i + 1), by omega, rfl, hlt, p'⟩, fun x H' y => ?_⟩
    obtain ⟨e, y⟩ := y
    subst e y
    exact hs i σ _ hlt p
  · have e : i = n := by omega
    subst e
    exact .inl ⟨Nat.le_refl _, hd σ H p⟩
/-- while, by a word and a measure of the state -/
theorem while_by {c : TT} {tb : TS} {D : Ends} {σ : St} {H : Hp} (Pv : St → Hp → Prop) (μ : St → Hp → Nat) (h0 : Pv σ H)
    (hs : ∀ σ H, Pv σ H → c σ H fun b H1 => if b = true then tb { D with nx := fun σ' H' => Pv σ' H' ∧ μ σ' H' < μ σ H, ct := fun σ' H' => Pv σ' H' ∧ μ σ' H' < μ σ H, bk := D.nx } σ H1 else D.nx σ H1)
    (mono : ∀ σ H Q Q', (∀ b H1, Q b H1 → Q' b H1) → c σ H Q → c σ H Q') : tWhile c tb D σ H := by
  refine ⟨fun m σ H => m = μ σ H ∧ Pv σ H, ⟨_, rfl, h0⟩, ?_⟩
  rintro m σ H ⟨rfl, p⟩
  refine mono σ H _ _ (fun b H1 q => ?_) (hs σ H p)
  cases b with
  | true => exact ⟨_, fun σ' H' ⟨p', l⟩ => ⟨_, l, rfl, p'⟩, q⟩
  | false => exact q
end L2

namespace L2
open PySem PySem.Spec PyProof.Rows

abbrev R2 := V → V → Hp → VK → Prop
/-- a two-place operation on values: f is binaryOp op, inplaceOp op or compareOp op -/
def OpR (X : Cx) (f : Value → Value → Sem Value) (r : R2) : Prop :=
  ∀ (pins : List (Addr × Obj)) (s : Shared) (σ : St) (H : Hp) (x y : V) (v u : Value) (Q : VK), Inv X pins σ H s → RelV x v → RelV y u → r x y H Q →
    wpAny (model X.prog X.w) X.A (f v u) (EP X pins σ Q) X.xe s
/-- a one-place operation -/
def UnR (X : Cx) (f : Value → Sem Value) (r : V → Hp → VK → Prop) : Prop :=
  ∀ (pins : List (Addr × Obj)) (s : Shared) (σ : St) (H : Hp) (x : V) (v : Value) (Q : VK), Inv X pins σ H s → RelV x v → r x H Q →
    wpAny (model X.prog X.w) X.A (f v) (EP X pins σ Q) X.xe s
/-- a call of a value that is known (a builtin, a type) with values -/
def CallR (X : Cx) (f : Value) (r : List V → Hp → VK → Prop) : Prop :=
  ∀ (pins : List (Addr × Obj)) (s : Shared) (σ : St) (H : Hp) (xs : List V) (us : List Value) (Q : VK), Inv X pins σ H s → Vals xs us → r xs H Q →
    wpAny (model X.prog X.w) X.A (call f us) (EP X pins σ Q) X.xe s
/-- a value's truth -/
def TruR (X : Cx) (r : V → Hp → (Bool → Hp → Prop) → Prop) : Prop :=
  ∀ (pins : List (Addr × Obj)) (s : Shared) (σ : St) (H : Hp) (x : V) (v : Value) (Q : Bool → Hp → Prop), Inv X pins σ H s → RelV x v → r x H Q →
    wpAny (model X.prog X.w) X.A (truthy v) (TP X pins σ Q) X.xe s

def tOp (r : R2) (ta tb : TE) : TE := fun σ H Q => ta σ H fun x H1 => tb σ H1 fun y H2 => r x y H2 Q
def tUn (r : V → Hp → VK → Prop) (ta : TE) : TE := fun σ H Q => ta σ H fun x H1 => r x H1 Q
/-- ints in, under C, and a value out -/
def rI (C : Int → Int → Prop) (g : Int → Int → V) : R2 := fun x y H Q => ∃ i j, x = .int i ∧ y = .int j ∧ C i j ∧ Q (g i j) H
def rI0 (g : Int → Int → V) : R2 := fun x y H Q => ∃ i j, x = .int i ∧ y = .int j ∧ Q (g i j) H
def rU (g : Int → V) : V → Hp → VK → Prop := fun x H Q => ∃ i, x = .int i ∧ Q (g i) H

section
variable {X : Cx} {a b c : Expr} {ta tb tc : TE} {pos : Pos}

theorem binT (ha : PE X a ta) (hb : PE X b tb) {pins : List (Addr × Obj)} {s : Shared} {σ : St} {H : Hp} {R : V → V → Hp → Prop} (I : Inv X pins σ H s)
    (h : ta σ H fun x H1 => tb σ H1 fun y H2 => R x y H2) {Q : Value → Shared → Prop} {f : Value → Value → Sem Value}
    (hf : ∀ v u s2 x y H2, Inv X pins σ H2 s2 → RelV x v → RelV y u → R x y H2 → wpAny (model X.prog X.w) X.A (f v u) Q X.xe s2) :
    wpAny (model X.prog X.w) X.A (eval a X.env) (fun v s₁ => wpAny (model X.prog X.w) X.A (eval b X.env) (fun u s₂ => wpAny (model X.prog X.w) X.A (f v u) Q X.xe s₂) X.xe s₁) X.xe s := by
  refine thn (ha pins s σ H _ I h) fun v s1 ⟨x, H1, I1, r1, q1⟩ => ?_
  refine thn (hb pins s1 σ H1 _ I1 q1) fun u s2 ⟨y, H2, I2, r2, q2⟩ => ?_
  exact hf v u s2 x y H2 I2 r1 r2 q2

theorem pe_op {op : Operator} {r : R2} (ho : OpR X (binaryOp op) r) (ha : PE X a ta) (hb : PE X b tb) : PE X (.BinOp a op b pos) (tOp r ta tb) := by
  intro pins s σ H Q I h
  exact wpAny_BinOp (binT ha hb I h fun v u s2 x y H2 I2 rx ry q => ho pins s2 σ H2 x y v u Q I2 rx ry q)
theorem pe_un {op : UnaryOp} {r : V → Hp → VK → Prop} (ho : UnR X (unaryOp op) r) (ha : PE X a ta) : PE X (.UnaryOp op a pos) (tUn r ta) := by
  intro pins s σ H Q I h
  exact UnaryOp_ (thn (ha pins s σ H _ I h) fun v s1 ⟨x, H1, I1, r1, q1⟩ => ho pins s1 σ H1 x v Q I1 r1 q1)
/-- a op= e at a name: the name's slot i -/
theorem augR {op : Operator} {r : R2} (ho : OpR X (inplaceOp op) r) {pins : List (Addr × Obj)} {s : Shared} {σ : St} {H : Hp} {x y : V} {v u : Value} {Q : VK} (I : Inv X pins σ H s)
    (rx : RelV x v) (ry : RelV y u) (q : r x y H Q) : wpAny (model X.prog X.w) X.A (inplaceOp op v u) (EP X pins σ Q) X.xe s := ho pins s σ H x y v u Q I rx ry q

/-! ### ints -/
theorem opI {f : Value → Value → Sem Value} {C : Int → Int → Prop} {g : Int → Int → Int}
    (rule : ∀ (i j : Int) (t u : Tok) (s : Shared) (Q : Value → Shared → Prop) (E : Value → Shared → Prop), C i j → Q (.int (g i j) s.toks) { s with toks := s.toks + 1 } → wpAny (model X.prog X.w) X.A (f (.int i t) (.int j u)) Q E s) :
    OpR X f (rI C fun i j => .int (g i j)) := by
  intro pins s σ H x y v u Q I rx ry h
  obtain ⟨i, j, rfl, rfl, hc, q⟩ := h
  obtain ⟨t, rfl⟩ := rx
  obtain ⟨t', rfl⟩ := ry
  exact rule i j t t' s _ _ hc ⟨.int (g i j), H, I.tok _, ⟨_, rfl⟩, q⟩
theorem opI0 {f : Value → Value → Sem Value} {g : Int → Int → Int}
    (rule : ∀ (i j : Int) (t u : Tok) (s : Shared) (Q : Value → Shared → Prop) (E : Value → Shared → Prop), Q (.int (g i j) s.toks) { s with toks := s.toks + 1 } → wpAny (model X.prog X.w) X.A (f (.int i t) (.int j u)) Q E s) :
    OpR X f (rI0 fun i j => .int (g i j)) := by
  intro pins s σ H x y v u Q I rx ry h
  obtain ⟨i, j, rfl, rfl, q⟩ := h
  obtain ⟨t, rfl⟩ := rx
  obtain ⟨t', rfl⟩ := ry
  exact rule i j t t' s _ _ ⟨.int (g i j), H, I.tok _, ⟨_, rfl⟩, q⟩
theorem opB0 {f : Value → Value → Sem Value} {g : Int → Int → Bool}
    (rule : ∀ (i j : Int) (t u : Tok) (s : Shared) (Q : Value → Shared → Prop) (E : Value → Shared → Prop), Q (.bool (g i j)) s → wpAny (model X.prog X.w) X.A (f (.int i t) (.int j u)) Q E s) :
    OpR X f (rI0 fun i j => .bl (g i j)) := by
  intro pins s σ H x y v u Q I rx ry h
  obtain ⟨i, j, rfl, rfl, q⟩ := h
  obtain ⟨t, rfl⟩ := rx
  obtain ⟨t', rfl⟩ := ry
  exact rule i j t t' s _ _ ⟨.bl (g i j), H, I, rfl, q⟩

def CDiv (i j : Int) : Prop := 0 < j ∧ j < 1073741824
def CDivN (i j : Int) : Prop := j ≠ 0 ∧ j.natAbs < 1073741824
def CPow (i j : Int) : Prop := 0 ≤ j ∧ j ≤ 1000000 ∧ i.natAbs < 2 ^ 64
def CMul (i j : Int) : Prop := (-(2 ^ 64) < i ∧ i < 2 ^ 64) ∨ (-(2 ^ 64) < j ∧ j < 2 ^ 64)
theorem CMul.ok {i j : Int} (h : CMul i j) : IntMulOk i j := by
  rcases h with ⟨h1, h2⟩ | ⟨h1, h2⟩
  · exact .of_left (intBits_le_64 h1 h2)
  · exact .of_right (intBits_le_64 h1 h2)
theorem two_pow_nn (k : Nat) : (0 : Int) ≤ 2 ^ k := by
  rw [two_pow_cast]
  exact Int.natCast_nonneg _

theorem op_add : OpR X (binaryOp .Add) (rI0 fun i j => .int (i + j)) := opI0 fun _ _ _ _ _ _ _ q => add_int q
theorem op_sub : OpR X (binaryOp .Sub) (rI0 fun i j => .int (i - j)) := opI0 fun _ _ _ _ _ _ _ q => sub_int q
theorem op_mul : OpR X (binaryOp .Mult) (rI CMul fun i j => .int (i * j)) := opI fun _ _ _ _ _ _ _ hc q => mul_int q hc.ok
/-- // by a positive divisor -/
theorem op_fdiv : OpR X (binaryOp .FloorDiv) (rI CDiv fun i j => .int (i / j)) := opI fun i j _ _ _ _ _ hc q => by
  have h1 : (0 : Int) < j := hc.1
  have h2 : j < 1073741824 := hc.2
  exact floordiv_int (by omega) (by rw [Int.fdiv_eq_ediv_of_nonneg i (by omega)]; exact q) (.inl (PyProof.noPylong_small (by omega)))
theorem op_fdivN : OpR X (binaryOp .FloorDiv) (rI CDivN fun i j => .int (i.fdiv j)) := opI fun _ _ _ _ _ _ _ hc q => floordiv_int hc.1 q (.inl (PyProof.noPylong_small hc.2))
/-- % by a positive divisor of any size -/
theorem op_mod : OpR X (binaryOp .Mod) (rI (fun _ j => 0 < j) fun i j => .int (i % j)) := opI fun i j _ _ _ _ _ hc q => by
  have h1 : (0 : Int) < j := hc
  exact mod_int' (by omega) (by rw [Int.fmod_eq_emod_of_nonneg i (by omega)]; exact q)
theorem op_modN : OpR X (binaryOp .Mod) (rI (fun _ j => j ≠ 0) fun i j => .int (i.fmod j)) := opI fun _ _ _ _ _ _ _ hc q => mod_int' hc q
theorem op_pow : OpR X (binaryOp .Pow) (rI CPow fun i j => .int (i ^ j.toNat)) := opI fun _ _ _ _ _ _ _ hc q => pow_int_small hc.1 hc.2.1 hc.2.2 q
theorem op_shl : OpR X (binaryOp .LShift) (rI CPow fun i j => .int (i * 2 ^ j.toNat)) := opI fun _ _ _ _ _ _ _ hc q => lshift_int_small hc.1 hc.2.1 hc.2.2 q
theorem op_shr : OpR X (binaryOp .RShift) (rI (fun _ j => 0 ≤ j) fun i j => .int (i / 2 ^ j.toNat)) := opI fun i j _ _ _ _ _ hc q =>
  rshift_int hc (by rw [Int.fdiv_eq_ediv_of_nonneg i (two_pow_nn _)]; exact q)
theorem op_and : OpR X (binaryOp .BitAnd) (rI0 fun i j => .int (Builtin.bitAnd i j)) := opI0 fun _ _ _ _ _ _ _ q => and_int q
theorem op_or : OpR X (binaryOp .BitOr) (rI0 fun i j => .int (Builtin.bitOr i j)) := opI0 fun _ _ _ _ _ _ _ q => or_int q
theorem op_xor : OpR X (binaryOp .BitXor) (rI0 fun i j => .int (Builtin.bitXor i j)) := opI0 fun _ _ _ _ _ _ _ q => xor_int q

theorem iop_add : OpR X (inplaceOp .Add) (rI0 fun i j => .int (i + j)) := opI0 fun _ _ _ _ _ _ _ q => iadd_int q
theorem iop_sub : OpR X (inplaceOp .Sub) (rI0 fun i j => .int (i - j)) := opI0 fun _ _ _ _ _ _ _ q => isub_int q
theorem iop_mul : OpR X (inplaceOp .Mult) (rI CMul fun i j => .int (i * j)) := opI fun _ _ _ _ _ _ _ hc q => imul_int q hc.ok
theorem iop_fdiv : OpR X (inplaceOp .FloorDiv) (rI CDiv fun i j => .int (i / j)) := opI fun i j _ _ _ _ _ hc q => by
  have h1 : (0 : Int) < j := hc.1
  have h2 : j < 1073741824 := hc.2
  exact ifloordiv_int (by omega) (by rw [Int.fdiv_eq_ediv_of_nonneg i (by omega)]; exact q) (.inl (PyProof.noPylong_small (by omega)))
theorem iop_mod : OpR X (inplaceOp .Mod) (rI (fun _ j => 0 < j) fun i j => .int (i % j)) := opI fun i j _ _ _ _ _ hc q => by
  have h1 : (0 : Int) < j := hc
  exact imod_int (by omega) (by rw [Int.fmod_eq_emod_of_nonneg i (by omega)]; exact q)
theorem iop_shl : OpR X (inplaceOp .LShift) (rI CPow fun i j => .int (i * 2 ^ j.toNat)) := opI fun _ _ _ _ _ _ _ hc q => ilshift_int_small hc.1 hc.2.1 hc.2.2 q
theorem iop_shr : OpR X (inplaceOp .RShift) (rI (fun _ j => 0 ≤ j) fun i j => .int (i / 2 ^ j.toNat)) := opI fun i j _ _ _ _ _ hc q =>
  irshift_int hc (by rw [Int.fdiv_eq_ediv_of_nonneg i (two_pow_nn _)]; exact q)
theorem iop_and : OpR X (inplaceOp .BitAnd) (rI0 fun i j => .int (Builtin.bitAnd i j)) := opI0 fun _ _ _ _ _ _ _ q => iand_int q
theorem iop_or : OpR X (inplaceOp .BitOr) (rI0 fun i j => .int (Builtin.bitOr i j)) := opI0 fun _ _ _ _ _ _ _ q => ior_int q
theorem iop_xor : OpR X (inplaceOp .BitXor) (rI0 fun i j => .int (Builtin.bitXor i j)) := opI0 fun _ _ _ _ _ _ _ q => ixor_int q

theorem unI {f : Value → Sem Value} {g : Int → Int}
    (rule : ∀ (i : Int) (t : Tok) (s : Shared) (Q : Value → Shared → Prop) (E : Value → Shared → Prop), Q (.int (g i) s.toks) { s with toks := s.toks + 1 } → wpAny (model X.prog X.w) X.A (f (.int i t)) Q E s) :
    UnR X f (rU fun i => .int (g i)) := by
  intro pins s σ H x v Q I rx h
  obtain ⟨i, rfl, q⟩ := h
  obtain ⟨t, rfl⟩ := rx
  exact rule i t s _ _ ⟨.int (g i), H, I.tok _, ⟨_, rfl⟩, q⟩
theorem un_neg : UnR X (unaryOp .USub) (rU fun i => .int (-i)) := unI fun _ _ _ _ _ q => neg_int q
theorem un_inv : UnR X (unaryOp .Invert) (rU fun i => .int (Builtin.bitNot i)) := unI fun _ _ _ _ _ q => invert_int q

/-! ### bools among ints: n += (a < b) -/
theorem op_add_ib : OpR X (binaryOp .Add) (fun x y H Q => ∃ i k, x = .int i ∧ y = .bl k ∧ Q (.int (i + b2i k)) H) := by
  intro pins s σ H x y v u Q I rx ry h
  obtain ⟨i, k, rfl, rfl, q⟩ := h
  obtain ⟨t, rfl⟩ := rx
  cases ry
  exact add_int_bool ⟨.int (i + b2i k), H, I.tok _, ⟨_, rfl⟩, q⟩
end

/-! ### comparisons -/
/-- the scalars that == tells apart as data does -/
def scal : V → V → Bool
  | .non, .non => true | .non, .int _ => true | .int _, .non => true | .non, .bl _ => true | .bl _, .non => true | .non, .str _ => true | .str _, .non => true
  | .int _, .int _ => true | .bl _, .bl _ => true | .str _, .str _ => true | .byt _, .byt _ => true
  | .int _, .str _ => true | .str _, .int _ => true | .bl _, .str _ => true | .str _, .bl _ => true
  | _, _ => false
def rEq : R2 := fun x y H Q => scal x y = true ∧ Q (.bl (decide (x = y))) H
def rNe : R2 := fun x y H Q => scal x y = true ∧ Q (.bl (!decide (x = y))) H

theorem dec_int {i j : Int} : decide (V.int i = V.int j) = (i == j) := by
  rw [Bool.eq_iff_iff]
  simp
theorem dec_bl {i j : Bool} : decide (V.bl i = V.bl j) = (i == j) := by
  rw [Bool.eq_iff_iff]
  simp
theorem dec_str {i j : Str} : decide (V.str i = V.str j) = (i == j) := by
  rw [Bool.eq_iff_iff]
  simp
theorem dec_byt {i j : Array UInt8} : decide (V.byt i = V.byt j) = (i.toList == j.toList) := by
  rw [Bool.eq_iff_iff]
  cases i
  cases j
  simp

section
variable {X : Cx} {a b c : Expr} {ta tb tc : TE} {pos : Pos}
theorem fin_bl {pins : List (Addr × Obj)} {σ : St} {H : Hp} {s : Shared} {Q : VK} {k k' : Bool} (I : Inv X pins σ H s) (q : Q (.bl k) H) (e : k = k') : EP X pins σ Q (.bool k') s := by
  subst e
  exact ⟨.bl k, H, I, rfl, q⟩
theorem op_eq : OpR X (compareOp .Eq) rEq := by
  intro pins s σ H x y v u Q I rx ry h
  obtain ⟨hs, q⟩ := h
  cases x with
  | non =>
    cases rx
    cases y with
    | non => cases ry; exact PySem.EqNone.eq_none_none (fin_bl I q (by simp))
    | bl j => cases ry; exact PySem.EqNone.eq_none_bool (fin_bl I q (by simp))
    | int j => obtain ⟨t', rfl⟩ := ry; exact PySem.EqNone.eq_none_int (fin_bl I q (by simp))
    | str j => obtain ⟨t', rfl⟩ := ry; exact PySem.EqNone.eq_none_str (fin_bl I q (by simp))
    | _ => exact absurd (show false = true from hs) Bool.false_ne_true
  | bl i =>
    cases rx
    cases y with
    | non => cases ry; exact PySem.EqNone.eq_bool_none (fin_bl I q (by simp))
    | bl j => cases ry; exact eq_bool (fin_bl I q dec_bl)
    | str j => obtain ⟨t', rfl⟩ := ry; exact PySem.EqMixed.eq_bool_str (fin_bl I q (by simp))
    | _ => exact absurd (show false = true from hs) Bool.false_ne_true
  | int i =>
    obtain ⟨t, rfl⟩ := rx
    cases y with
    | non => cases ry; exact PySem.EqNone.eq_int_none (fin_bl I q (by simp))
    | int j => obtain ⟨t', rfl⟩ := ry; exact eq_int (fin_bl I q dec_int)
    | str j => obtain ⟨t', rfl⟩ := ry; exact PySem.EqMixed.eq_int_str (fin_bl I q (by simp))
    | _ => exact absurd (show false = true from hs) Bool.false_ne_true
  | str i =>
    obtain ⟨t, rfl⟩ := rx
    cases y with
    | non => cases ry; exact PySem.EqNone.eq_str_none (fin_bl I q (by simp))
    | bl j => cases ry; exact PySem.EqMixed.eq_str_bool (fin_bl I q (by simp))
    | int j => obtain ⟨t', rfl⟩ := ry; exact PySem.EqMixed.eq_str_int (fin_bl I q (by simp))
    | str j => obtain ⟨t', rfl⟩ := ry; exact eq_str (fin_bl I q dec_str)
    | _ => exact absurd (show false = true from hs) Bool.false_ne_true
  | byt i =>
    obtain ⟨t, rfl⟩ := rx
    cases y with
    | byt j => obtain ⟨t', rfl⟩ := ry; exact PySem.W.eq_bytes (fin_bl I q dec_byt)
    | _ => exact absurd (show false = true from hs) Bool.false_ne_true
  | _ => cases y <;> exact absurd (show false = true from hs) Bool.false_ne_true
theorem op_ne : OpR X (compareOp .NotEq) rNe := by
  intro pins s σ H x y v u Q I rx ry h
  obtain ⟨hs, q⟩ := h
  cases x with
  | non =>
    cases rx
    cases y with
    | non => cases ry; exact PySem.EqNone.ne_none_none (fin_bl I q (by simp))
    | bl j => cases ry; exact PySem.EqNone.ne_none_bool (fin_bl I q (by simp))
    | int j => obtain ⟨t', rfl⟩ := ry; exact PySem.EqNone.ne_none_int (fin_bl I q (by simp))
    | str j => obtain ⟨t', rfl⟩ := ry; exact PySem.EqNone.ne_none_str (fin_bl I q (by simp))
    | _ => exact absurd (show false = true from hs) Bool.false_ne_true
  | bl i =>
    cases rx
    cases y with
    | non => cases ry; exact PySem.EqNone.ne_bool_none (fin_bl I q (by simp))
    | bl j => cases ry; exact ne_bool (fin_bl I q (congrArg not dec_bl))
    | str j => obtain ⟨t', rfl⟩ := ry; exact PySem.EqMixed.ne_bool_str (fin_bl I q (by simp))
    | _ => exact absurd (show false = true from hs) Bool.false_ne_true
  | int i =>
    obtain ⟨t, rfl⟩ := rx
    cases y with
    | non => cases ry; exact PySem.EqNone.ne_int_none (fin_bl I q (by simp))
    | int j => obtain ⟨t', rfl⟩ := ry; exact ne_int (fin_bl I q (congrArg not dec_int))
    | str j => obtain ⟨t', rfl⟩ := ry; exact PySem.EqMixed.ne_int_str (fin_bl I q (by simp))
    | _ => exact absurd (show false = true from hs) Bool.false_ne_true
  | str i =>
    obtain ⟨t, rfl⟩ := rx
    cases y with
    | non => cases ry; exact PySem.EqNone.ne_str_none (fin_bl I q (by simp))
    | bl j => cases ry; exact PySem.EqMixed.ne_str_bool (fin_bl I q (by simp))
    | int j => obtain ⟨t', rfl⟩ := ry; exact PySem.EqMixed.ne_str_int (fin_bl I q (by simp))
    | str j => obtain ⟨t', rfl⟩ := ry; exact ne_str (fin_bl I q (congrArg not dec_str))
    | _ => exact absurd (show false = true from hs) Bool.false_ne_true
  | byt i =>
    obtain ⟨t, rfl⟩ := rx
    cases y with
    | byt j => obtain ⟨t', rfl⟩ := ry; exact PySem.W.ne_bytes (fin_bl I q (congrArg not dec_byt))
    | _ => exact absurd (show false = true from hs) Bool.false_ne_true
  | _ => cases y <;> exact absurd (show false = true from hs) Bool.false_ne_true

theorem op_lt : OpR X (compareOp .Lt) (rI0 fun i j => .bl (decide (i < j))) := opB0 fun _ _ _ _ _ _ _ q => lt_int q
theorem op_le : OpR X (compareOp .LtE) (rI0 fun i j => .bl (decide (i ≤ j))) := opB0 fun _ _ _ _ _ _ _ q => le_int q
theorem op_gt : OpR X (compareOp .Gt) (rI0 fun i j => .bl (decide (j < i))) := opB0 fun _ _ _ _ _ _ _ q => gt_int q
theorem op_ge : OpR X (compareOp .GtE) (rI0 fun i j => .bl (decide (j ≤ i))) := opB0 fun _ _ _ _ _ _ _ q => ge_int q
theorem op_lt_str : OpR X (compareOp .Lt) (fun x y H Q => ∃ i j, x = .str i ∧ y = .str j ∧ Q (.bl (decide (i.cps.toList < j.cps.toList))) H) := by
  intro pins s σ H x y v u Q I rx ry h
  obtain ⟨i, j, rfl, rfl, q⟩ := h
  obtain ⟨t, rfl⟩ := rx
  obtain ⟨t', rfl⟩ := ry
  exact lt_str (fin_bl I q rfl)
/-- the one string within the other -/
theorem op_in_str : OpR X (compareOp .In) (fun x y H Q => ∃ i j, x = .str i ∧ y = .str j ∧ Q (.bl (!(Builtin.Str.occurrences j i 0 j.length 1).isEmpty)) H) := by
  intro pins s σ H x y v u Q I rx ry h
  obtain ⟨i, j, rfl, rfl, q⟩ := h
  obtain ⟨t, rfl⟩ := rx
  obtain ⟨t', rfl⟩ := ry
  exact in_str (fin_bl I q rfl)

/-- is None, is not None: the right side a value none -/
theorem op_isN : OpR X (compareOp .Is) (fun x y H Q => y = .non ∧ Q (.bl (decide (x = .non))) H) := by
  intro pins s σ H x y v u Q I rx ry h
  obtain ⟨rfl, q⟩ := h
  cases ry
  refine is_none_gen (fin_bl I q ?_)
  cases x <;> first
    | (cases rx; rfl)
    | (obtain ⟨t, rfl⟩ := rx; rfl)
theorem op_notN : OpR X (compareOp .IsNot) (fun x y H Q => y = .non ∧ Q (.bl (!decide (x = .non))) H) := by
  intro pins s σ H x y v u Q I rx ry h
  obtain ⟨rfl, q⟩ := h
  cases ry
  refine isnot_none_gen (fin_bl I q ?_)
  cases x <;> first
    | (cases rx; rfl)
    | (obtain ⟨t, rfl⟩ := rx; rfl)

theorem op_notin_str : OpR X (compareOp .NotIn) (fun x y H Q => ∃ i j, x = .str i ∧ y = .str j ∧ Q (.bl (!(!(Builtin.Str.occurrences j i 0 j.length 1).isEmpty))) H) := by
  intro pins s σ H x y v u Q I rx ry h
  obtain ⟨i, j, rfl, rfl, q⟩ := h
  obtain ⟨t, rfl⟩ := rx
  obtain ⟨t', rfl⟩ := ry
  exact notIn_str (fin_bl I q rfl)
/-- is, is not of two objects that are tracked lists or instances -/
def isObj : HO → Bool
  | .lst _ => true
  | .ins _ _ _ => true
  | _ => false
theorem obj_there {pins : List (Addr × Obj)} {s : Shared} {σ : St} {H : Hp} {a : Addr} {o : HO} (I : Inv X pins σ H s) (h : H a = some o) (p : isObj o = true) : ∃ ob, s.heap.get? a = some ob ∧ ob.cls ≠ .type "tuple" := by
  cases o with
  | lst xs =>
    obtain ⟨_, its, n, _, e⟩ : xs.length ≤ sizeLine ∧ ∃ (its : List Value) (n : Nat), Vals xs its ∧ s.heap.get? a = some { cls := .type "list", data := .seq its.toArray n } := I.hok a _ h
    exact ⟨_, e, (by show Value.type "list" ≠ .type "tuple"; decide +kernel)⟩
  | ins C dx fs =>
    have x := I.hok a _ h
    obtain ⟨_, _, _, e, _⟩ := x
    exact ⟨_, e, (by show Value.ref C ≠ .type "tuple"; exact fun z => by cases z)⟩
  | _ => exact absurd (show false = true from p) Bool.false_ne_true
theorem op_is_ref : OpR X (compareOp .Is) (fun x y H Q => ∃ a b oa ob, x = .ref a ∧ y = .ref b ∧ H a = some oa ∧ isObj oa = true ∧ H b = some ob ∧ isObj ob = true ∧ Q (.bl (decide (a = b))) H) := by
  intro pins s σ H x y v u Q I rx ry h
  obtain ⟨a, b, oa, ob, rfl, rfl, ha, pa, hb, pb, q⟩ := h
  cases rx
  cases ry
  obtain ⟨o1, e1, n1⟩ := obj_there I ha pa
  obtain ⟨o2, e2, _⟩ := obj_there I hb pb
  by_cases z : a = b
  · subst z
    exact wpAny_is_ref_self (fin_bl I q (by simp))
  · exact wpAny_is_ref_other z e1 e2 n1 (fin_bl I q (by simp [z]))
theorem op_isnot_ref : OpR X (compareOp .IsNot) (fun x y H Q => ∃ a b oa ob, x = .ref a ∧ y = .ref b ∧ H a = some oa ∧ isObj oa = true ∧ H b = some ob ∧ isObj ob = true ∧ Q (.bl (!decide (a = b))) H) := by
  intro pins s σ H x y v u Q I rx ry h
  obtain ⟨a, b, oa, ob, rfl, rfl, ha, pa, hb, pb, q⟩ := h
  cases rx
  cases ry
  obtain ⟨o1, e1, n1⟩ := obj_there I ha pa
  obtain ⟨o2, e2, _⟩ := obj_there I hb pb
  by_cases z : a = b
  · subst z
    exact wpAny_isNot_ref_self (fin_bl I q (by simp))
  · exact wpAny_isNot_ref_other z e1 e2 n1 (fin_bl I q (by simp [z]))

/-- two rules for one operation: by cases -/
theorem OpR.or {f : Value → Value → Sem Value} {r r' : R2} (h : OpR X f r) (h' : OpR X f r') : OpR X f (fun x y H Q => r x y H Q ∨ r' x y H Q) := by
  intro pins s σ H x y v u Q I rx ry q
  rcases q with q | q
  · exact h pins s σ H x y v u Q I rx ry q
  · exact h' pins s σ H x y v u Q I rx ry q

theorem nomark (b : Expr) {op : CmpOp} (h : op ≠ .In := by decide) (h2 : op ≠ .NotIn := by decide) : behindInMarks op b = false := by
  have e1 : (op == CmpOp.In) = false := by cases op <;> first | rfl | exact absurd rfl h
  have e2 : (op == CmpOp.NotIn) = false := by cases op <;> first | rfl | exact absurd rfl h2
  cases b <;> simp [behindInMarks, e1, e2]
/-- a comparison as a value; hm: nomark b, or (for in, not in) by with_unfolding_all rfl -/
theorem pe_cmpR {op : CmpOp} {r : R2} (ho : OpR X (compareOp op) r) (ha : PE X a ta) (hb : PE X b tb) (hm : behindInMarks op b = false) : PE X (.Compare a [op] [b] pos) (tOp r ta tb) := by
  intro pins s σ H Q I h
  exact wpAny_Compare1 (binT ha hb I h fun v u s2 x y H2 I2 rx ry q => ho pins s2 σ H2 x y v u Q I2 rx ry q) hm
/-- a reading of a value as a test -/
def tTest (t : TE) : TT := fun σ H Q => t σ H fun x H' => ∃ k, x = .bl k ∧ Q k H'
theorem pt_cmpR {op : CmpOp} {r : R2} (ho : OpR X (compareOp op) r) (ha : PE X a ta) (hb : PE X b tb) (hm : behindInMarks op b = false) : PT X (.Compare a [op] [b] pos) (tTest (tOp r ta tb)) := by
  intro pins s σ H Q I h
  refine wpAny_isTrue_Compare1 (thn (ha pins s σ H _ I h) fun v s1 ⟨x, H1, I1, r1, q1⟩ => thn (hb pins s1 σ H1 _ I1 q1) fun u s2 ⟨y, H2, I2, r2, q2⟩ =>
    thn (ho pins s2 σ H2 x y v u _ I2 r1 r2 q2) fun c s3 ⟨z, H3, I3, r3, k, e, q3⟩ => ?_) hm
  subst e
  cases r3
  exact wpAny_truthy_bool ⟨H3, I3, q3⟩
/-- a op1 b op2 c -/
def tChain (r r' : R2) (ta tb tc : TE) : TE := fun σ H Q => ta σ H fun x H1 => tb σ H1 fun y H2 => r x y H2 fun z H3 => ∃ k, z = .bl k ∧
  (if k = true then tc σ H3 fun w' H4 => r' y w' H4 Q else Q (.bl false) H3)
theorem pe_chain {op op' : CmpOp} {r r' : R2} (ho : OpR X (compareOp op) r) (ho' : OpR X (compareOp op') r') (ha : PE X a ta) (hb : PE X b tb) (hc : PE X c tc)
    (hm : lastMarks [op, op'] [b, c] = false := by with_unfolding_all rfl) : PE X (.Compare a [op, op'] [b, c] pos) (tChain r r' ta tb tc) := by
  intro pins s σ H Q I h
  refine Compare_chain (thn (ha pins s σ H _ I h) fun v s1 ⟨x, H1, I1, r1, q1⟩ => chain_link (thn (hb pins s1 σ H1 _ I1 q1) fun u s2 ⟨y, H2, I2, r2, q2⟩ =>
    thn (ho pins s2 σ H2 x y v u _ I2 r1 r2 q2) fun d s3 ⟨z, H3, I3, r3, k, e, q3⟩ => ?_)) hm
  subst e
  cases r3
  refine wpAny_truthy_bool ?_
  cases k with
  | false => exact ite_ff ⟨.bl false, H3, I3, rfl, q3⟩
  | true => exact ite_tt (chain_last (thn (hc pins s3 σ H3 _ I3 q3) fun w' s4 ⟨z', H4, I4, r4, q4⟩ => ho' pins s4 σ H4 y z' u w' Q I4 r2 r4 q4))
theorem pt_chain {op op' : CmpOp} {r r' : R2} (ho : OpR X (compareOp op) r) (ho' : OpR X (compareOp op') r') (ha : PE X a ta) (hb : PE X b tb) (hc : PE X c tc)
    (hm : lastMarks [op, op'] [b, c] = false := by with_unfolding_all rfl) : PT X (.Compare a [op, op'] [b, c] pos) (tTest (tChain r r' ta tb tc)) := by
  intro pins s σ H Q I h
  refine isTrue_chain (thn (ha pins s σ H _ I h) fun v s1 ⟨x, H1, I1, r1, q1⟩ => test_link (thn (hb pins s1 σ H1 _ I1 q1) fun u s2 ⟨y, H2, I2, r2, q2⟩ =>
    thn (ho pins s2 σ H2 x y v u _ I2 r1 r2 q2) fun d s3 ⟨z, H3, I3, r3, k, e, q3⟩ => ?_)) hm
  subst e
  cases r3
  refine wpAny_truthy_bool ?_
  cases k with
  | false =>
    obtain ⟨k', e', q'⟩ := q3
    cases e'
    exact ite_ff ⟨H3, I3, q'⟩
  | true =>
    refine ite_tt (test_last (thn (hc pins s3 σ H3 _ I3 q3) fun w' s4 ⟨z', H4, I4, r4, q4⟩ => thn (ho' pins s4 σ H4 y z' u w' _ I4 r2 r4 q4) fun d' s5 ⟨z2, H5, I5, r5, k2, e2, q5⟩ => ?_))
    subst e2
    cases r5
    exact wpAny_truthy_bool ⟨H5, I5, q5⟩

/-! ### truth -/
/-- a value's truth by the abstract heap -/
def TruV (K : PySem.W.Frag) (x : V) (H : Hp) (k : Bool) : Prop :=
  match x with
  | .non => k = false
  | .bl b => k = b
  | .int i => k = (i != 0)
  | .str y => y.length ≤ sizeLine ∧ k = ((y.length : Int) != 0)
  | .byt y => y.size ≤ sizeLine ∧ k = ((y.size : Int) != 0)
  | .ref p => (∃ xs, SqL K H p xs ∧ k = !xs.isEmpty) ∨ (∃ xs, SqT K H p xs ∧ k = !xs.isEmpty) ∨ ∃ kvs, H p = some (.dK kvs) ∧ k = !kvs.isEmpty
  | _ => False
theorem isEmpty_kv {κ : Type} {kvs : List (κ × V)} {vs : List (κ × Value)} (r : KV kvs vs) : (!vs.isEmpty) = !kvs.isEmpty := by
  cases r <;> rfl
theorem isEmpty_of {xs : List V} {its : List Value} (r : Vals xs its) : (!its.toArray.isEmpty) = !xs.isEmpty := by
  cases r <;> simp
theorem line63 : (sizeLine : Nat) < 2 ^ 63 := by rw [sizeLine_eq]; decide
theorem tru_ok : TruR X (fun x H Q => ∃ k, TruV X.K x H k ∧ Q k H) := by
  intro pins s σ H x v Q I rx h
  obtain ⟨k, e, q⟩ := h
  have hl := line63
  have hs : sizeLine = 16777216 := sizeLine_eq
  cases x with
  | non =>
    cases rx
    have e' : k = false := e
    subst e'
    exact truthy_none ⟨H, I, q⟩
  | bl b =>
    cases rx
    have e' : k = b := e
    subst e'
    exact wpAny_truthy_bool ⟨H, I, q⟩
  | int i =>
    obtain ⟨t, rfl⟩ := rx
    have e' : k = (i != 0) := e
    subst e'
    exact PySem.P.truthy_int ⟨H, I, q⟩
  | str y =>
    obtain ⟨t, rfl⟩ := rx
    obtain ⟨hy, e'⟩ : y.length ≤ sizeLine ∧ k = ((y.length : Int) != 0) := e
    subst e'
    exact PySem.P.truthy_str (by omega) ⟨H, I.tok _, q⟩
  | byt y =>
    obtain ⟨t, rfl⟩ := rx
    obtain ⟨hy, e'⟩ : y.size ≤ sizeLine ∧ k = ((y.size : Int) != 0) := e
    subst e'
    exact PySem.W.truthy_bytes (by omega) ⟨H, I.tok _, q⟩
  | ref p =>
    cases rx
    have e' : (∃ xs, SqL X.K H p xs ∧ k = !xs.isEmpty) ∨ (∃ xs, SqT X.K H p xs ∧ k = !xs.isEmpty) ∨ ∃ kvs, H p = some (.dK kvs) ∧ k = !kvs.isEmpty := e
    rcases e' with ⟨xs, hx, e'⟩ | ⟨xs, hx, e'⟩ | ⟨kvs, hx, e'⟩
    · subst e'
      obtain ⟨its, r, pl, hz⟩ := I.list hx
      have hlen := r.length
      exact wpAny_truthy_list pl.isList (by simp only [List.size_toArray]; omega) ⟨H, I.tok _, by rw [isEmpty_of r]; exact q⟩
    · subst e'
      obtain ⟨its, r, pl, hz⟩ := I.tuple hx
      have hlen := r.length
      exact truthy_tuple pl (by simp only [List.size_toArray]; omega) ⟨H, I.tok _, by rw [isEmpty_of r]; exact q⟩
    · subst e'
      obtain ⟨hz, hS, vs, r, m⟩ : kvs.length ≤ sizeLine ∧ (p == sysModules) = false ∧ ∃ vs, KV kvs vs ∧ s.heap.DictOf (mixKind X.prog X.w) p vs := I.hok p _ hx
      have hlen : kvs.length = vs.length := Paired.length r
      exact wpAny_truthy_dict hS m (by omega) ⟨H, I.tok _, by rw [isEmpty_kv r]; exact q⟩
  | _ => exact (show False from e).elim
/-- any expression whose test is its value's truth (a name, a call, a subscript, a field ..: he by fun _ => rfl) -/
theorem pt_truth (ha : PE X a ta) (he : ∀ whole, isTrue a X.env whole = (do let v ← whole; standAt a.pos; holding [v] (truthy v))) :
    PT X a (fun σ H Q => ta σ H fun x H' => ∃ k, TruV X.K x H' k ∧ Q k H') := by
  intro pins s σ H Q I h
  exact isTrue_plain (thn (ha pins s σ H _ I h) fun v s1 ⟨x, H1, I1, r1, q1⟩ => tru_ok pins s1 σ H1 x v Q I1 r1 q1) (he _)

/-! ### strs and bytes -/
theorem pe_byt {x : List UInt8} {k : Nat} : PE X (.Constant (.bytes x) k pos) (fun _ H Q => Q (.byt x.toArray) H) := fun _ _ _ H _ I h => PySem.W.Constant_bytes ⟨.byt x.toArray, H, I.tok _, ⟨_, rfl⟩, h⟩
theorem op_add_str : OpR X (binaryOp .Add) (fun x y H Q => ∃ i j, x = .str i ∧ y = .str j ∧ i.length + j.length ≤ sizeLine ∧ Q (.str (i ++ j)) H) := by
  intro pins s σ H x y v u Q I rx ry h
  obtain ⟨i, j, rfl, rfl, hz, q⟩ := h
  obtain ⟨t, rfl⟩ := rx
  obtain ⟨t', rfl⟩ := ry
  exact add_str (fun t' tk => ⟨.str (i ++ j), H, I.tok _, ⟨_, rfl⟩, q⟩) hz
theorem iop_add_str : OpR X (inplaceOp .Add) (fun x y H Q => ∃ i j, x = .str i ∧ y = .str j ∧ i.length + j.length ≤ sizeLine ∧ Q (.str (i ++ j)) H) := by
  intro pins s σ H x y v u Q I rx ry h
  obtain ⟨i, j, rfl, rfl, hz, q⟩ := h
  obtain ⟨t, rfl⟩ := rx
  obtain ⟨t', rfl⟩ := ry
  exact iadd_str (fun t' tk => ⟨.str (i ++ j), H, I.tok _, ⟨_, rfl⟩, q⟩) hz
theorem op_add_byt : OpR X (binaryOp .Add) (fun x y H Q => ∃ i j, x = .byt i ∧ y = .byt j ∧ i.size + j.size ≤ 16777216 ∧ Q (.byt (i ++ j)) H) := by
  intro pins s σ H x y v u Q I rx ry h
  obtain ⟨i, j, rfl, rfl, hz, q⟩ := h
  obtain ⟨t, rfl⟩ := rx
  obtain ⟨t', rfl⟩ := ry
  exact PySem.W.KBy.add_bytes hz (fun t' tk => ⟨.byt (i ++ j), H, I.tok _, ⟨_, rfl⟩, q⟩)

def PlainIxT (b : Expr) : Prop := ∀ o i, subscripted b false o i = operate [o, i] (getItem o i)
/-- s[i], 0 ≤ i < len -/
theorem pe_item_str (ha : PE X a ta) (hb : PE X b tb) (hs : PlainIxT b) :
    PE X (.Subscript a b pos) (tOp (fun x y H Q => ∃ z i c, x = .str z ∧ y = .int i ∧ 0 ≤ i ∧ i < 2 ^ 63 ∧ i < z.length ∧ z.cps[i.toNat]? = some c ∧ Q (.str ⟨#[c]⟩) H) ta tb) := by
  intro pins s σ H Q I h
  refine Subscript_ (binT ha hb I h fun v u s2 x y H2 I2 rx ry q => ?_)
  obtain ⟨z, i, c, rfl, rfl, h0, h63, h1, hc, q⟩ := q
  obtain ⟨t, rfl⟩ := rx
  obtain ⟨t', rfl⟩ := ry
  have e : seqIndex? i z.length = some i.toNat := PySem.StrLaws.seqIndex_nonneg h0 h1
  exact tail_any (typeIs_str s2 z t) slot_str_getitem.lookup (getItem_str (c := c) (by
    have e1 : decide (i < -(2 ^ 63 : Int)) = false := decide_eq_false (by omega)
    have e2 : decide (i ≥ 2 ^ 63) = false := decide_eq_false (by omega)
    rw [e1, e2] <;> rfl) (by rw [e]; exact hc) ⟨.str ⟨#[c]⟩, H2, I2.tok _, ⟨_, rfl⟩, q⟩) (hs _ _)
/-- b[i], 0 ≤ i < len -/
theorem pe_item_byt (ha : PE X a ta) (hb : PE X b tb) (hs : PlainIxT b) :
    PE X (.Subscript a b pos) (tOp (fun x y H Q => ∃ (z : List UInt8) (i : Int), x = .byt z.toArray ∧ y = .int i ∧ z.length ≤ sizeLine ∧ 0 ≤ i ∧ i < z.length ∧ Q (.int ((z.getD i.toNat 0).toNat : Nat)) H) ta tb) := by
  intro pins s σ H Q I h
  refine Subscript_ (binT ha hb I h fun v u s2 x y H2 I2 rx ry q => ?_)
  obtain ⟨z, i, rfl, rfl, hz, h0, h1, q⟩ := q
  obtain ⟨t, rfl⟩ := rx
  obtain ⟨t', rfl⟩ := ry
  have hl : sizeLine = 16777216 := sizeLine_eq
  exact tail_any (PySem.W.typeIs_bytes s2 z.toArray t) PySem.W.FB.slot_bytes_getitem.lookup (PySem.W.getItem_bytes (by omega) h0 h1 ⟨.int ((z.getD i.toNat 0).toNat : Nat), H2, I2.tok _, ⟨_, rfl⟩, q⟩) (hs _ _)

/-! ### scalar builtins, by CallR -/
theorem vals1 {x : V} {us : List Value} (r : Vals [x] us) : ∃ u, us = [u] ∧ RelV x u := by
  cases r with
  | cons r1 r2 => cases r2; exact ⟨_, rfl, r1⟩
theorem vals2 {x y : V} {us : List Value} (r : Vals [x, y] us) : ∃ u w', us = [u, w'] ∧ RelV x u ∧ RelV y w' := by
  cases r with
  | cons r1 r2 =>
    cases r2 with
    | cons r3 r4 => cases r4; exact ⟨_, _, rfl, r1, r3⟩
theorem call_abs : CallR X (.builtin "abs") (fun xs H Q => ∃ i, xs = [.int i] ∧ Q (.int (if i < 0 then -i else i)) H) := by
  intro pins s σ H xs us Q I r h
  obtain ⟨i, rfl, q⟩ := h
  obtain ⟨u, rfl, t, rfl⟩ := vals1 r
  exact call_abs_int fun u tk => ⟨.int (if i < 0 then -i else i), H, I.tok _, ⟨_, rfl⟩, q⟩
theorem call_max2 (hc : X.calm = true) : CallR X (.builtin "max") (fun xs H Q => ∃ i j, xs = [.int i, .int j] ∧ Q (.int (if j > i then j else i)) H) := by
  intro pins s σ H xs us Q I r h
  obtain ⟨i, j, rfl, q⟩ := h
  obtain ⟨u, w', rfl, ⟨t, rfl⟩, ⟨t', rfl⟩⟩ := vals2 r
  refine max_two_ints (I.ok.hd hc) fun h' tk k => ⟨_, H, I.kept k, ?_, q⟩
  by_cases hj : j > i
  · rw [if_pos hj, if_pos hj]; exact ⟨_, rfl⟩
  · rw [if_neg hj, if_neg hj]; exact ⟨_, rfl⟩
theorem call_min2 (hc : X.calm = true) : CallR X (.builtin "min") (fun xs H Q => ∃ i j, xs = [.int i, .int j] ∧ Q (.int (if j < i then j else i)) H) := by
  intro pins s σ H xs us Q I r h
  obtain ⟨i, j, rfl, q⟩ := h
  obtain ⟨u, w', rfl, ⟨t, rfl⟩, ⟨t', rfl⟩⟩ := vals2 r
  refine min_two_ints (I.ok.hd hc) fun h' tk k => ⟨_, H, I.kept k, ?_, q⟩
  by_cases hj : j < i
  · rw [if_pos hj, if_pos hj]; exact ⟨_, rfl⟩
  · rw [if_neg hj, if_neg hj]; exact ⟨_, rfl⟩
theorem call_int1 : CallR X (.type "int") (fun xs H Q => (∃ i, xs = [.int i] ∧ Q (.int i) H) ∨ ∃ k, xs = [.bl k] ∧ Q (.int (if k then 1 else 0)) H) := by
  intro pins s σ H xs us Q I r h
  rcases h with ⟨i, rfl, q⟩ | ⟨k, rfl, q⟩
  · obtain ⟨u, rfl, t, rfl⟩ := vals1 r
    exact call_int_int ⟨.int i, H, I, ⟨_, rfl⟩, q⟩
  · obtain ⟨u, rfl, r1⟩ := vals1 r
    cases r1
    exact call_int_bool ⟨.int (if k then 1 else 0), H, I.tok _, ⟨_, rfl⟩, q⟩
theorem call_bool1 : CallR X (.type "bool") (fun xs H Q => (∃ i, xs = [.int i] ∧ Q (.bl (i != 0)) H) ∨ ∃ k, xs = [.bl k] ∧ Q (.bl k) H) := by
  intro pins s σ H xs us Q I r h
  rcases h with ⟨i, rfl, q⟩ | ⟨k, rfl, q⟩
  · obtain ⟨u, rfl, t, rfl⟩ := vals1 r
    exact call_bool_int ⟨.bl (i != 0), H, I, rfl, q⟩
  · obtain ⟨u, rfl, r1⟩ := vals1 r
    cases r1
    exact call_bool_bool ⟨.bl k, H, I, rfl, q⟩
theorem call_str_int : CallR X (.type "str") (fun xs H Q => ∃ i, xs = [.int i] ∧ i.natAbs.log2 < 1920 ∧ Q (.str (toString i)) H) := by
  intro pins s σ H xs us Q I r h
  obtain ⟨i, rfl, hz, q⟩ := h
  obtain ⟨u, rfl, t, rfl⟩ := vals1 r
  exact PySem.P.str_of_int hz ⟨.str _, H, I.tok _, ⟨_, rfl⟩, q⟩
theorem call_ord : CallR X (.builtin "ord") (fun xs H Q => ∃ x, xs = [.str x] ∧ x.length = 1 ∧ Q (.int (x.cps.getD 0 0 : Nat)) H) := by
  intro pins s σ H xs us Q I r h
  obtain ⟨x, rfl, hz, q⟩ := h
  obtain ⟨u, rfl, t, rfl⟩ := vals1 r
  exact ord_of_one hz ⟨.int _, H, I.tok _, ⟨_, rfl⟩, q⟩
theorem call_chr : CallR X (.builtin "chr") (fun xs H Q => ∃ i, xs = [.int i] ∧ 0 ≤ i ∧ i ≤ 1114111 ∧ Q (.str ⟨#[i.toNat]⟩) H) := by
  intro pins s σ H xs us Q I r h
  obtain ⟨i, rfl, h0, h1, q⟩ := h
  obtain ⟨u, rfl, t, rfl⟩ := vals1 r
  exact chr_of_range h0 h1 ⟨.str _, H, I.tok _, ⟨_, rfl⟩, q⟩
/-- len of a str, a bytes, a list, a tuple -/
def LenV (K : PySem.W.Frag) (x : V) (H : Hp) (n : Nat) : Prop :=
  match x with
  | .str y => y.length ≤ sizeLine ∧ n = y.length
  | .byt y => y.size ≤ sizeLine ∧ n = y.size
  | .ref p => (∃ xs, SqL K H p xs ∧ n = xs.length) ∨ ∃ xs, SqT K H p xs ∧ n = xs.length
  | _ => False
theorem call_len : CallR X (.builtin "len") (fun xs H Q => ∃ x n, xs = [x] ∧ LenV X.K x H n ∧ Q (.int n) H) := by
  intro pins s σ H xs us Q I r h
  obtain ⟨x, n, rfl, e, q⟩ := h
  obtain ⟨u, rfl, rx⟩ := vals1 r
  have hl := line63
  have hs : sizeLine = 16777216 := sizeLine_eq
  cases x with
  | str y =>
    obtain ⟨t, rfl⟩ := rx
    obtain ⟨hy, e'⟩ : y.length ≤ sizeLine ∧ n = y.length := e
    subst e'
    exact len_str (by omega) ⟨.int _, H, I.tok _, ⟨_, rfl⟩, q⟩
  | byt y =>
    obtain ⟨t, rfl⟩ := rx
    obtain ⟨hy, e'⟩ : y.size ≤ sizeLine ∧ n = y.size := e
    subst e'
    exact PySem.W.len_bytes (by omega) ⟨.int _, H, I.tok _, ⟨_, rfl⟩, q⟩
  | ref p =>
    cases rx
    have e' : (∃ xs, SqL X.K H p xs ∧ n = xs.length) ∨ ∃ xs, SqT X.K H p xs ∧ n = xs.length := e
    rcases e' with ⟨xs, hx, e'⟩ | ⟨xs, hx, e'⟩
    · subst e'
      obtain ⟨its, r', pl, hz⟩ := I.list hx
      have hlen := r'.length
      exact Calls.call_len_list pl.isList (by simp only [List.size_toArray]; omega) ⟨.int xs.length, H, I.tok _, ⟨_, by simp only [List.size_toArray]; rw [hlen]⟩, q⟩
    · subst e'
      obtain ⟨its, r', pl, hz⟩ := I.tuple hx
      have hlen := r'.length
      exact len_tuple pl (by simp only [List.size_toArray]; omega) ⟨.int xs.length, H, I.tok _, ⟨_, by simp only [List.size_toArray]; rw [hlen]⟩, q⟩
  | _ => exact (show False from e).elim
/-- divmod: a new tuple -/
theorem call_divmod : CallR X (.builtin "divmod") (fun xs H Q => ∃ i j, xs = [.int i, .int j] ∧ CDiv i j ∧ ∀ p, H p = none → Q (.ref p) (upd H p (.tup [.int (i / j), .int (i % j)]))) := by
  intro pins s σ H xs us Q I r h
  obtain ⟨i, j, rfl, ⟨h1, h2⟩, q⟩ := h
  obtain ⟨u, w', rfl, ⟨t, rfl⟩, ⟨t', rfl⟩⟩ := vals2 r
  refine divmod_int (by omega) ?_ (.inl (PyProof.noPylong_small (by omega)))
  rw [Int.fdiv_eq_ediv_of_nonneg i (by omega), Int.fmod_eq_emod_of_nonneg i (by omega)]
  have hn : H s.heap.objs.size = none := I.hok.fresh (Nat.le_refl _)
  refine ⟨.ref s.heap.objs.size, _, ?_, rfl, q _ hn⟩
  refine I.laid (fun b o e => Heap.get?_push_of_some _ e) (Nat.le_refl _) ⟨by simp only [List.length_cons, List.length_nil]; rw [sizeLine_eq]; decide, [.int (i / j) s.toks, .int (i % j) (s.toks + 1)], .cons ⟨_, rfl⟩ (.cons ⟨_, rfl⟩ .nil), ?_⟩
  exact ⟨_, Heap.get?_push_size s.heap rfl, rfl, 0, rfl⟩
end
end L2

namespace L2
open PySem PySem.Spec PyProof.Rows

/-! ### an instance, its attributes a map -/
structure ObjM (h : Heap) (x dx C : Addr) (mA : Str → Option Value) : Prop where
  obj : h.get? x = some (PySem.W.instObj C dx)
  ns : h.Ns1 dx mA
  ne : dx ≠ x

theorem lookIn_ns {h : Heap} {dx : Addr} {mA : Str → Option Value} (n : h.Ns1 dx mA) : ∃ od, h.get? dx = some od ∧ ∀ name, PySem.W.lookIn name od = some (mA name) := by
  obtain ⟨o, es, ep, ho, hd, hk, _, hm⟩ := n
  refine ⟨o, ho, fun name => ?_⟩
  have e := hm name
  unfold nsFind findBy at e
  rw [← Array.find?_toList] at e
  unfold PySem.W.lookIn
  rw [hd]
  dsimp only
  split
  · rename_i y q
    rw [q] at e
    exact congrArg some e
  · rename_i q
    rw [q] at e
    have a : es.toList.any (·.refKey) = false := by
      rw [List.any_eq_false]
      intro y hy
      obtain ⟨z, t, hkey⟩ := hk y (Array.mem_toList_iff.mp hy)
      simp [DictEntry.refKey, hkey]
    have a' : ¬ es.toList.any (·.refKey) = true := by rw [a]; exact Bool.false_ne_true
    rw [if_neg a']
    exact congrArg some e

theorem ObjM.look {h : Heap} {x dx C : Addr} {mA : Str → Option Value} (I : ObjM h x dx C mA) : ∃ od, PySem.W.InstAt h x (PySem.W.instObj C dx) C (some od) ∧ ∀ name, PySem.W.lookIn name od = some (mA name) :=
  let ⟨od, ho, hl⟩ := lookIn_ns I.ns
  ⟨od, ⟨I.obj, rfl, rfl, ho⟩, hl⟩

section
variable {prog : Program} {w : World} {A : Around} {E : Value → Shared → Prop} {s : Shared} {K : PySem.W.Frag} {x dx C f : Addr} {mA : Str → Option Value} {name : Str} {v : Value}

theorem get_map {expr : Bool} {Q : Value → Shared → Prop} (X : K.In s.heap) (I : ObjM s.heap x dx C mA) (hg : PySem.W.plainGet K C name = true) (hh : PySem.W.hasDictIn K C = true)
    (ha : PySem.W.findIn K (.ref C) name = some none) (hv : mA name = some v) (hv' : PySem.W.handedIn v = true) (h : Q v { s with toks := s.toks + 1 }) :
    wpAny (model prog w) A (getAttr (.ref x) name expr) Q E s := by
  obtain ⟨od, J, hl⟩ := I.look
  exact PySem.W.get_value X J (PySem.W.plainGet_of hg).1 (PySem.W.findObj_own hh ha rfl (by rw [hl, hv])) hv' h

theorem get_const {expr : Bool} {a : Value} {Q : Value → Shared → Prop} (X : K.In s.heap) (I : ObjM s.heap x dx C mA) (hg : PySem.W.plainGet K C name = true) (hh : PySem.W.hasDictIn K C = true)
    (ha : PySem.W.findIn K (.ref C) name = some (some a)) (hn : PySem.W.specialIn K a "__get__" = some none) (hc : PySem.W.copiedNames.contains name = false) (hv : mA name = none) (hv' : PySem.W.handedIn a = true)
    (h : Q a { s with toks := s.toks + 1 }) : wpAny (model prog w) A (getAttr (.ref x) name expr) Q E s := by
  obtain ⟨od, J, hl⟩ := I.look
  exact PySem.W.get_value X J (PySem.W.plainGet_of hg).1 (PySem.W.findObj_cls hh ha hn hv' hc (by rw [hl, hv])) hv' h

theorem get_meth {pl : Sem Bool} {Q : Value × List Value → Shared → Prop} (X : K.In s.heap) (I : ObjM s.heap x dx C mA) (hg : PySem.W.plainGet K C name = true)
    (hf : PySem.W.findIn K (.ref C) name = some (some (.ref f))) (ht : PySem.W.isFn K (.ref f) = true) (hv : mA name = none) (h : Q (.ref f, [.ref x]) s) :
    wpAny (model prog w) A (getMethod (.ref x) name pl) Q E s := by
  obtain ⟨od, J, hl⟩ := I.look
  exact PySem.W.method_fn X J (PySem.W.plainGet_of hg).1 (PySem.W.plainGet_of hg).2 hf (beq_iff_eq.mp ht) (by show (PySem.W.lookIn name od).map (·.isSome) = some false; rw [hl, hv]; rfl) h

theorem set_map {ns : List Str} {Q : Unit → Shared → Prop} (X : K.In s.heap) (I : ObjM s.heap x dx C mA)
    (hs : PySem.W.findIn K (.ref C) "__setattr__" = some (some (.builtin "object.__setattr__"))) (hp : PySem.W.plainOver K C = true) (ht : PySem.W.takerIn K C name = some none) (hh : PySem.W.hasDictIn K C = true)
    (hw : PySem.Within mA ns) (hsz : ns.length ≤ sizeLine)
    (h : ∀ h', ObjM h' x dx C (fun y => if y = name then some v else mA y) → Heap.SameBut dx s.heap h' → Q () { s with heap := h', toks := s.toks + 2 }) :
    wpAny (model prog w) A (setAttr (.ref x) name v) Q E s := by
  obtain ⟨od, J, hl⟩ := I.look
  refine PySem.W.set_plain X J hs (PySem.W.osa_open (s := { s with toks := s.toks + 1 }) (r := none) X J hp ht fun b => ?_)
  obtain ⟨cd, hc, hd'⟩ := PySem.W.any_some hh
  have hx : s.heap.get? x = some ⟨.ref C, some dx, .plain, #[]⟩ := I.obj
  refine wpAny_bind (wpAny_pure (wpAny_bind (wpAny_bind (wpAny_loadPart hx (wpAny_bind (PySem.W.Looks.here (s := { s with toks := s.toks + 1 }) (PySem.W.looks_clsIn X hc) ?_))))))
  rw [hd']
  refine wpAny_pure (a := some dx) (wpAny_bind (wpAny_pure (wpAny_bind ?_)))
  refine wpAny_nsSet1 (s := { s with toks := s.toks + 1 }) I.ns fun h' hn2 hs2 => ?_
  obtain ⟨oD, esD, epD, hoD, hdD, hcD⟩ := hn2.count (PySem.Within.cons name v hw)
  refine wpAny_bind (wpAny_lookBehind hoD (by rw [hdD]; exact pastItsLine_dict (Nat.le_trans hcD (by rw [List.length_cons]; omega))) ?_)
  exact wpAny_pure (h _ ⟨(hs2.2 _ (Ne.symm I.ne)).trans I.obj, hn2, I.ne⟩ hs2)

/-- C(..): the dict at the heap's end, the instance behind it; then its __init__ -/
theorem make_map {R : Result → Shared → Prop} {vs : List Value} {kw : List (Str × Value)} (X : K.In s.heap) (hm : PySem.W.makesIn K C = true)
    (hi : PySem.W.findIn K (.ref C) "__init__" = some (some (.ref f))) (hf : PySem.W.typeIn K (.ref f) = some (.type "function"))
    (h : codeAny (model prog w) (A.under (.builtin "type.__call__" ⟨.ref C :: vs, kw⟩)) (.call (.ref f) ⟨.ref (s.heap.objs.size + 1) :: vs, kw⟩) (PySem.W.InitBack (s.heap.objs.size + 1) R)
      { s with heap := (s.heap.push PySem.W.emptyDict).push (PySem.W.instObj C s.heap.objs.size) }) :
    codeAny (model prog w) A (.call (.ref C) ⟨vs, kw⟩) R s := by
  obtain ⟨hh, g, d, t, os⟩ := s
  exact PySem.W.make_core (PySem.W.makes_of X hm) (PySem.W.looks_findIn X hi) (fun self => PySem.W.bind_fn X self hf) (.inl rfl) h
/-- C() where there is no __init__ but object's -/
theorem make_map0 {R : Result → Shared → Prop} (X : K.In s.heap) (hm : PySem.W.makesIn K C = true)
    (hi : PySem.W.findIn K (.ref C) "__init__" = some (some (.builtin "object.__init__")))
    (hb : ∀ self, PySem.W.Looks (model prog w) s.heap (bindSpecial (.builtin "object.__init__") self) (.builtin "object.__init__", [self]))
    (h : codeAny (model prog w) (A.under (.builtin "type.__call__" ⟨[.ref C], []⟩)) (.call (.builtin "object.__init__") ⟨[.ref (s.heap.objs.size + 1)], []⟩) (PySem.W.InitBack (s.heap.objs.size + 1) R)
      { s with heap := (s.heap.push PySem.W.emptyDict).push (PySem.W.instObj C s.heap.objs.size) }) :
    codeAny (model prog w) A (.call (.ref C) ⟨[], []⟩) R s := by
  obtain ⟨hh, g, d, t, os⟩ := s
  exact PySem.W.make_core (PySem.W.makes_of X hm) (PySem.W.looks_findIn X hi) hb (.inr ⟨rfl, rfl⟩) h
end

/-! ### the attributes as a list of pairs -/
def putF (f : Str) (v : V) : List (Str × V) → List (Str × V)
  | [] => [(f, v)]
  | (g, x) :: r => if g = f then (g, v) :: r else (g, x) :: putF f v r
theorem lookup_putF (f g : Str) (v : V) : ∀ fs : List (Str × V), (putF f v fs).lookup g = if g = f then some v else fs.lookup g
  | [] => by
    show List.lookup g [(f, v)] = _
    by_cases h : g = f
    · have hb : (g == f) = true := beq_iff_eq.mpr h
      simp only [List.lookup, hb, if_pos h]
    · have hb : (g == f) = false := beq_eq_false_iff_ne.mpr h
      simp only [List.lookup, hb, if_neg h]
  | (k, x) :: r => by
    have ih := lookup_putF f g v r
    rw [show putF f v ((k, x) :: r) = (if k = f then (k, v) :: r else (k, x) :: putF f v r) from rfl]
    by_cases hk : k = f
    · rw [if_pos hk]
      by_cases h : g = k
      · have hb : (g == k) = true := beq_iff_eq.mpr h
        simp only [List.lookup, hb, if_pos (h.trans hk)]
      · have hb : (g == k) = false := beq_eq_false_iff_ne.mpr h
        simp only [List.lookup, hb, if_neg (fun e : g = f => h (e.trans hk.symm))]
    · rw [if_neg hk]
      by_cases h : g = k
      · have hb : (g == k) = true := beq_iff_eq.mpr h
        simp only [List.lookup, hb, if_neg (fun e : g = f => hk (h.symm.trans e))]
      · have hb : (g == k) = false := beq_eq_false_iff_ne.mpr h
        simp only [List.lookup, hb]
        exact ih
theorem keys_putF (f : Str) (v : V) : ∀ fs : List (Str × V), f ∈ (putF f v fs).map (·.1) ∧ ∀ g, g ∈ fs.map (·.1) → g ∈ (putF f v fs).map (·.1)
  | [] => ⟨by simp [putF], fun g h => by simp at h⟩
  | (k, x) :: r => by
    obtain ⟨i1, i2⟩ := keys_putF f v r
    rw [show putF f v ((k, x) :: r) = (if k = f then (k, v) :: r else (k, x) :: putF f v r) from rfl]
    by_cases hk : k = f
    · rw [if_pos hk]
      subst hk
      exact ⟨by simp, fun g h => by simpa using h⟩
    · rw [if_neg hk]
      refine ⟨?_, fun g h => ?_⟩
      · rw [List.map_cons]
        exact List.mem_cons_of_mem _ i1
      · rw [List.map_cons] at h ⊢
        rcases List.mem_cons.mp h with e | e
        · exact List.mem_cons.mpr (.inl e)
        · exact List.mem_cons_of_mem _ (i2 g e)
theorem length_putF (f : Str) (v : V) : ∀ fs : List (Str × V), (putF f v fs).length ≤ fs.length + 1
  | [] => by simp [putF]
  | (k, x) :: r => by
    have ih := length_putF f v r
    rw [show putF f v ((k, x) :: r) = (if k = f then (k, v) :: r else (k, x) :: putF f v r) from rfl]
    by_cases hk : k = f
    · rw [if_pos hk, List.length_cons, List.length_cons]; omega
    · rw [if_neg hk, List.length_cons, List.length_cons]; omega

theorem RelO.some_of {v : V} {o : Option Value} (r : RelO (some v) o) : ∃ u, o = some u ∧ RelV v u := by
  cases o with
  | none => exact (show False from r).elim
  | some u => exact ⟨u, rfl, r⟩
theorem RelO.none_of {o : Option Value} (r : RelO none o) : o = none := by
  cases o with
  | none => rfl
  | some u => exact (show False from r).elim
theorem handed_of {v : V} {u : Value} (r : RelV v u) : PySem.W.handedIn u = true := by
  cases v with
  | non => cases (show u = Value.none from r); rfl
  | bl b => cases (show u = Value.bool b from r); rfl
  | int i => obtain ⟨t, e⟩ := (show ∃ t, u = Value.int i t from r); cases e; rfl
  | str x => obtain ⟨t, e⟩ := (show ∃ t, u = Value.str x t from r); cases e; rfl
  | byt b => obtain ⟨t, e⟩ := (show ∃ t, u = Value.bytes b t from r); cases e; rfl
  | flt b => obtain ⟨t, e⟩ := (show ∃ t, u = Value.float b t from r); cases e; rfl
  | ref a => cases (show u = Value.ref a from r); rfl
  | ty n => cases (show u = Value.type n from r); rfl

section
variable {P : Program} {w : World} {H H' : Hp} {h h' : Heap} {a C dx : Addr} {fs fs' : List (Str × V)}
theorem ins_get (hok : HOk P w H h) (e : H a = some (.ins C dx fs)) : ∃ mA, ObjM h a dx C mA ∧ (∀ f, RelO (fs.lookup f) (mA f)) ∧ PySem.Within mA (fs.map (·.1)) ∧ fs.length ≤ 1000 ∧ H dx = some (.own a) := by
  obtain ⟨d, z, ne, ob, mA, n, r, q⟩ := (show ObjOk P w H h a (.ins C dx fs) from hok a _ e)
  exact ⟨mA, ⟨ob, n, ne⟩, r, q, z, d⟩
end

/-! ### what of the text a class must have -/
structure Cls (K : PySem.W.Frag) (C : Addr) : Prop where
  pg : PySem.W.plainGet K C Str.empty = true
  hd : PySem.W.hasDictIn K C = true
  po : PySem.W.plainOver K C = true
  sa : PySem.W.findIn K (.ref C) "__setattr__" = some (some (.builtin "object.__setattr__"))
theorem Cls.get {K : PySem.W.Frag} {C : Addr} (c : Cls K C) (f : Str) : PySem.W.plainGet K C f = true := c.pg
/-- no class of it has the name -/
def NoAttr (K : PySem.W.Frag) (C : Addr) (f : Str) : Prop := PySem.W.findIn K (.ref C) f = some none
theorem NoAttr.taker {K : PySem.W.Frag} {C : Addr} {f : Str} (n : NoAttr K C f) : PySem.W.takerIn K C f = some none := by
  unfold PySem.W.takerIn
  rw [show PySem.W.findIn K (.ref C) f = some none from n]
  rfl
/-- a constant of the class -/
structure Con (K : PySem.W.Frag) (C : Addr) (f : Str) (v : V) (u : Value) : Prop where
  at_ : PySem.W.findIn K (.ref C) f = some (some u)
  rel : RelV v u
  get : PySem.W.specialIn K u "__get__" = some none
  cp : PySem.W.copiedNames.contains f = false
/-- a method: a plain def of the class or of one above it -/
structure Meth (K : PySem.W.Frag) (C : Addr) (m : Str) (f : Addr) : Prop where
  at_ : PySem.W.findIn K (.ref C) m = some (some (.ref f))
  fn : PySem.W.isFn K (.ref f) = true
  kp : PySem.W.keepIn K (.ref f) = true

section
variable {X : Cx} {pins : List (Addr × Obj)} {σ : St} {H : Hp} {s : Shared} {a C dx : Addr} {fs : List (Str × V)} {f : Str} {v : V} {A : Around} {E : Value → Shared → Prop}

theorem getattr_ok {b : Bool} {Q : Value → Shared → Prop} (I : Inv X pins σ H s) (e : H a = some (.ins C dx fs)) (c : Cls X.K C) (n : NoAttr X.K C f) (l : fs.lookup f = some v)
    (h : ∀ u s', Inv X pins σ H s' → RelV v u → Q u s') : wpAny (model X.prog X.w) A (getAttr (.ref a) f b) Q E s := by
  obtain ⟨mA, O, r, _, _, _⟩ := ins_get I.hok e
  obtain ⟨u, hu, ru⟩ := RelO.some_of (v := v) (o := mA f) (by rw [← l]; exact r f)
  exact get_map I.kIn O (c.get f) c.hd n hu (handed_of ru) (h u _ (I.tok _) ru)

theorem getcon_ok {b : Bool} {u : Value} {Q : Value → Shared → Prop} (I : Inv X pins σ H s) (e : H a = some (.ins C dx fs)) (c : Cls X.K C) (k : Con X.K C f v u) (l : fs.lookup f = none)
    (h : ∀ s', Inv X pins σ H s' → Q u s') : wpAny (model X.prog X.w) A (getAttr (.ref a) f b) Q E s := by
  obtain ⟨mA, O, r, _, _, _⟩ := ins_get I.hok e
  have hn : mA f = none := RelO.none_of (by rw [← l]; exact r f)
  exact get_const I.kIn O (c.get f) c.hd k.at_ k.get k.cp hn (handed_of k.rel) (h _ (I.tok _))

theorem getmeth_ok {m : Str} {g : Addr} {pl : Sem Bool} {Q : Value × List Value → Shared → Prop} (I : Inv X pins σ H s) (e : H a = some (.ins C dx fs)) (c : Cls X.K C) (k : Meth X.K C m g) (l : fs.lookup m = none)
    (h : Q (.ref g, [.ref a]) s) : wpAny (model X.prog X.w) A (getMethod (.ref a) m pl) Q E s := by
  obtain ⟨mA, O, r, _, _, _⟩ := ins_get I.hok e
  have hn : mA m = none := RelO.none_of (by rw [← l]; exact r m)
  exact get_meth I.kIn O (c.get m) k.at_ k.fn hn h

theorem setattr_ok {y : V} {u : Value} {Q : Unit → Shared → Prop} (I : Inv X pins σ H s) (e : H a = some (.ins C dx fs)) (c : Cls X.K C) (n : NoAttr X.K C f) (hl : fs.length < 1000) (ry : RelV y u)
    (h : ∀ s', Inv X pins σ (upd H a (.ins C dx (putF f y fs))) s' → Q () s') : wpAny (model X.prog X.w) A (setAttr (.ref a) f u) Q E s := by
  obtain ⟨mA, O, r, wi, _, ho⟩ := ins_get I.hok e
  have hz : (fs.map (·.1)).length ≤ sizeLine := by rw [List.length_map, sizeLine_eq]; omega
  refine set_map I.kIn O c.sa c.po n.taker c.hd wi hz fun h' O' sb => h _ ?_
  have hd : ∃ o, h'.get? dx = some o := let ⟨o, _, _, e', _⟩ := O'.ns; ⟨o, e'⟩
  refine I.write (x := a) (e := dx) (by rw [e]; exact True.intro) (.inr ho) (fun b q hb z => (sb.2 b hb).trans z) hd ?_
  refine ⟨by rw [upd_ne O.ne]; exact ho, ?_, O.ne, O'.obj, _, O'.ns, fun g => ?_, fun g hg => ?_⟩
  · have := length_putF f y fs; omega
  · show RelO ((putF f y fs).lookup g) (if g = f then some u else mA g)
    rw [lookup_putF]
    by_cases q : g = f
    · rw [if_pos q, if_pos q]; exact ry
    · rw [if_neg q, if_neg q]; exact r g
  · by_cases q : g = f
    · rw [q]; exact (keys_putF f y fs).1
    · refine (keys_putF f y fs).2 g (wi g fun z => hg ?_)
      show (if g = f then some u else mA g) = none
      rw [if_neg q]; exact z

/-- a new instance, tracked, without attributes -/
theorem Inv.made (I : Inv X pins σ H s) : Inv X pins σ (upd (upd H s.heap.objs.size (.own (s.heap.objs.size + 1))) (s.heap.objs.size + 1) (.ins C s.heap.objs.size []))
    { s with heap := (s.heap.push PySem.W.emptyDict).push (PySem.W.instObj C s.heap.objs.size) } := by
  have e1 : (s.heap.push PySem.W.emptyDict).get? s.heap.objs.size = some PySem.W.emptyDict := Heap.get?_push_size s.heap rfl
  have e2 : ((s.heap.push PySem.W.emptyDict).push (PySem.W.instObj C s.heap.objs.size)).get? (s.heap.objs.size + 1) = some (PySem.W.instObj C s.heap.objs.size) := by
    have := Heap.get?_push_size (s.heap.push PySem.W.emptyDict) (o := PySem.W.instObj C s.heap.objs.size) rfl
    rwa [Heap.size_push] at this
  have e3 : (s.heap.push PySem.W.emptyDict).Ns s.heap.objs.size (fun _ => none) := ⟨PySem.W.emptyDict, #[], _, e1, rfl, (fun e he => absurd he (by simp)), fun _ => rfl⟩
  have I1 := I.laid (a := s.heap.objs.size) (o := .own (s.heap.objs.size + 1)) (h' := s.heap.push PySem.W.emptyDict) (t' := s.toks) (fun b u q => Heap.get?_push_of_some _ q) (Nat.le_refl _) ⟨_, e1⟩
  refine I1.laid (a := s.heap.objs.size + 1) (o := .ins C s.heap.objs.size []) (t' := s.toks) (fun b u q => Heap.get?_push_of_some _ q) (Nat.le_of_eq (Heap.size_push _ _)) ?_
  have ne : s.heap.objs.size ≠ s.heap.objs.size + 1 := Nat.ne_of_lt (Nat.lt_succ_self _)
  refine ⟨by rw [upd_ne ne, upd_same], Nat.zero_le _, ne, e2, fun _ => none, (Heap.Ns1.of_empty e3).at fun o q => Heap.get?_push_of_some _ q, fun _ => True.intro, fun y hy => absurd rfl hy⟩

/-- e.f where nothing but the object is asked: through attributeBase (super) and the last hold -/
theorem attr_of {prog : Program} {w : World} {env : Env} {e : Expr} {f : Str} {pos : Pos} {s : Shared} {Q : Value → Shared → Prop} (hb : attributeBase e f env (eval e env) = eval e env)
    (h : wpAny (model prog w) A (eval e env) (fun o s₁ => wpAny (model prog w) A (getAttr o f true) Q E s₁) E s) : wpAny (model prog w) A (eval (.Attribute e f pos) env) Q E s :=
  Attribute_any_ h (by rw [arm_eval_Attribute, hb])
end

/-! ### readings and rules -/
/-- e.f, an attribute of the instance -/
def tFld (K : PySem.W.Frag) (ta : TE) (f : Str) : TE := fun σ H Q => ta σ H fun x H1 => ∃ a C dx fs v, x = .ref a ∧ H1 a = some (.ins C dx fs) ∧ Cls K C ∧ NoAttr K C f ∧ fs.lookup f = some v ∧ Q v H1
/-- e.f, a constant of the class -/
def tCon (K : PySem.W.Frag) (ta : TE) (f : Str) : TE := fun σ H Q => ta σ H fun x H1 => ∃ a C dx fs v u, x = .ref a ∧ H1 a = some (.ins C dx fs) ∧ Cls K C ∧ Con K C f v u ∧ fs.lookup f = none ∧ Q v H1
/-- e.f = value -/
def sFld (K : PySem.W.Frag) (ta tv : TE) (f : Str) : TS := fun D σ H => tv σ H fun y H1 => ta σ H1 fun x H2 => ∃ a C dx fs, x = .ref a ∧ H2 a = some (.ins C dx fs) ∧ Cls K C ∧ NoAttr K C f ∧ fs.length < 1000 ∧
  D.nx σ (upd H2 a (.ins C dx (putF f y fs)))
/-- an augmented operator on two values -/
def InOp (X : Cx) (op : Operator) (rd : V → V → Hp → VK → Prop) : Prop :=
  ∀ (pins : List (Addr × Obj)) (s : Shared) (σ : St) (H : Hp) (x y : V) (u v : Value) (Q : VK), Inv X pins σ H s → RelV x u → RelV y v → rd x y H Q → wpAny (model X.prog X.w) X.A (inplaceOp op u v) (EP X pins σ Q) X.xe s
/-- e.f op= value -/
def sFldAug (K : PySem.W.Frag) (ta tv : TE) (rd : V → V → Hp → VK → Prop) (f : Str) : TS := fun D σ H => ta σ H fun x H1 => ∃ a C dx fs v, x = .ref a ∧ H1 a = some (.ins C dx fs) ∧ Cls K C ∧ NoAttr K C f ∧ fs.lookup f = some v ∧
  tv σ H1 fun y H2 => rd v y H2 fun z H3 => ∃ dx' fs', H3 a = some (.ins C dx' fs') ∧ fs'.length < 1000 ∧ D.nx σ (upd H3 a (.ins C dx' (putF f z fs')))

section
variable {X : Cx} {o e value : Expr} {f : Str} {pos pos' tpos : Pos} {ta tv : TE}
theorem pe_fld (he : PE X e ta) (hb : attributeBase e f X.env (eval e X.env) = eval e X.env) : PE X (.Attribute e f pos) (tFld X.K ta f) := by
  intro pins s σ H Q I h
  refine attr_of hb (thn (he pins s σ H _ I h) fun u s1 ⟨x, H1, I1, rx, a, C, dx, fs, v, ex, ea, c, n, l, q⟩ => ?_)
  subst ex
  obtain rfl : u = Value.ref a := rx
  exact getattr_ok I1 ea c n l fun u' s2 I2 ru => ⟨v, H1, I2, ru, q⟩
theorem pe_con (he : PE X e ta) (hb : attributeBase e f X.env (eval e X.env) = eval e X.env) : PE X (.Attribute e f pos) (tCon X.K ta f) := by
  intro pins s σ H Q I h
  refine attr_of hb (thn (he pins s σ H _ I h) fun u s1 ⟨x, H1, I1, rx, a, C, dx, fs, v, u0, ex, ea, c, k, l, q⟩ => ?_)
  subst ex
  obtain rfl : u = Value.ref a := rx
  exact getcon_ok I1 ea c k l fun s2 I2 => ⟨v, H1, I2, k.rel, q⟩
theorem ps_fld (ha : PE X o ta) (hv : PE X value tv) (hs : swapsWith value (some (.Attribute o f pos')) pos.line X.env = pure false) : PS X (.Assign [.Attribute o f pos'] value pos) (sFld X.K ta tv f) := by
  intro pins s σ H D I h
  refine plainObj_wpAny_Assign_Attribute (thn (hv pins s σ H _ I h) fun u s1 ⟨y, H1, I1, ry, q⟩ => thn (ha pins s1 σ H1 _ I1 q) fun ov s2 ⟨x, H2, I2, rx, a, C, dx, fs, ex, ea, c, n, l, q2⟩ => ?_) hs
  subst ex
  obtain rfl : ov = Value.ref a := rx
  exact setattr_ok I2 ea c n l ry fun s3 I3 => ⟨σ, _, I3, q2⟩
theorem ps_fldaug {op : Operator} {rd : V → V → Hp → VK → Prop} (ha : PE X o ta) (hv : PE X value tv) (hop : InOp X op rd) : PS X (.AugAssign (.Attribute o f tpos) op value pos) (sFldAug X.K ta tv rd f) := by
  intro pins s σ H D I h
  refine wpAny_AugAssign_AttributeAny (thn (ha pins s σ H _ I h) fun ov s1 ⟨x, H1, I1, rx, a, C, dx, fs, v, ex, ea, c, n, l, q⟩ => ?_)
  subst ex
  obtain rfl : ov = Value.ref a := rx
  refine getattr_ok I1 ea c n l fun u s2 I2 ru => thn (hv pins s2 σ H1 _ I2 q) fun w3 s3 ⟨y, H2, I3, ry, q3⟩ => thn (hop pins s3 σ H2 v y u w3 _ I3 ru ry q3) fun w4 s4 ⟨z, H3, I4, rz, dx', fs', ea', l', q4⟩ => ?_
  exact setattr_ok I4 ea' c n l' rz fun s5 I5 => ⟨σ, _, I5, q4⟩
def rAdd : V → V → Hp → VK → Prop := fun x y H Q => ∃ i j, x = .int i ∧ y = .int j ∧ Q (.int (i + j)) H
def rSub : V → V → Hp → VK → Prop := fun x y H Q => ∃ i j, x = .int i ∧ y = .int j ∧ Q (.int (i - j)) H
theorem in_add : InOp X .Add rAdd := by
  rintro pins s σ H x y u v Q I rx ry ⟨i, j, rfl, rfl, q⟩
  obtain ⟨t, rfl⟩ := (show ∃ t, u = Value.int i t from rx)
  obtain ⟨t', rfl⟩ := (show ∃ t', v = Value.int j t' from ry)
  exact PyProof.Rows.iadd_int ⟨.int (i + j), H, I.tok _, ⟨_, rfl⟩, q⟩
theorem in_sub : InOp X .Sub rSub := by
  rintro pins s σ H x y u v Q I rx ry ⟨i, j, rfl, rfl, q⟩
  obtain ⟨t, rfl⟩ := (show ∃ t, u = Value.int i t from rx)
  obtain ⟨t', rfl⟩ := (show ∃ t', v = Value.int j t' from ry)
  exact PyProof.Rows.isub_int ⟨.int (i - j), H, I.tok _, ⟨_, rfl⟩, q⟩

/-- what is between an instance and its method: the tree of a method call -/
theorem methcall_of {pl : Sem Bool} {m : Str} {apos : Pos} {args : List Expr} {pins : List (Addr × Obj)} {s : Shared} {σ : St} {H : Hp} {Q : Value → Shared → Prop} {te : TE} (he : PE X e te) (I : Inv X pins σ H s)
    (h : te σ H fun x H1 => ∃ a C dx fs g, x = .ref a ∧ H1 a = some (.ins C dx fs) ∧ Cls X.K C ∧ Meth X.K C m g ∧ fs.lookup m = none ∧
      ∀ s1, Inv X pins σ H1 s1 → wpAny (model X.prog X.w) X.A (callWith pos (.ref g) [.ref a] (backTo pos (starEach args X.env)) (backToKw pos (keywordEach [] X.env))) Q X.xe s1)
    (ht : eval (.Call (.Attribute e m apos) args [] pos) X.env = (do
      let ov ← eval e X.env
      standAt apos.atName
      let (f, first) ← holding [ov] (getMethod ov m pl)
      callWith pos f first (backTo pos (starEach args X.env)) (backToKw pos (keywordEach [] X.env)))) :
    wpAny (model X.prog X.w) X.A (eval (.Call (.Attribute e m apos) args [] pos) X.env) Q X.xe s := by
  refine PySem.W.methodCall_KW (pl := pl) (thn (he pins s σ H _ I h) fun u s1 ⟨x, H1, I1, rx, a, C, dx, fs, g, ex, ea, c, k, l, q⟩ => ?_) ht
  subst ex
  obtain rfl : u = Value.ref a := rx
  exact getmeth_ok I1 ea c k l (q s1 I1)
end

/-! ### isinstance -/
section
variable {X : Cx} {pins : List (Addr × Obj)} {σ : St} {H : Hp} {s : Shared} {A : Around} {E : Value → Shared → Prop} {Q : Value → Shared → Prop} {c : Value} {b : Bool}
/-- the type of a value, as the fragment's deciders take it; for an instance its class -/
inductive TyOf (K : PySem.W.Frag) (H : Hp) : V → Value → Prop where
  | non : TyOf K H .non (.type "NoneType")
  | bl (x : Bool) : TyOf K H (.bl x) (.type "bool")
  | int (i : Int) : TyOf K H (.int i) (.type "int")
  | str (x : Str) : TyOf K H (.str x) (.type "str")
  | flt (x : UInt64) : TyOf K H (.flt x) (.type "float")
  | lst {a : Addr} {xs : List V} (e : H a = some (.lst xs)) : TyOf K H (.ref a) (.type "list")
  | frz {a : Addr} {o : Obj} {xs : List V} (e : H a = some (.frz o (.lst xs))) : TyOf K H (.ref a) (.type "list")
  | tup {a : Addr} {xs : List V} (e : H a = some (.tup xs)) : TyOf K H (.ref a) (.type "tuple")
  | dK {a : Addr} {kvs : List (Key × V)} (e : H a = some (.dK kvs)) : TyOf K H (.ref a) (.type "dict")
  | dT {a : Addr} {kvs : List (List Key × V)} (e : H a = some (.dT kvs)) : TyOf K H (.ref a) (.type "dict")
  | ins {a C dx : Addr} {fs : List (Str × V)} (e : H a = some (.ins C dx fs)) (cl : Cls K C) (ha : PySem.W.findIn K (.ref C) "__class__" = some (some (.builtin "object.__class__")))
      (hn : PySem.W.specialIn K (.builtin "object.__class__") "__get__" = some (some (.builtin "getset_descriptor.__get__"))) (htk : PySem.W.takesIn K (.builtin "object.__class__") = some true)
      (hm : PySem.W.mroIn K C (.type "object") = some true) : TyOf K H (.ref a) (.ref C)
/-- isinstance(x, c) for one class c, a built-in or an own one: kitOne's answer -/
theorem isinst_ok {x : V} {u t : Value} (I : Inv X pins σ H s) (rx : RelV x u) (ty : TyOf X.K H x t) (e : PySem.W.kitOne X.K t c = some b) (h : ∀ tk, Q (.bool b) { s with toks := tk }) :
    wpAny (model X.prog X.w) A (call (.builtin "isinstance") [u, c]) Q E s := by
  cases ty with
  | non => cases (show u = Value.none from rx); exact PySem.W.kia_one PySem.W.kitx_none I.kIn True.intro e (fun z => nomatch z) h
  | bl y => cases (show u = Value.bool y from rx); exact PySem.W.kia_one PySem.W.kitx_bool I.kIn True.intro e (fun z => nomatch z) h
  | int i => obtain ⟨t, q⟩ := (show ∃ t, u = Value.int i t from rx); cases q; exact PySem.W.kia_one PySem.W.kitx_int I.kIn True.intro e (fun z => nomatch z) h
  | str y => obtain ⟨t, q⟩ := (show ∃ t, u = Value.str y t from rx); cases q; exact PySem.W.kia_one PySem.W.kitx_str I.kIn True.intro e (fun z => nomatch z) h
  | flt y => obtain ⟨t, q⟩ := (show ∃ t, u = Value.float y t from rx); cases q; exact PySem.W.kia_one PySem.W.kitx_float I.kIn True.intro e (fun z => nomatch z) h
  | @lst a xs ea =>
    cases (show u = Value.ref a from rx)
    obtain ⟨_, _, n, _, h1⟩ := (show ObjOk X.prog X.w H s.heap a (.lst xs) from I.hok a _ ea)
    exact PySem.W.kia_one PySem.W.kitx_list I.kIn ⟨_, h1, rfl⟩ e (fun z => nomatch z) h
  | @frz a ob xs ea =>
    cases (show u = Value.ref a from rx)
    obtain ⟨_, _, _, n, _, h1⟩ := (show ObjOk X.prog X.w H s.heap a (.frz ob (.lst xs)) from I.hok a _ ea)
    exact PySem.W.kia_one PySem.W.kitx_list I.kIn ⟨_, h1, rfl⟩ e (fun z => nomatch z) h
  | @tup a xs ea =>
    cases (show u = Value.ref a from rx)
    obtain ⟨_, _, _, p⟩ := (show ObjOk X.prog X.w H s.heap a (.tup xs) from I.hok a _ ea)
    obtain ⟨o, h1, h2, _⟩ := p
    exact PySem.W.kia_one PySem.W.kitx_tuple I.kIn ⟨o, h1, h2⟩ e (fun z => nomatch z) h
  | @dK a kvs ea =>
    cases (show u = Value.ref a from rx)
    obtain ⟨_, _, vs, _, p⟩ := (show ObjOk X.prog X.w H s.heap a (.dK kvs) from I.hok a _ ea)
    obtain ⟨o, es, ep, h1, h2, _⟩ := p
    exact PySem.W.kia_one PySem.W.kitx_dict I.kIn ⟨o, h1, h2.1⟩ e (fun z => nomatch z) h
  | @dT a kvs ea =>
    cases (show u = Value.ref a from rx)
    obtain ⟨_, _, xs, _, o, es, ep, h1, h2, _⟩ := (show ObjOk X.prog X.w H s.heap a (.dT kvs) from I.hok a _ ea)
    exact PySem.W.kia_one PySem.W.kitx_dict I.kIn ⟨o, h1, h2.1⟩ e (fun z => nomatch z) h
  | @ins a C dx fs ea cl ha hn htk hm =>
    cases (show u = Value.ref a from rx)
    obtain ⟨mA, O, _⟩ := ins_get I.hok ea
    obtain ⟨od, J, _⟩ := O.look
    exact PySem.W.kia_one (PySem.W.kitx_own (cl.get _) cl.hd ha hn htk hm) I.kIn J e (fun z => nomatch z) h
end
end L2

namespace L2
open PySem PySem.Spec PyProof.Rows

/-! ### room -/
structure Room (k : Nat) (A : Around) : Prop where
  hd : A.handled = none
  dp : A.depth + 3 * k + 5 < recursionLimit
  un : A.units + 16 * k + 200 < cLine
theorem Room.mono {j k : Nat} {A : Around} (r : Room k A) (h : j ≤ k) : Room j A := ⟨r.hd, by have := r.dp; omega, by have := r.un; omega⟩
theorem Room.deeper {k : Nat} {A : Around} (r : Room (k + 1) A) (env : Env) : Room k (A.deeper env) :=
  ⟨r.hd, by have := r.dp; show A.depth + 1 + 3 * k + 5 < _; omega, by have := r.un; show A.units + 3 + 16 * k + 200 < _; omega⟩
theorem Room.in1 {k : Nat} {A : Around} (r : Room (k + 1) A) : Room k A.in1 :=
  ⟨r.hd, by have := r.dp; show A.depth + 3 * k + 5 < _; omega, by have := r.un; show A.units + 1 + 16 * k + 200 < _; omega⟩
theorem make_depth {A : Around} {C : Addr} {us : List Value} {kw : List (Str × Value)} : (A.under (.builtin "type.__call__" ⟨.ref C :: us, kw⟩)).depth = A.depth + 1 := by
  first | rfl | simp [Around.under, Code.weight, Code.isCreation, Code.isGuard, Code.isCaller, Code.frames, Code.isFrame, guardIds]
theorem make_units {A : Around} {C : Addr} {us : List Value} {kw : List (Str × Value)} : (A.under (.builtin "type.__call__" ⟨.ref C :: us, kw⟩)).units = A.units + 1 := by
  first | rfl | simp [Around.under, Code.cUnits, Code.frames, Code.isFrame]
theorem Room.make {k : Nat} {A : Around} (r : Room (k + 1) A) (C : Addr) (us : List Value) (kw : List (Str × Value)) : Room k (A.under (.builtin "type.__call__" ⟨.ref C :: us, kw⟩)) :=
  ⟨r.hd, by have := r.dp; rw [make_depth]; omega, by have := r.un; rw [make_units]; omega⟩
theorem Room.depth {k : Nat} {A : Around} (r : Room k A) : A.depth < recursionLimit := by have := r.dp; omega
theorem Room.units {k : Nat} {A : Around} (r : Room k A) : A.units + 64 < cLine := by have := r.un; omega
theorem Room.units0 {k : Nat} {A : Around} (r : Room k A) : A.units < cLine := by have := r.un; omega

/-! ### argument lists and displays -/
def tNil : TA := fun _ H Q => Q [] H
def tCons (ta : TE) (tr : TA) : TA := fun σ H Q => ta σ H fun x H1 => tr σ H1 fun xs H2 => Q (x :: xs) H2
section
variable {X : Cx} {e : Expr} {es : List Expr} {te : TE} {t : TA} {pos : Pos}
theorem pa_nil : PA X [] tNil := fun _ _ _ _ H Q I h => Calls.spliced_nil ⟨[], H, I, .nil, h⟩
theorem pa_cons (ha : PE X e te) (hr : PA X es t) (hs : starEach (e :: es) X.env = (false, eval e X.env) :: starEach es X.env := by rfl) : PA X (e :: es) (tCons te t) := by
  intro pos pins s σ H Q I h
  rw [hs]
  show wpAny _ _ (spliced ((false, eval e X.env) :: backTo pos (starEach es X.env))) _ _ s
  refine Calls.spliced_cons (thn (ha pins s σ H _ I h) fun u s1 ⟨x, H1, I1, r1, q1⟩ => ?_)
  exact thn (hr pos pins s1 σ H1 _ I1 q1) fun us s2 ⟨xs, H2, I2, r2, q2⟩ => ⟨x :: xs, H2, I2, .cons r1 r2, q2⟩

/-- a tuple, a list of written items -/
def tTup (t : TA) : TE := fun σ H Q => t σ H fun xs H1 => xs.length ≤ sizeLine ∧ ∀ p, H1 p = none → Q (.ref p) (upd H1 p (.tup xs))
def tLst (t : TA) : TE := fun σ H Q => t σ H fun xs H1 => xs.length ≤ sizeLine ∧ ∀ p, H1 p = none → Q (.ref p) (upd H1 p (.lst xs))
theorem pe_tup {x1} (h : PA X es t) : PE X (.Tuple es x1 pos) (tTup t) := by
  intro pins s σ H Q I hq
  refine wpAny_Tuple_spliced (thn (h pos pins s σ H _ I hq) fun us s1 ⟨xs, H1, I1, r, z, q⟩ => ⟨by rw [← r.length]; exact z, ?_⟩)
  have hf : H1 s1.heap.objs.size = none := I1.hok.fresh (Nat.le_refl _)
  refine ⟨.ref s1.heap.objs.size, upd H1 s1.heap.objs.size (.tup xs), I1.laid (t' := s1.toks) (fun b u e => Heap.get?_push_of_some _ e) (Nat.le_refl _) ?_, rfl, q _ hf⟩
  exact ⟨z, us, r, ⟨_, Heap.get?_push_size _ rfl, rfl, _, rfl⟩⟩
theorem pe_lst (h : PA X es t) : PE X (.List es pos) (tLst t) := by
  intro pins s σ H Q I hq
  refine wpAny_List_spliced (thn (h pos pins s σ H _ I hq) fun us s1 ⟨xs, H1, I1, r, z, q⟩ => ⟨by rw [← r.length]; exact z, ?_⟩)
  have hf : H1 s1.heap.objs.size = none := I1.hok.fresh (Nat.le_refl _)
  refine ⟨.ref s1.heap.objs.size, upd H1 s1.heap.objs.size (.lst xs), I1.laid (t' := s1.toks) (fun b u e => Heap.get?_push_of_some _ e) (Nat.le_refl _) ?_, rfl, q _ hf⟩
  exact ⟨z, us, 0, r, Heap.get?_push_size _ rfl⟩
end

/-! ### what a def promises -/
/-- a def's promise: the bound arguments in the parameters' order, the heap, the wanted end, the wanted exception -/
abbrev Sp := List V → Hp → VK → XK → Prop
/-- how an exception lies behind a call (file 08 gives it): the callers' frames, abstract heap and state ahead of the call, the wish, the exception, the state -/
abbrev CXT := List Env → Hp → Shared → XK → Value → Shared → Prop

/-- the state at a call -/
structure Env0 (P : Program) (w : World) (K : PySem.W.Frag) (mg : Str → Option Value) (base : Heap) (A : Around) (outer : List Env) (s : Shared) (H : Hp) : Prop where
  frames : A.frames = some outer
  mod : Mod K mg base
  bs : ∀ b o, base.get? b = some o → s.heap.get? b = some o ∧ H b = none
  bsz : base.objs.size ≤ s.heap.objs.size
  funs : s.heap.FunFrames base outer
  frf : ∀ b ∈ frs outer, H b = none
  hok : HOk P w H s.heap
  bare : AllBare s.gens
/-- a call's end -/
def CE (outer : List Env) (P : Program) (w : World) (H : Hp) (s : Shared) (Q : VK) (u : Value) (s' : Shared) : Prop :=
  ∃ v H', s'.os = s.os ∧ AllBare s'.gens ∧ Un (frs outer) [] H H' s.heap s'.heap ∧ HOk P w H' s'.heap ∧ RelV v u ∧ Q v H'
def CR (CX : CXT) (outer : List Env) (P : Program) (w : World) (H : Hp) (s : Shared) (Q : VK) (E : XK) (r : Result) (s' : Shared) : Prop :=
  match r with
  | .ok (.ret u) => CE outer P w H s Q u s'
  | .ok _ => False
  | .error e => CX outer H s E e s'
structure FnOk (P : Program) (w : World) (K : PySem.W.Frag) (mg : Str → Option Value) (base : Heap) (CX : CXT) (k : Nat) (f : Addr) (fd : FuncData) (ps : List Str) (sp : Sp) : Prop where
  len : ∀ vs H Q E, sp vs H Q E → vs.length = ps.length
  run : ∀ (A : Around) (outer : List Env) (s : Shared) (H : Hp) (args : Args) (us : List Value) (vs : List V) (Q : VK) (E : XK), Room k A → Env0 P w K mg base A outer s H → BindsTo s fd args (ps.zip us) → Vals vs us → sp vs H Q E →
    codeAny (model P w) A (.call (.ref f) args) (CR CX outer P w H s Q E) s
theorem FnOk.mono {P : Program} {w : World} {K : PySem.W.Frag} {mg : Str → Option Value} {base : Heap} {CX : CXT} {j k : Nat} {f : Addr} {fd : FuncData} {ps : List Str} {sp : Sp} (F : FnOk P w K mg base CX j f fd ps sp) (h : j ≤ k) :
    FnOk P w K mg base CX k f fd ps sp := ⟨F.len, fun A outer s H args us vs Q E hr => F.run A outer s H args us vs Q E (hr.mono h)⟩
/-- a weaker promise -/
theorem FnOk.imp {P : Program} {w : World} {K : PySem.W.Frag} {mg : Str → Option Value} {base : Heap} {CX : CXT} {k : Nat} {f : Addr} {fd : FuncData} {ps : List Str} {sp sp' : Sp} (F : FnOk P w K mg base CX k f fd ps sp)
    (h : ∀ vs H Q E, sp' vs H Q E → sp vs H Q E) : FnOk P w K mg base CX k f fd ps sp' :=
  ⟨fun vs H Q E q => F.len vs H Q E (h _ _ _ _ q), fun A outer s H args us vs Q E hr he hb hv hs => F.run A outer s H args us vs Q E hr he hb hv (h _ _ _ _ hs)⟩

theorem Env0.make {P : Program} {w : World} {K : PySem.W.Frag} {mg : Str → Option Value} {base : Heap} {A : Around} {outer : List Env} {s : Shared} {H : Hp} (e : Env0 P w K mg base A outer s H) (C : Addr) (us : List Value) (kw : List (Str × Value)) :
    Env0 P w K mg base (A.under (.builtin "type.__call__" ⟨.ref C :: us, kw⟩)) outer s H := ⟨by first | exact e.frames | (simpa [Around.under, Code.envs, Code.isFrame, pushEnvs] using e.frames), e.mod, e.bs, e.bsz, e.funs, e.frf, e.hok, e.bare⟩
theorem Env0.in1 {P : Program} {w : World} {K : PySem.W.Frag} {mg : Str → Option Value} {base : Heap} {A : Around} {outer : List Env} {s : Shared} {H : Hp} (e : Env0 P w K mg base A outer s H) :
    Env0 P w K mg base A.in1 outer s H := ⟨e.frames, e.mod, e.bs, e.bsz, e.funs, e.frf, e.hok, e.bare⟩

section
variable {X : Cx} {pins : List (Addr × Obj)} {σ : St} {H : Hp} {s s' : Shared}
/-- from a body: what a callee wants -/
theorem Inv.env0 (I : Inv X pins σ H s) : Env0 X.prog X.w X.K X.mg X.base X.A X.stack s H :=
  ⟨I.ok.frames, I.ok.mod, I.bs, Nat.le_trans I.ok.bsz I.sz, I.stack, I.stkFree, I.hok, I.bare⟩
/-- behind a call -/
theorem Inv.after {Q : VK} {u : Value} (I : Inv X pins σ H s) (h : CE X.stack X.prog X.w H s Q u s') : EP X pins σ Q u s' := by
  obtain ⟨v, H', os, bare, un, hok, r, q⟩ := h
  obtain ⟨hh, g, d, t, os'⟩ := s'
  obtain rfl : os' = s.os := os
  exact ⟨v, H', I.call (h' := hh) (g' := g) (d' := d) (t' := t) (ch := []) un hok bare (fun b z => absurd z (by simp)), r, q⟩
end

/-! ### calls -/
/-- f(..): the written arguments, then the defaults dvs; E: what is wanted of an exception -/
def tCall (sp : Sp) (dvs : List V) (E : XK) (t : TA) : TE := fun σ H Q => t σ H fun vs H1 => sp (vs ++ dvs) H1 Q E
/-- o.m(..) of an instance of the class at C -/
def tMeth (C : Addr) (m : Str) (sp : Sp) (dvs : List V) (E : XK) (ta : TE) (t : TA) : TE := fun σ H Q => ta σ H fun x H1 => ∃ a dx fs, x = .ref a ∧ H1 a = some (.ins C dx fs) ∧ fs.lookup m = none ∧
  t σ H1 fun vs H2 => sp (x :: (vs ++ dvs)) H2 Q E
/-- C(..): a new instance and its dict, then __init__ -/
def tMake (C : Addr) (sp : Sp) (dvs : List V) (E : XK) (t : TA) : TE := fun σ H Q => t σ H fun vs H1 => ∀ x dx, H1 x = none → H1 dx = none → dx ≠ x →
  sp (.ref x :: (vs ++ dvs)) (upd (upd H1 dx (.own x)) x (.ins C dx [])) (fun v H2 => v = .non ∧ Q (.ref x) H2) E

/-- how the parameters are bound: us the positional arguments, kw the keywords' values by name, ds the defaults that fill up -/
def Binds (K : PySem.W.Frag) (fd : FuncData) (ps : List Str) (ds : List Value) : Prop :=
  ∀ (s : Shared) (us : List Value), K.In s.heap → (us ++ ds).length = ps.length → BindsTo s fd ⟨us, []⟩ (ps.zip (us ++ ds))
/-- every parameter is given -/
theorem Binds.all {K : PySem.W.Frag} {fd : FuncData} {ps : List Str} (h : ∀ us : List Value, us.length = ps.length → bindArgs fd ⟨us, []⟩ = pure (ps.zip us)) : Binds K fd ps [] := fun s us _ hl => by
  rw [List.append_nil] at hl ⊢
  exact .of_eq (h us hl)

/-- an exception of a callee reaches what this body wants of exceptions -/
def Passes (CX : CXT) (X : Cx) (E : XK) : Prop := ∀ (pins : List (Addr × Obj)) (σ : St) (H : Hp) (s : Shared) (e : Value) (s' : Shared), Inv X pins σ H s → CX X.stack H s E e s' → X.xe e s'

section
variable {X : Cx} {CX : CXT} {k : Nat} {f C : Addr} {fd : FuncData} {ps : List Str} {sp : Sp} {dvs : List V} {ds : List Value} {E : XK} {x m : Str} {p pos apos : Pos} {e o : Expr} {es : List Expr} {ta : TE} {t : TA}

/-- the callee runs -/
theorem run_fn {pins : List (Addr × Obj)} {σ : St} {H : Hp} {s : Shared} {Q : VK} {us : List Value} {vs : List V} (F : FnOk X.prog X.w X.K X.mg X.base CX k f fd ps sp) (hr : Room k X.A) (hb : Binds X.K fd ps ds) (hd : Vals dvs ds) (hx : Passes CX X E)
    (I : Inv X pins σ H s) (r : Vals vs us) (h : sp (vs ++ dvs) H Q E) : wpAny (model X.prog X.w) X.A (call (.ref f) us) (EP X pins σ Q) X.xe s := by
  have r2 : Vals (vs ++ dvs) (us ++ ds) := r.append hd
  have hl : (us ++ ds).length = ps.length := by rw [← r2.length]; exact F.len _ _ _ _ h
  refine wpAny_call (codeAny_mono (F.run X.A X.stack s H ⟨us, []⟩ (us ++ ds) (vs ++ dvs) Q E hr I.env0 (hb s us I.kIn hl) r2 h) fun r s' hq => ?_)
  cases r with
  | error e => exact hx pins σ H s e s' I hq
  | ok fl =>
    cases fl with
    | ret u => exact I.after hq
    | next => exact False.elim hq
    | brk => exact False.elim hq
    | cont => exact False.elim hq

theorem pe_call (F : FnOk X.prog X.w X.K X.mg X.base CX k f fd ps sp) (hr : Room k X.A) (hg : Gl X x) (hm : X.mg x = some (.ref f)) (hk : PySem.W.keepIn X.K (.ref f) = true) (hb : Binds X.K fd ps ds) (hd : Vals dvs ds) (hx : Passes CX X E)
    (ha : PA X (e :: es) t) (hdb : (x == ("__debug__" : Str)) = false := by decide) (he : starEach (e :: es) X.env = (false, eval e X.env) :: starEach es X.env := by rfl) (hpl : (backTo pos (starEach es X.env)).any (·.1) = false := by rfl) :
    PE X (.Call (.Name x p) (e :: es) [] pos) (tCall sp dvs E t) := by
  intro pins s σ H Q I h
  refine wpAny_Call_Name_kw (ld_glob I hg hm ?_ hdb)
  refine PySem.W.callWith_K (h₀ := X.base) I.ok.mod.kin hk (thn (ha pos pins s σ H _ I h) fun us s1 ⟨vs, H1, I1, r, q⟩ => ⟨I1.kIn, ?_⟩) he hpl
  exact run_fn F hr hb hd hx I1 r q
theorem pe_call0 (F : FnOk X.prog X.w X.K X.mg X.base CX k f fd ps sp) (hr : Room k X.A) (hg : Gl X x) (hm : X.mg x = some (.ref f)) (hk : PySem.W.keepIn X.K (.ref f) = true) (hb : Binds X.K fd ps ds) (hd : Vals dvs ds) (hx : Passes CX X E)
    (hdb : (x == ("__debug__" : Str)) = false := by decide) : PE X (.Call (.Name x p) [] [] pos) (tCall sp dvs E tNil) := by
  intro pins s σ H Q I h
  refine wpAny_Call_Name_kw (ld_glob I hg hm ?_ hdb)
  exact PySem.W.callWith_K0 I.kIn hk (run_fn (us := []) F hr hb hd hx I .nil h)

/-- o.m(e, ..) -/
theorem pe_meth {pl : Sem Bool} (he : PE X o ta) (c : Cls X.K C) (hm : Meth X.K C m f) (F : FnOk X.prog X.w X.K X.mg X.base CX k f fd ps sp) (hr : Room k X.A) (hb : Binds X.K fd ps ds) (hd : Vals dvs ds) (hx : Passes CX X E) (ha : PA X (e :: es) t)
    (hst : starEach (e :: es) X.env = (false, eval e X.env) :: starEach es X.env := by rfl) (hpl : (backTo pos (starEach es X.env)).any (·.1) = false := by rfl)
    (ht : eval (.Call (.Attribute o m apos) (e :: es) [] pos) X.env = (do
      let ov ← eval o X.env
      standAt apos.atName
      let (f, first) ← holding [ov] (getMethod ov m pl)
      callWith pos f first (backTo pos (starEach (e :: es) X.env)) (backToKw pos (keywordEach [] X.env))) := by rfl) :
    PE X (.Call (.Attribute o m apos) (e :: es) [] pos) (tMeth C m sp dvs E ta t) := by
  intro pins s σ H Q I h
  refine PySem.W.methodCall_KW (pl := pl) (thn (he pins s σ H _ I h) fun u s1 ⟨x, H1, I1, rx, a, dx, fs, ex, ea, l, q⟩ => ?_) ht
  subst ex
  obtain rfl : u = Value.ref a := rx
  refine getmeth_ok I1 ea c hm l ?_
  refine PySem.W.callWith_K (first := [.ref a]) (h₀ := X.base) I.ok.mod.kin hm.kp (thn (ha pos pins s1 σ H1 _ I1 q) fun us s2 ⟨vs, H2, I2, r, q2⟩ => ⟨I2.kIn, ?_⟩) hst hpl
  exact run_fn (us := .ref a :: us) (vs := .ref a :: vs) F hr hb hd hx I2 (.cons rfl r) q2
/-- o.m() -/
theorem pe_meth0 {pl : Sem Bool} (he : PE X o ta) (c : Cls X.K C) (hm : Meth X.K C m f) (F : FnOk X.prog X.w X.K X.mg X.base CX k f fd ps sp) (hr : Room k X.A) (hb : Binds X.K fd ps ds) (hd : Vals dvs ds) (hx : Passes CX X E)
    (ht : eval (.Call (.Attribute o m apos) [] [] pos) X.env = (do
      let ov ← eval o X.env
      standAt apos.atName
      let (f, first) ← holding [ov] (getMethod ov m pl)
      callWith pos f first (backTo pos (starEach [] X.env)) (backToKw pos (keywordEach [] X.env))) := by rfl) :
    PE X (.Call (.Attribute o m apos) [] [] pos) (tMeth C m sp dvs E ta tNil) := by
  intro pins s σ H Q I h
  refine PySem.W.methodCall_KW (pl := pl) (thn (he pins s σ H _ I h) fun u s1 ⟨x, H1, I1, rx, a, dx, fs, ex, ea, l, q⟩ => ?_) ht
  subst ex
  obtain rfl : u = Value.ref a := rx
  refine getmeth_ok I1 ea c hm l ?_
  exact PySem.W.callWith_K0 (first := [.ref a]) I1.kIn hm.kp (run_fn (us := [.ref a]) (vs := [.ref a]) F hr hb hd hx I1 (.cons rfl .nil) q)

/-- what a class must have to be made -/
structure Mk (K : PySem.W.Frag) (C f : Addr) : Prop where
  makes : PySem.W.makesIn K C = true
  init : PySem.W.findIn K (.ref C) "__init__" = some (some (.ref f))
  fn : PySem.W.isFn K (.ref f) = true
  kp : PySem.W.keepIn K (.ref C) = true

theorem run_make {pins : List (Addr × Obj)} {σ : St} {H : Hp} {s : Shared} {Q : VK} {us : List Value} {vs : List V} (M : Mk X.K C f) (F : FnOk X.prog X.w X.K X.mg X.base CX k f fd ps sp) (hr : Room (k + 1) X.A) (hb : Binds X.K fd ps ds) (hd : Vals dvs ds)
    (hx : Passes CX X E) (I : Inv X pins σ H s) (r : Vals vs us)
    (h : ∀ x dx, H x = none → H dx = none → dx ≠ x → sp (.ref x :: (vs ++ dvs)) (upd (upd H dx (.own x)) x (.ins C dx [])) (fun v H2 => v = .non ∧ Q (.ref x) H2) E) :
    wpAny (model X.prog X.w) X.A (call (.ref C) us) (EP X pins σ Q) X.xe s := by
  have hq := h (s.heap.objs.size + 1) s.heap.objs.size (I.hok.fresh (Nat.le_succ _)) (I.hok.fresh (Nat.le_refl _)) (Nat.ne_of_lt (Nat.lt_succ_self _))
  have I2 := Inv.made (C := C) I
  have r2 : Vals (V.ref (s.heap.objs.size + 1) :: (vs ++ dvs)) (Value.ref (s.heap.objs.size + 1) :: (us ++ ds)) := .cons rfl (r.append hd)
  have hl : (Value.ref (s.heap.objs.size + 1) :: us ++ ds).length = ps.length := by
    have e := r2.length
    rw [F.len _ _ _ _ hq] at e
    exact e.symm
  refine wpAny_call (make_map (f := f) I.kIn M.makes M.init (beq_iff_eq.mp M.fn) (codeAny_mono (F.run _ X.stack _ _ ⟨Value.ref (s.heap.objs.size + 1) :: us, []⟩ (Value.ref (s.heap.objs.size + 1) :: (us ++ ds)) _ _ E (hr.make C us [])
    (I2.env0.make C us []) (hb _ (Value.ref (s.heap.objs.size + 1) :: us) I2.kIn hl) r2 hq) fun r s' hq' => ?_))
  cases r with
  | error e => exact hx pins σ _ _ e s' I2 hq'
  | ok fl =>
    cases fl with
    | ret u =>
      obtain ⟨v, H', I3, rv, ev, q3⟩ := I2.after hq'
      subst ev
      exact ⟨rv, ⟨V.ref (s.heap.objs.size + 1), H', I3, rfl, q3⟩⟩
    | next => exact False.elim hq'
    | brk => exact False.elim hq'
    | cont => exact False.elim hq'
theorem pe_make (M : Mk X.K C f) (F : FnOk X.prog X.w X.K X.mg X.base CX k f fd ps sp) (hr : Room (k + 1) X.A) (hg : Gl X x) (hm : X.mg x = some (.ref C)) (hb : Binds X.K fd ps ds) (hd : Vals dvs ds) (hx : Passes CX X E)
    (ha : PA X (e :: es) t) (hdb : (x == ("__debug__" : Str)) = false := by decide) (he : starEach (e :: es) X.env = (false, eval e X.env) :: starEach es X.env := by rfl) (hpl : (backTo pos (starEach es X.env)).any (·.1) = false := by rfl) :
    PE X (.Call (.Name x p) (e :: es) [] pos) (tMake C sp dvs E t) := by
  intro pins s σ H Q I h
  refine wpAny_Call_Name_kw (ld_glob I hg hm ?_ hdb)
  refine PySem.W.callWith_K (h₀ := X.base) I.ok.mod.kin M.kp (thn (ha pos pins s σ H _ I h) fun us s1 ⟨vs, H1, I1, r, q⟩ => ⟨I1.kIn, ?_⟩) he hpl
  exact run_make M F hr hb hd hx I1 r q
theorem pe_make0 (M : Mk X.K C f) (F : FnOk X.prog X.w X.K X.mg X.base CX k f fd ps sp) (hr : Room (k + 1) X.A) (hg : Gl X x) (hm : X.mg x = some (.ref C)) (hb : Binds X.K fd ps ds) (hd : Vals dvs ds) (hx : Passes CX X E)
    (hdb : (x == ("__debug__" : Str)) = false := by decide) : PE X (.Call (.Name x p) [] [] pos) (tMake C sp dvs E tNil) := by
  intro pins s σ H Q I h
  refine wpAny_Call_Name_kw (ld_glob I hg hm ?_ hdb)
  exact PySem.W.callWith_K0 I.kIn M.kp (run_make (us := []) M F hr hb hd hx I .nil h)
end

/-! ### keywords -/
/-- the values of the keywords, from the left -/
def PK (X : Cx) (kws : List Keyword) (t : TA) : Prop :=
  ∀ (pos : Pos) (pins : List (Addr × Obj)) (s : Shared) (σ : St) (H : Hp) (Q : List V → Hp → Prop), Inv X pins σ H s → t σ H Q → wpAny (model X.prog X.w) X.A (evalAll ((backToKw pos (keywordEach kws X.env)).map (·.2))) (AP X pins σ Q) X.xe s
section
variable {X : Cx} {CX : CXT} {k : Nat} {f C : Addr} {fd : FuncData} {ps ks : List Str} {sp : Sp} {E : XK} {x m : Str} {p pos apos kpos : Pos} {e o : Expr} {es : List Expr} {kws : List Keyword} {te ta : TE} {t tk : TA} {nm : Option Str}
theorem pk_nil : PK X [] tNil := fun _ _ _ _ H Q I h => wpAny_evalAll_nil ⟨[], H, I, .nil, h⟩
theorem pk_cons (ha : PE X e te) (hr : PK X kws t) : PK X (⟨nm, e, kpos⟩ :: kws) (tCons te t) := by
  intro pos pins s σ H Q I h
  show wpAny _ _ (evalAll ((do let v ← eval e X.env; standAt pos; pure v) :: (backToKw pos (keywordEach kws X.env)).map (·.2))) _ _ s
  refine wpAny_evalAll_cons (wpAny_bind (thn (ha pins s σ H _ I h) fun u s1 ⟨x, H1, I1, r1, q1⟩ => wpAny_bind (wpAny_standAt (wpAny_pure ?_))))
  exact thn (hr pos pins s1 σ H1 _ I1 q1) fun us s2 ⟨xs, H2, I2, r2, q2⟩ => ⟨x :: xs, H2, I2, .cons r1 r2, q2⟩

/-- how a call with keywords binds: g puts the positional values us and the keywords' values ws (names ks) in the parameters' order, defaults among them -/
structure KBinds (K : PySem.W.Frag) (fd : FuncData) (ps ks : List Str) (g : List Value → List Value → List Value) (gV : List V → List V → List V) : Prop where
  to : ∀ (s : Shared) (us ws : List Value), K.In s.heap → (g us ws).length = ps.length → BindsTo s fd ⟨us, ks.zip ws⟩ (ps.zip (g us ws))
  rel : ∀ {vs : List V} {us : List Value} {zs : List V} {ws : List Value}, Vals vs us → Vals zs ws → Vals (gV vs zs) (g us ws)
def tCallK (sp : Sp) (gV : List V → List V → List V) (E : XK) (t tk : TA) : TE := fun σ H Q => t σ H fun vs H1 => tk σ H1 fun zs H2 => sp (gV vs zs) H2 Q E
variable {g : List Value → List Value → List Value} {gV : List V → List V → List V}
theorem run_fnk {pins : List (Addr × Obj)} {σ : St} {H : Hp} {s : Shared} {Q : VK} {us ws : List Value} {vs zs : List V} (F : FnOk X.prog X.w X.K X.mg X.base CX k f fd ps sp) (hr : Room k X.A) (hb : KBinds X.K fd ps ks g gV) (hx : Passes CX X E)
    (I : Inv X pins σ H s) (r : Vals vs us) (rz : Vals zs ws) (h : sp (gV vs zs) H Q E) : wpAny (model X.prog X.w) X.A (call (.ref f) us (ks.zip ws)) (EP X pins σ Q) X.xe s := by
  have r2 := hb.rel r rz
  have hl : (g us ws).length = ps.length := by rw [← r2.length]; exact F.len _ _ _ _ h
  refine wpAny_call (codeAny_mono (F.run X.A X.stack s H ⟨us, ks.zip ws⟩ (g us ws) (gV vs zs) Q E hr I.env0 (hb.to s us ws I.kIn hl) r2 h) fun r s' hq => ?_)
  cases r with
  | error e => exact hx pins σ H s e s' I hq
  | ok fl =>
    cases fl with
    | ret u => exact I.after hq
    | next => exact False.elim hq
    | brk => exact False.elim hq
    | cont => exact False.elim hq
/-- f(e, .., k = v, ..) -/
theorem pe_callK (F : FnOk X.prog X.w X.K X.mg X.base CX k f fd ps sp) (hr : Room k X.A) (hg : Gl X x) (hm : X.mg x = some (.ref f)) (hk : PySem.W.keepIn X.K (.ref f) = true) (hb : KBinds X.K fd ps ks g gV) (hx : Passes CX X E)
    (ha : PA X (e :: es) t) (hkw : PK X kws tk) (hall : (backToKw pos (keywordEach kws X.env)).all (·.1.isSome) = true := by rfl) (hks : (backToKw pos (keywordEach kws X.env)).filterMap (·.1) = ks := by rfl)
    (hdb : (x == ("__debug__" : Str)) = false := by decide) (he : starEach (e :: es) X.env = (false, eval e X.env) :: starEach es X.env := by rfl)
    (hpl : ((backTo pos (starEach (e :: es) X.env)).any (·.1) || (backToKw pos (keywordEach kws X.env)).any (·.1.isNone)) = false := by rfl) :
    PE X (.Call (.Name x p) (e :: es) kws pos) (tCallK sp gV E t tk) := by
  intro pins s σ H Q I h
  refine wpAny_Call_Name_kw (ld_glob I hg hm ?_ hdb)
  refine PySem.W.callWith_KW (h₀ := X.base) I.ok.mod.kin hk hall (thn (ha pos pins s σ H _ I h) fun us s1 ⟨vs, H1, I1, r, q⟩ => ?_) hpl he
  refine thn (hkw pos pins s1 σ H1 _ I1 q) fun ws s2 ⟨zs, H2, I2, rz, q2⟩ => ⟨I2.kIn, ?_⟩
  rw [hks]
  exact run_fnk F hr hb hx I2 r rz q2
end

/-! ### a def's body keeps its promise -/
/-- names: the parameters first -/
structure FnScope (N P : List Str) (sc : Scope) : Prop where
  kind : sc.kind = .function
  co : sc.isCoroutine = false
  gen : sc.isGenerator = false
  nd : N.Nodup
  pre : N.take P.length = P
  par : ∀ x ∈ P, sc.names.lookup x = some .local ∨ sc.names.lookup x = some .cell
  nofree : ∀ y ∈ sc.names, y.2 ≠ .free

theorem bindL_out {kindOf : Str → Option NameKind} {x : Str} : ∀ {binds : List (Str × Value)} {m : Str → Option Value}, (∀ v, (x, v) ∉ binds) → bindL kindOf binds m x = m x
  | [], _, _ => rfl
  | (n, v) :: r, m, h => by
    unfold bindL
    rw [bindL_out fun w hw => h w (List.mem_cons_of_mem _ hw)]
    split
    · have : x ≠ n := by rintro rfl; exact h v List.mem_cons_self
      simp [this]
    · rfl
theorem bindC_out {kindOf : Str → Option NameKind} {x : Str} : ∀ {binds : List (Str × Value)} {m : Str → Option Value}, (∀ v, (x, v) ∉ binds) → bindC kindOf binds m x = m x
  | [], _, _ => rfl
  | (n, v) :: r, m, h => by
    unfold bindC
    rw [bindC_out fun w hw => h w (List.mem_cons_of_mem _ hw)]
    split
    · rfl
    · have : x ≠ n := by rintro rfl; exact h v List.mem_cons_self
      simp [this]
theorem bindL_get {kindOf : Str → Option NameKind} {x : Str} {v : Value} : ∀ {P : List Str} {vs : List Value} {i : Nat} {m : Str → Option Value}, P.Nodup → P[i]? = some x → vs[i]? = some v → kindOf x = some .local →
    bindL kindOf (P.zip vs) m x = some v
  | [], _, _, _, _, h, _, _ => by simp at h
  | _ :: _, [], _, _, _, _, h, _ => by simp at h
  | p :: P, w :: vs, 0, m, nd, h1, h2, hk => by
    simp at h1 h2; subst h1; subst h2
    show bindL kindOf ((p, w) :: P.zip vs) m p = _
    unfold bindL
    rw [bindL_out fun v hv => (List.nodup_cons.mp nd).1 (List.of_mem_zip hv).1, if_pos hk]
    simp
  | p :: P, w :: vs, i + 1, m, nd, h1, h2, hk => by
    show bindL kindOf ((p, w) :: P.zip vs) m x = _
    unfold bindL
    exact bindL_get (i := i) (List.nodup_cons.mp nd).2 (by simpa using h1) (by simpa using h2) hk
theorem bindC_get {kindOf : Str → Option NameKind} {x : Str} {v : Value} : ∀ {P : List Str} {vs : List Value} {i : Nat} {m : Str → Option Value}, P.Nodup → P[i]? = some x → vs[i]? = some v → kindOf x ≠ some .local →
    bindC kindOf (P.zip vs) m x = some v
  | [], _, _, _, _, h, _, _ => by simp at h
  | _ :: _, [], _, _, _, _, h, _ => by simp at h
  | p :: P, w :: vs, 0, m, nd, h1, h2, hk => by
    simp at h1 h2; subst h1; subst h2
    show bindC kindOf ((p, w) :: P.zip vs) m p = _
    unfold bindC
    rw [bindC_out fun v hv => (List.nodup_cons.mp nd).1 (List.of_mem_zip hv).1, if_neg hk]
    simp
  | p :: P, w :: vs, i + 1, m, nd, h1, h2, hk => by
    show bindC kindOf ((p, w) :: P.zip vs) m x = _
    unfold bindC
    exact bindC_get (i := i) (List.nodup_cons.mp nd).2 (by simpa using h1) (by simpa using h2) hk

/-- the names' values at the entry -/
def start (N : List Str) (vs : List V) : St := vs.map some ++ List.replicate (N.length - vs.length) none

/-- the context of a def's body, at its entry; an exception leaves the frame, then lies as CX says -/
def cxOf (CX : CXT) (P : Program) (w : World) (K : PySem.W.Frag) (mg : Str → Option Value) (base : Heap) (N : List Str) (qual : Str) (scope : Scope) (f : Addr) (cd : Value) (A : Around) (outer : List Env) (s : Shared) (H : Hp) (E : XK) : Cx where
  prog := P
  w := w
  K := K
  mg := mg
  base := base
  A := A.deeper (envOfC qual scope s.heap.objs.size f cd)
  N := N
  s₀ := s
  H₀ := H
  env := envOfC qual scope s.heap.objs.size f cd
  outer := outer
  stack := envOfC qual scope s.heap.objs.size f cd :: outer
  ex := []
  calm := true
  fn := fun _ => true
  pn := []
  xe := fun e s' => wpAny (model P w) (A.deeper (envOfC qual scope s.heap.objs.size f cd)) (leaving (envOfC qual scope s.heap.objs.size f cd) e) (fun _ s'' => CX outer H s E e s'') (fun e' s'' => CX outer H s E e' s'') s'

theorem cell_has {sc : Scope} {n : Nat} {x : Str} (h : sc.names.lookup x = some .cell) : ∃ c, (cellsFrom n sc.names []).lookup x = some c := by
  have q := PySem.W.cellsFrom_some sc.names n [] (.inl h)
  exact Option.isSome_iff_exists.mp q

theorem inv_start {CX : CXT} {P : Program} {w : World} {K : PySem.W.Frag} {mg : Str → Option Value} {base : Heap} {N ps : List Str} {qual : Str} {scope : Scope} {f : Addr} {cd : Value} {A : Around} {outer : List Env} {s s1 : Shared} {H : Hp} {E : XK} {us : List Value} {vs : List V}
    (S : FnScope N ps scope) (hd : A.handled = none) (e0 : Env0 P w K mg base A outer s H) (hl : vs.length = ps.length) (r : Vals vs us)
    (x : InCallC s s.heap.objs.size (bindL (envOfC qual scope s.heap.objs.size f cd).kindOf (ps.zip us) fun _ => none) (cellsFrom (s.heap.objs.size + 1) scope.names []) (bindC (envOfC qual scope s.heap.objs.size f cd).kindOf (ps.zip us) fun _ => none) s1) :
    Inv (cxOf CX P w K mg base N qual scope f cd A outer s H E) [] (start N vs) H s1 := by
  have hpl : ps.length ≤ N.length := by have := congrArg List.length S.pre; rw [List.length_take] at this; omega
  obtain ⟨h1, tk, rfl, hk⟩ := x.done
  have noA : ∀ b : Addr, b ∉ (cxOf CX P w K mg base N qual scope f cd A outer s H E).ex := fun b z => absurd (show b ∈ ([] : List Addr) from z) (by simp)
  refine ⟨⟨e0.mod, S.kind, rfl, rfl, Nat.le_refl _, fun y z c h1 h2 => ?_, fun y hy => ?_, fun y c _ h => ?_, fun _ => hd, Around.frames_deeper e0.frames, .inr ⟨rfl, rfl⟩, fun b z => absurd z (noA b), e0.bs, e0.bsz, fun b _ _ => noA b, fun b z => absurd z (noA b), e0.funs, e0.frf⟩,
    rfl, e0.bare, Un.kept hk, ⟨_, x.toInCall.ns, fun i y v h1 h2 h3 => ?_⟩, fun y c h => ⟨_, x.cell y c h⟩, e0.hok.fresh (Nat.le_refl _), fun y c h => ?_, fun p hp => absurd (show p ∈ ([] : List (Addr × Obj)) from hp) (by simp), e0.hok.kept hk, ?_⟩
  · exact name_of_addr x.apart (PySem.mem_of_lookup h1) (PySem.mem_of_lookup h2)
  · have hy : scope.names.lookup y = some .cell ∨ scope.names.lookup y = some .free := hy
    rcases hy with hy | hy
    · exact cell_has hy
    · exact absurd rfl (S.nofree _ (PySem.mem_of_lookup hy))
  · exact Nat.le_of_lt (x.above y c (PySem.mem_of_lookup h))
  · have hi : i < vs.length := by
      unfold start at h2
      by_cases hi : i < vs.length
      · exact hi
      · rw [List.getElem?_append_right (by simpa using hi)] at h2
        rw [List.getElem?_replicate] at h2
        split at h2 <;> cases h2
    have ha : vs[i]? = some v := by
      unfold start at h2
      rw [List.getElem?_append_left (by simpa using hi), List.getElem?_map] at h2
      cases e : vs[i]? with
      | none => rw [e] at h2; cases h2
      | some a => rw [e] at h2; cases h2; rfl
    obtain ⟨u, hu, rv⟩ := r.get ha
    have hp : ps[i]? = some y := by
      rw [← S.pre, List.getElem?_take_of_lt (by omega)]; exact h1
    have ndP : ps.Nodup := by rw [← S.pre]; exact S.nd.sublist (List.take_sublist _ _)
    refine ⟨u, rv, ?_⟩
    rcases S.par y (List.mem_of_getElem? hp) with k | k
    · exact .inl ⟨k, bindL_get ndP hp hu k⟩
    · obtain ⟨c, e⟩ := cell_has (n := s.heap.objs.size + 1) k
      refine .inr ⟨.inl k, c, e, ?_⟩
      have q := x.cell y c e
      rw [bindC_get ndP hp hu (by show scope.names.lookup y ≠ _; rw [k]; decide)] at q
      exact q
  · exact e0.hok.fresh (Nat.le_of_lt (x.above y c (PySem.mem_of_lookup h)))
  · unfold start
    show _ = N.length
    rw [List.length_append, List.length_map, List.length_replicate]
    omega

/-- THE RULE: a def (or a method) of the text, by its body. The body's reading t is chosen for each entry; it is run at the parameters' values -/
theorem fn_of {CX : CXT} {P : Program} {w : World} {K : PySem.W.Frag} {mg : Str → Option Value} {base : Heap} {k : Nat} {f : Addr} {name qual : Str} {params : Arguments} {body : List Stmt} {scope : Scope} {dV kV doc pm cdv ct oc : Value} {an od : Option Addr}
    {osl : Array (Option Value)} {N ps : List Str} {sp : Sp} (lk : K.lookup f = some ⟨oc, od, .func (PySem.W.fnOf name qual params body scope dV kV doc pm an cdv ct), osl⟩) (hcd : PySem.W.codeIn K cdv qual = true) (S : FnScope N ps scope)
    (len : ∀ vs H Q E, sp vs H Q E → vs.length = ps.length)
    (hbody : ∀ (A : Around) (outer : List Env) (s : Shared) (H : Hp) (vs : List V) (Q : VK) (E : XK), Room k (A.deeper (envOfC qual scope s.heap.objs.size f cdv)) → sp vs H Q E →
      ∃ t, PSs (cxOf CX P w K mg base N qual scope f cdv A outer s H E) body t ∧ t { nx := fun _ H' => Q .non H', rt := Q } (start N vs) H) :
    FnOk P w K mg base CX (k + 1) f (PySem.W.fnOf name qual params body scope dV kV doc pm an cdv ct) ps sp := by
  refine ⟨len, fun A outer s H args us vs Q E hr e0 hb r hsp => ?_⟩
  have hl := len _ _ _ _ hsp
  have KX : K.In s.heap := e0.mod.kin.keeps fun b o e => (e0.bs b o e).1
  have lim : s.heap.NoLimit := e0.mod.nolimit.keeps fun b o e => (e0.bs b o e).1
  have hkind : ∀ y ∈ ps.zip us, scope.names.lookup y.1 = some .local ∨ (scope.names.lookup y.1 = some .cell ∧ ((cellsFrom (s.heap.objs.size + 1) scope.names []).lookup y.1).isSome = true) := fun ⟨n, v⟩ hy => by
    rcases S.par n (List.of_mem_zip hy).1 with q | q
    · exact .inl q
    · exact .inr ⟨q, PySem.W.cellsFrom_some _ _ _ (.inl q)⟩
  refine codeAny_call_function hr.depth (KX _ _ lk) rfl S.co S.gen rfl (PySem.W.codeRec_of KX hcd) (hb _ _ _ _ ?_)
  refine wpAny_newFunctionEnv_cells S.kind hkind fun env he s1 x => ?_
  subst he
  refine ⟨lim.keeps x.toInCall.keep, codeAny_func ?_⟩
  obtain ⟨t, ht, hq⟩ := hbody A outer s H vs Q E (hr.deeper _) hsp
  have I : Inv (cxOf CX P w K mg base N qual scope f cdv A outer s H E) [] (start N vs) H s1 := inv_start S hr.hd e0 hl r x
  refine wpAny_mono (ht [] s1 (start N vs) H _ I hq) (fun fl s' hs => ?_) fun e s' hs => hs
  have fin : ∀ {σ' : St} {H' : Hp} {v : V} {u : Value}, Inv (cxOf CX P w K mg base N qual scope f cdv A outer s H E) [] σ' H' s' → RelV v u → Q v H' → CE outer P w H s Q u s' :=
    fun {σ' H' v u} J rv q => ⟨v, H', J.os, J.bare, J.base, J.hok, rv, q⟩
  cases fl with
  | ret u =>
    obtain ⟨v, σ', H', J, rv, q⟩ := hs
    exact fin J rv q
  | next =>
    obtain ⟨σ', H', J, q⟩ := hs
    exact fin (v := V.non) (u := Value.none) J rfl q
  | brk =>
    obtain ⟨_, _, _, q⟩ := hs
    exact False.elim q
  | cont =>
    obtain ⟨_, _, _, q⟩ := hs
    exact False.elim q
end L2

namespace L2
open PySem PySem.Spec PyProof.Rows
section
variable {X : Cx} {x : Str} {p pos : Pos} {e : Expr} {es : List Expr} {t : TA} {id T : String} {r : List V → Hp → VK → Prop}

def tCB (r : List V → Hp → VK → Prop) (t : TA) : TE := fun σ H Q => t σ H fun vs H1 => r vs H1 Q
/-- f(e, ..), f a built-in function -/
theorem pe_callB (hc : CallR X (.builtin id) r) (hg : Gl X x) (hm : X.mg x = none) (hv : bootBuiltins x = some (.builtin id)) (ha : PA X (e :: es) t) (hn : x ≠ "__name__" := by decide) (hdb : (x == ("__debug__" : Str)) = false := by decide)
    (he : starEach (e :: es) X.env = (false, eval e X.env) :: starEach es X.env := by rfl) (hpl : (backTo pos (starEach es X.env)).any (·.1) = false := by rfl) : PE X (.Call (.Name x p) (e :: es) [] pos) (tCB r t) := by
  intro pins s σ H Q I h
  refine wpAny_Call_Name_kw (ld_blt I hg hm hv ?_ hn hdb)
  exact PyProof.Rows.callWith_builtin1 (thn (ha pos pins s σ H _ I h) fun us s1 ⟨vs, H1, I1, r1, q1⟩ => hc pins s1 σ H1 vs us Q I1 r1 q1) he hpl
/-- T(e, ..), T a built-in type -/
theorem pe_callTy (hc : CallR X (.type T) r) (hg : Gl X x) (hm : X.mg x = none) (hv : bootBuiltins x = some (.type T)) (ha : PA X (e :: es) t) (hn : x ≠ "__name__" := by decide) (hdb : (x == ("__debug__" : Str)) = false := by decide)
    (he : starEach (e :: es) X.env = (false, eval e X.env) :: starEach es X.env := by rfl) (hpl : (backTo pos (starEach es X.env)).any (·.1) = false := by rfl) : PE X (.Call (.Name x p) (e :: es) [] pos) (tCB r t) := by
  intro pins s σ H Q I h
  refine wpAny_Call_Name_kw (ld_blt I hg hm hv ?_ hn hdb)
  exact PyProof.Rows.callWith_type1 (thn (ha pos pins s σ H _ I h) fun us s1 ⟨vs, H1, I1, r1, q1⟩ => hc pins s1 σ H1 vs us Q I1 r1 q1) he hpl
/-- T() -/
theorem pe_callTy0 (hc : CallR X (.type T) r) (hg : Gl X x) (hm : X.mg x = none) (hv : bootBuiltins x = some (.type T)) (hn : x ≠ "__name__" := by decide) (hdb : (x == ("__debug__" : Str)) = false := by decide) :
    PE X (.Call (.Name x p) [] [] pos) (tCB r tNil) := by
  intro pins s σ H Q I h
  refine wpAny_Call_Name_kw (ld_blt I hg hm hv ?_ hn hdb)
  exact PyProof.Rows.callWith_type0 (hc pins s σ H [] [] Q I .nil h)
end
end L2

namespace HT
open PySem PyProof.Rows

/-- t < u of tuples of ints -/
def lexLt : List Int → List Int → Bool
  | [], [] => false
  | [], _ :: _ => true
  | _ :: _, [] => false
  | x :: xs, y :: ys => if x = y then lexLt xs ys else decide (x < y)
theorem lexLt_cons (x y : Int) (xs ys : List Int) : lexLt (x :: xs) (y :: ys) = if x = y then lexLt xs ys else decide (x < y) := rfl
theorem lexLt_nil_nil : lexLt [] [] = false := rfl
theorem lexLt_nil_cons (y : Int) (ys : List Int) : lexLt [] (y :: ys) = true := rfl
theorem lexLt_cons_nil (x : Int) (xs : List Int) : lexLt (x :: xs) [] = false := rfl

theorem eqAt_int (A : Around) (s : Shared) (a : Int) (t : Tok) (c : Int) (u : Tok) : ∃ e, SeqAt.EqAt A s (.int a t) (.int c u) e ∧ (e = true ↔ a = c) :=
  ⟨(a == c), SeqAt.EqAt.int_int a t c u, by simp⟩
theorem rcLt_int (A : Around) (s : Shared) (a : Int) (t : Tok) (c : Int) (u : Tok) (prog : Program) (w : World) (E : Value → Shared → Prop) (Q : Value → Shared → Prop) (h : Q (.bool (decide (a < c))) s) :
    wpAny (model prog w) A (richCompare .Lt (.int a t) (.int c u)) Q E s :=
  (PyProof.Rows.lt_int h : wpAny (model prog w) A (compareOp .Lt (.int a t) (.int c u)) Q E s)

section
open PySem.SeqAt
open PySem.AutoSeq1 (wpAny_loadPart')
open PySem.MeetsSeq PySem.MeetsSeq2 PySem.MeetsSeq3

theorem tuple_lt_ints (l b : Addr) (items items2 : Array Value) (n n2 : Nat) (dd dd2 : Option Addr) (sl sl2 : Array (Option Value)) (ns ms : List Int) (hi : IntsAre items.toList ns) (hj : IntsAre items2.toList ms) :
    Meets (Builtin.«tuple.__lt__» ⟨[.ref l, .ref b], []⟩)
      (fun _ R s => s.heap.get? l = some { cls := .type "tuple", dict := dd, data := .seq items n, slots := sl } ∧ s.heap.get? b = some { cls := .type "tuple", dict := dd2, data := .seq items2 n2, slots := sl2 } ∧
        R (.ok (.ret (.bool (lexLt ns ms)))) s) :=
  .of_wp fun prog w A R s h => by
    obtain ⟨hp, g, d, tk, os⟩ := s; obtain ⟨hl, hb, h⟩ := h
    have f2 := AutoSeq1.sub_tuple_tuple
    have z1 : items.size = ns.length := by rw [← hi.length]; simp
    have z2 : items2.size = ms.length := by rw [← hj.length]; simp
    wp_walk using wpAny_loadPart' hl, wpAny_loadPart' hb, wpAny_forIn_list _ (fun rest b s' => b.1 = none ∧ s' = ⟨hp, g, d, tk, os⟩ ∧ ∃ (vs ws : List Value) (ns' ms' : List Int), rest = vs.zip ws ∧
      IntsAre vs ns' ∧ IntsAre ws ms' ∧ ns'.length + items2.size = ms'.length + items.size ∧ R (.ok (.ret (.bool (lexLt ns' ms')))) ⟨hp, g, d, tk, os⟩) _
    case turn =>
      rintro ⟨y, x⟩ rest b s' ⟨hb', rfl, vs, ws, ns', ms', hz, hvi, hwi, hlen, hR⟩
      cases hvi with
      | nil => rw [List.zip_nil_left] at hz; cases hz
      | cons a t hvi' =>
        cases hwi with
        | nil => rw [List.zip_nil_right] at hz; cases hz
        | cons c u hwi' =>
          rw [List.zip_cons_cons] at hz
          injection hz with hyx hrest
          injection hyx with hy hx
          subst hy hx
          rw [lexLt_cons] at hR
          simp only [List.length_cons] at hlen
          obtain ⟨e, he, hiff⟩ := eqAt_int A.in1 ⟨hp, g, d, tk, os⟩ a t c u
          refine wpAny_bind (he prog w _ _ ?_)
          cases e with
          | true =>
            rw [if_pos (hiff.mp rfl)] at hR
            wp_walk
            exact ⟨rfl, rfl, _, _, _, _, hrest, hvi', hwi', by omega, hR⟩
          | false =>
            rw [if_neg (fun q => absurd (hiff.mpr q) Bool.false_ne_true)] at hR
            have hri := rcLt_int A.in1 ⟨hp, g, d, tk, os⟩ a t c u prog w
            wp_walk using hri
            exact ⟨_, rfl, by simpa using hR⟩
    case fin =>
      rintro ⟨b1, b2⟩ s' ⟨hb', rfl, vs, ws, ns', ms', hz, hvi, hwi, hlen, hR⟩
      simp only at hb'
      subst hb'
      have hv : lexLt ns' ms' = decide (items.size < items2.size) := by
        cases hvi with
        | nil =>
          cases hwi with
          | nil =>
            simp only [List.length_nil] at hlen
            rw [lexLt_nil_nil]
            exact (decide_eq_false (by omega)).symm
          | cons c u hw =>
            simp only [List.length_nil, List.length_cons] at hlen
            rw [lexLt_nil_cons]
            exact (decide_eq_true (by omega)).symm
        | cons a t hv =>
          cases hwi with
          | nil =>
            simp only [List.length_nil, List.length_cons] at hlen
            rw [lexLt_cons_nil]
            exact (decide_eq_false (by omega)).symm
          | cons c u hw =>
            rw [List.zip_cons_cons] at hz
            cases hz
      rw [hv] at hR
      wp_walk
      exact ⟨_, rfl, by simpa [Builtin.Tuple.tupleCompareSizes] using hR⟩
    case h =>
      exact ⟨rfl, rfl, items.toList, items2.toList, ns, ms, rfl, hi, hj, by omega, h⟩
end

section
variable {prog : Program} {w : World} {A : Around} {E : Value → Shared → Prop} {s : Shared}

theorem lt_tupInts {l b : Addr} {items items2 : Array Value} {ns ms : List Int} {Q : Value → Shared → Prop} (hl : IsTup s.heap l items) (hb : IsTup s.heap b items2) (hi : IntsAre items.toList ns) (hj : IntsAre items2.toList ms)
    (hu : A.units < cLine) (h : Q (.bool (lexLt ns ms)) s) : wpAny (model prog w) A (compareOp .Lt (.ref l) (.ref b)) Q E s := by
  obtain ⟨⟨cls, dd, data, sl⟩, ho, hc, n, hd⟩ := id hl
  obtain ⟨⟨cls2, dd2, data2, sl2⟩, ho2, hc2, n2, hd2⟩ := id hb
  simp only at hc hd hc2 hd2
  subst hc hd hc2 hd2
  exact richCompare_meets_room (op := .Lt) ⟨_, ho, rfl⟩ ⟨_, ho2, rfl⟩ PySem.F.slot_tuple_lt PySem.F.entry_tuple_lt (PySem.F.args_tuple_lt_2 _ _) (tuple_lt_ints l b items items2 n n2 dd dd2 sl sl2 ns ms hi hj)
    ⟨ho, ho2, show Value.bool (lexLt ns ms) ≠ Value.notImplemented ∧ Q (.bool (lexLt ns ms)) s from ⟨(fun x => nomatch x), h⟩⟩ hu

/-- t + u, t not empty -/
theorem cat_tup {t b : Addr} {vs ws : List Value} {Q : Value → Shared → Prop} (ht : IsTup s.heap t vs.toArray) (hb : IsTup s.heap b ws.toArray) (hv : vs ≠ [])
    (h1 : ws = [] → Q (.ref t) s) (h2 : ws ≠ [] → Q (.ref s.heap.objs.size) { s with heap := s.heap.push { cls := .type "tuple", data := .seq (vs ++ ws).toArray } })
    (hsz : vs.length + ws.length ≤ sizeLine) : wpAny (model prog w) A (binaryOp .Add (.ref t) (.ref b)) Q E s := by
  obtain ⟨⟨cls, dd, data, sl⟩, ho, hc, n, hd⟩ := id ht
  obtain ⟨⟨cls2, dd2, data2, sl2⟩, ho2, hc2, n2, hd2⟩ := id hb
  simp only at hc hd hc2 hd2
  subst hc hd hc2 hd2
  have e : vs.toArray ++ ws.toArray = (vs ++ ws).toArray := by simp
  by_cases hw : ws = []
  · exact concat_meets ⟨_, ho, rfl⟩ ⟨_, ho2, rfl⟩ noFill_tuple_add seq_tuple_add PySem.F.slot_tuple_add PySem.F.entry_tuple_add (PySem.F.args_tuple_add_2 _ _)
      (tuple_addW1 t b vs.toArray ws.toArray n n2 dd dd2 sl sl2 (by simpa using hv) (by simp [hw])) ⟨ho, ho2, h1 hw⟩
  · refine concat_meets ⟨_, ho, rfl⟩ ⟨_, ho2, rfl⟩ noFill_tuple_add seq_tuple_add PySem.F.slot_tuple_add PySem.F.entry_tuple_add (PySem.F.args_tuple_add_2 _ _)
      (tuple_addW2 t b vs.toArray ws.toArray n n2 dd dd2 sl sl2 (by simpa using hv) (by simpa using hw) (by rw [List.size_toArray, List.size_toArray]; exact hsz)) ⟨ho, ho2, ?_⟩
    rw [e]
    exact h2 hw

/-! ### t[a:b], not the whole -/
/-- a slice's bound as a place among n (d where it is left out) -/
def sIx (n d : Nat) : Option Int → Nat
  | none => d
  | some v => if v < 0 then (v + (n : Int)).toNat else min v.toNat n
theorem sIx_none (n d : Nat) : sIx n d none = d := rfl
theorem sIx_nat (n d k : Nat) : sIx n d (some (k : Int)) = min k n := by
  show (if (k : Int) < 0 then ((k : Int) + (n : Int)).toNat else min (k : Int).toNat n) = min k n
  rw [if_neg (by omega), Int.toNat_natCast]
theorem sIx_le (n d : Nat) (hd : d ≤ n) (o : Option Int) : sIx n d o ≤ n := by
  cases o with
  | none => exact hd
  | some v =>
    show (if v < 0 then (v + (n : Int)).toNat else min v.toNat n) ≤ n
    by_cases hv : v < 0
    · rw [if_pos hv]; omega
    · rw [if_neg hv]; exact Nat.min_le_right _ _
theorem clip_eq (v : Int) (n d : Nat) : (if v < 0 then max (v + (n : Int)) 0 else min v (n : Int)) = ((sIx n d (some v) : Nat) : Int) := by
  show (if v < 0 then max (v + (n : Int)) 0 else min v (n : Int)) = (((if v < 0 then (v + (n : Int)).toNat else min v.toNat n) : Nat) : Int)
  by_cases hv : v < 0
  · simp only [if_pos hv]; omega
  · simp only [if_neg hv]; omega
theorem adjust_gen (lo hi : Option Int) (n : Nat) : Builtin.Slice.sliceAdjust lo hi 1 (n : Int) = (((sIx n 0 lo : Nat) : Int), ((sIx n n hi : Nat) : Int)) := by
  have h1 : ¬ ((1 : Int) < 0) := by omega
  unfold Builtin.Slice.sliceAdjust
  simp only [h1, if_false]
  refine Prod.ext ?_ ?_
  · cases lo with
    | none => rfl
    | some v => exact clip_eq v n 0
  · cases hi with
    | none => rfl
    | some v => exact clip_eq v n n
theorem places_gen (i j : Nat) : Builtin.Slice.slicePlaces (i : Int) (j : Int) 1 = j - i := by
  unfold Builtin.Slice.slicePlaces
  have h1 : (1 : Int) > 0 := by omega
  simp only [h1, if_true, Int.ediv_one]
  split <;> omega
theorem slicePart_ {v : Value} {o : Option Int} {Q : Option Int → Shared → Prop} (p : IsPart v o) (h : Q o s) : wpAny (model prog w) A (Builtin.Slice.slicePartIndex v) Q E s := by
  cases p with
  | none => exact slicePart_none h
  | int i t => exact slicePart_int h
theorem sliceApplied_gen {sl : Addr} {vl vu : Value} {lo hi : Option Int} {n : Nat} {Q : Int × Int × Nat → Shared → Prop} (hs : s.heap.IsSliceOf sl vl vu .none) (pl : IsPart vl lo) (pu : IsPart vu hi)
    (h : Q (((sIx n 0 lo : Nat) : Int), 1, sIx n n hi - sIx n 0 lo) s) : wpAny (model prog w) A (Builtin.Slice.sliceApplied (.ref sl) (pure (n : Int))) Q E s := by
  obtain ⟨os, hos, hcs, hds⟩ := id hs
  unfold Builtin.Slice.sliceApplied Builtin.Slice.sliceFields
  refine wpAny_bind (wpAny_bind (wpAny_field hos hds (x := vl) rfl (wpAny_bind (wpAny_field hos hds (x := vu) rfl (wpAny_bind (wpAny_field hos hds (x := .none) rfl (wpAny_pure ?_)))))))
  refine wpAny_bind (slicePart_none ?_)
  show wpAny _ _ (if ((1 : Int) == 0) = true then _ else _) _ _ s
  rw [if_neg (by decide)]
  refine wpAny_bind (slicePart_ pl (wpAny_bind (slicePart_ pu (wpAny_bind (wpAny_pure ?_)))))
  show wpAny _ _ (match Builtin.Slice.sliceAdjust lo hi 1 (n : Int) with | (lo, hi) => pure (lo, (1 : Int), Builtin.Slice.slicePlaces lo hi 1)) _ _ s
  rw [adjust_gen lo hi n]
  show wpAny _ _ (pure (((sIx n 0 lo : Nat) : Int), (1 : Int), Builtin.Slice.slicePlaces ((sIx n 0 lo : Nat) : Int) ((sIx n n hi : Nat) : Int) 1)) _ _ s
  rw [places_gen]
  exact wpAny_pure h
theorem pick_gen (xs : Array Value) (i k : Nat) : ((List.range k).filterMap fun (m : Nat) => xs[((i : Int) + (m : Int) * 1).toNat]?).toArray = ((xs.toList.drop i).take k).toArray := by
  have e : (fun (m : Nat) => xs[((i : Int) + (m : Int) * 1).toNat]?) = fun m => xs[i + m]? := by
    funext m
    have : ((i : Int) + (m : Int) * 1).toNat = i + m := by omega
    rw [this]
  rw [e]
  have := pick_run xs i k
  rw [List.filterMap_map] at this
  have e2 : ((fun x => xs[x]?) ∘ fun x => i + x) = fun m => xs[i + m]? := rfl
  rw [e2] at this
  rw [this]

theorem getItem_tuple_cut {t sl : Addr} {items : Array Value} {vl vu : Value} {lo hi : Option Int} {Q : Value → Shared → Prop} (ht : IsTup s.heap t items) (hs : s.heap.IsSliceOf sl vl vu .none) (pl : IsPart vl lo) (pu : IsPart vu hi)
    (hw : ¬ (sIx items.size 0 lo = 0 ∧ sIx items.size items.size hi = items.size))
    (h : Q (.ref s.heap.objs.size) { s with heap := s.heap.push { cls := .type "tuple", data := .seq ((items.toList.drop (sIx items.size 0 lo)).take (sIx items.size items.size hi - sIx items.size 0 lo)).toArray } })
    (hsz : items.size ≤ sizeLine) : wpAny (model prog w) A (getItem (.ref t) (.ref sl)) Q E s := by
  have htake : sizeOk (.seq ((items.toList.drop (sIx items.size 0 lo)).take (sIx items.size items.size hi - sIx items.size 0 lo)).toArray) := by
    show ((items.toList.drop (sIx items.size 0 lo)).take (sIx items.size items.size hi - sIx items.size 0 lo)).toArray.size ≤ sizeLine
    rw [List.size_toArray, List.length_take, List.length_drop, Array.length_toList]
    omega
  have hj : sIx items.size items.size hi ≤ items.size := sIx_le _ _ (Nat.le_refl _) hi
  obtain ⟨os, hos, hcs, hds⟩ := id hs
  have hTs : s.TypeIs (.ref sl) "slice" := ⟨os, hos, hcs⟩
  unfold getItem
  try with_reducible refine wpAny_holding ?_
  first | refine wpAny_bind (wpAny_pure ?_) | skip
  refine wpAny_bind (wpAny_sequenceKey ht.typeIs (by decide) ?_)
  refine wpAny_bind (wpAny_callSpecial?_slot (name := Str.ofString "__getitem__") ht.typeIs PyProof.Rows.slot_tuple_getitem
    (wpAny_call_entry PyProof.Rows.slot_tuple_getitem ht.typeIs entry_tuple_getitem ?_ (args_tuple_getitem _ _)))
  show wpAny _ _ (Builtin.Tuple.tupleItemsOf (.ref t) >>= _) _ _ s
  refine wpAny_bind (tupleItemsOf_ ht ?_)
  refine wpAny_bind (wpAny_typeOf hTs ?_)
  rw [if_pos (by decide)]
  refine wpAny_bind (sliceApplied_gen hs pl pu ?_)
  have hno : ¬ ((((sIx items.size 0 lo : Nat) : Int) == 0 && (1 : Int) == 1 && (sIx items.size items.size hi - sIx items.size 0 lo) == items.size) = true) := by
    intro q
    rw [Bool.and_eq_true, Bool.and_eq_true] at q
    have q1 : ((sIx items.size 0 lo : Nat) : Int) = 0 := eq_of_beq q.1.1
    have q2 : sIx items.size items.size hi - sIx items.size 0 lo = items.size := eq_of_beq q.2
    exact hw ⟨by omega, by omega⟩
  show wpAny _ _ (if (((sIx items.size 0 lo : Nat) : Int) == 0 && (1 : Int) == 1 && (sIx items.size items.size hi - sIx items.size 0 lo) == items.size) = true then _ else _) _ _ s
  rw [if_neg hno, pick_gen]
  first
    | exact wpAny_bind (m := Builtin.Tuple.tupleExact _) (wpAny_newObj_type (wpAny_pure ⟨_, rfl, wpAny_pure h⟩) htake)
    | exact wpAny_bind (m := Builtin.Tuple.tupleExact _) (wpAny_newObj_type (wpAny_bind (wpAny_pure (wpAny_pure ⟨_, rfl, wpAny_pure h⟩))) htake)
    | exact wpAny_bind (wpAny_bind (m := Builtin.Tuple.tupleExact _) (wpAny_newObj_type (wpAny_pure (wpAny_pure ⟨_, rfl, wpAny_pure h⟩)) htake))
    | exact wpAny_bind (wpAny_bind (m := Builtin.Tuple.tupleExact _) (wpAny_newObj_type (wpAny_pure ⟨_, rfl, wpAny_pure h⟩) htake))
end
end HT

namespace L2
open PySem PySem.Spec PyProof.Rows

/-! ### the parts of a slice -/
abbrev TO := St → Hp → (Option Int → Hp → Prop) → Prop
/-- a slice's part (left out, or an int) -/
def PO (X : Cx) (e : Option Expr) (t : TO) : Prop :=
  ∀ (pins : List (Addr × Obj)) (s : Shared) (σ : St) (H : Hp) (Q : Option Int → Hp → Prop), Inv X pins σ H s → t σ H Q →
    wpAny (model X.prog X.w) X.A (evalPart e X.env) (fun u s' => ∃ o H', Inv X pins σ H' s' ∧ IsPart u o ∧ Q o H') X.xe s
def tNoPart : TO := fun _ H Q => Q none H
def tPart (t : TE) : TO := fun σ H Q => t σ H fun x H1 => ∃ i, x = .int i ∧ Q (some i) H1

theorem intsAre_of {ns : List Int} : ∀ {us : List Value}, Vals (ns.map V.int) us → IntsAre us ns := by
  induction ns with
  | nil => intro us r; rw [List.map_nil] at r; cases r; exact .nil
  | cons n ns ih =>
    intro us r
    rw [List.map_cons] at r
    cases r with
    | cons r1 r2 =>
      obtain ⟨t, e⟩ := r1
      subst e
      exact .cons n t (ih r2)

section
variable {X : Cx} {e : Expr} {te : TE} {lo hi : Option Expr} {tl th : TO} {pos p2 : Pos}

theorem po_none : PO X none tNoPart := by
  intro pins s σ H Q I h
  rw [evalPart_none]
  exact wpAny_pure ⟨none, H, I, .none, h⟩
theorem po_some (h : PE X e te) : PO X (some e) (tPart te) := by
  intro pins s σ H Q I hw
  rw [evalPart_some]
  refine thn (h pins s σ H _ I hw) fun u s1 ⟨x, H1, I1, r1, q1⟩ => ?_
  obtain ⟨i, rfl, q⟩ := q1
  obtain ⟨t, rfl⟩ := r1
  exact ⟨some i, H1, I1, .int i t, q⟩

/-- what a slice of a value is, by values: the slice object stands at sl -/
def SlR (X : Cx) (r : V → Option Int → Option Int → Hp → VK → Prop) : Prop :=
  ∀ (pins : List (Addr × Obj)) (s : Shared) (σ : St) (H : Hp) (x : V) (v vl vu : Value) (lo hi : Option Int) (sl : Addr) (Q : VK), Inv X pins σ H s → RelV x v → s.heap.IsSliceOf sl vl vu .none → IsPart vl lo → IsPart vu hi → r x lo hi H Q →
    ∃ T id, typeLookup (.type T) "__getitem__" = pure (some (.builtin id)) ∧ s.TypeIs v T ∧ wpAny (model X.prog X.w) X.A (getItem v (.ref sl)) (EP X pins σ Q) X.xe s
theorem SlR.or {r r' : V → Option Int → Option Int → Hp → VK → Prop} (h : SlR X r) (h' : SlR X r') : SlR X (fun x lo hi H Q => r x lo hi H Q ∨ r' x lo hi H Q) := by
  intro pins s σ H x v vl vu lo hi sl Q I rx hs pl pu q
  rcases q with q | q
  · exact h pins s σ H x v vl vu lo hi sl Q I rx hs pl pu q
  · exact h' pins s σ H x v vl vu lo hi sl Q I rx hs pl pu q
def tSl (r : V → Option Int → Option Int → Hp → VK → Prop) (te : TE) (tl th : TO) : TE := fun σ H Q => te σ H fun x H1 => tl σ H1 fun l H2 => th σ H2 fun u H3 => r x l u H3 Q
/-- a[lo:hi], any a -/
theorem pe_slice {r : V → Option Int → Option Int → Hp → VK → Prop} (hr : SlR X r) (he : PE X e te) (hl : PO X lo tl) (hu : PO X hi th) : PE X (.Subscript e (.Slice lo hi none p2) pos) (tSl r te tl th) := by
  intro pins s σ H Q I h
  refine Subscript_ (thn (he pins s σ H _ I h) fun v s1 ⟨x, H1, I1, r1, q1⟩ => ?_)
  refine wpAny_Slice (thn (hl pins s1 σ H1 _ I1 q1) fun vl s2 ⟨l, H2, I2, pl, q2⟩ => thn (hu pins s2 σ H2 _ I2 q2) fun vu s3 ⟨u, H3, I3, pu, q3⟩ => ?_)
  rw [evalPart_none]
  refine wpAny_pure ?_
  have I4 : Inv X pins σ H3 { s3 with heap := s3.heap.push { cls := .type "slice", data := .fields #[vl, vu, .none] } } := I3.kept (t' := s3.toks) fun b ob q => Heap.get?_push_of_some _ q
  obtain ⟨T, id, hT, ht, hg⟩ := hr pins { s3 with heap := s3.heap.push { cls := .type "slice", data := .fields #[vl, vu, .none] } } σ H3 x v vl vu l u s3.heap.objs.size Q I4 r1 (Heap.IsSliceOf.new ..) pl pu q3
  show wpAny (model X.prog X.w) X.A (subscriptTail e (.Slice lo hi none p2) v (.ref s3.heap.objs.size)) (EP X pins σ Q) X.xe { s3 with heap := s3.heap.push { cls := .type "slice", data := .fields #[vl, vu, .none] } }
  exact tail_any (ops := [.ref s3.heap.objs.size, v]) ht hT hg (by with_unfolding_all rfl)

/-- the items of xs[lo:hi] -/
def cutV (xs : List V) (lo hi : Option Int) : List V := (xs.drop (HT.sIx xs.length 0 lo)).take (HT.sIx xs.length xs.length hi - HT.sIx xs.length 0 lo)
theorem cutV_length (xs : List V) (lo hi : Option Int) : (cutV xs lo hi).length ≤ xs.length := by
  unfold cutV
  rw [List.length_take, List.length_drop]
  omega
/-- t[lo:hi], not the whole of it (the whole would be t itself) -/
def rSlT (K : PySem.W.Frag) : V → Option Int → Option Int → Hp → VK → Prop := fun x lo hi H Q => ∃ a xs, x = .ref a ∧ SqT K H a xs ∧
  ¬ (HT.sIx xs.length 0 lo = 0 ∧ HT.sIx xs.length xs.length hi = xs.length) ∧ ∀ p, H p = none → Q (.ref p) (upd H p (.tup (cutV xs lo hi)))
theorem sl_tup : SlR X (rSlT X.K) := by
  intro pins s σ H x v vl vu lo hi sl Q I rx hs pl pu h
  obtain ⟨a, xs, rfl, hx, hw, q⟩ := h
  cases rx
  obtain ⟨its, r, ht, hz⟩ := I.tuple hx
  have hlen : its.toArray.size = xs.length := by rw [List.size_toArray]; exact r.length.symm
  refine ⟨"tuple", _, PyProof.Rows.slot_tuple_getitem.lookup, ht.typeIs, ?_⟩
  refine HT.getItem_tuple_cut ht hs pl pu (by rw [hlen]; exact hw) ?_ (by rw [hlen]; exact hz)
  rw [hlen]
  refine ⟨.ref s.heap.objs.size, _, I.laid (t' := s.toks) (o := .tup (cutV xs lo hi)) (fun b ob q => Heap.get?_push_of_some _ q) (Nat.le_refl _) ?_, rfl, q _ (I.hok.fresh (Nat.le_refl _))⟩
  exact ⟨Nat.le_trans (cutV_length xs lo hi) hz, _, (r.drop (HT.sIx xs.length 0 lo)).take (HT.sIx xs.length xs.length hi - HT.sIx xs.length 0 lo), IsTup.new _ _⟩

/-! ### t < u, t + u -/
def rLtT (K : PySem.W.Frag) : R2 := fun x y H Q => ∃ a b ns ms, x = .ref a ∧ y = .ref b ∧ SqT K H a (ns.map V.int) ∧ SqT K H b (ms.map V.int) ∧ Q (.bl (HT.lexLt ns ms)) H
theorem op_ltT (hu : X.A.units < cLine) : OpR X (compareOp .Lt) (rLtT X.K) := by
  intro pins s σ H x y v u Q I rx ry h
  obtain ⟨a, b, ns, ms, rfl, rfl, ha, hb, q⟩ := h
  cases rx
  cases ry
  obtain ⟨its, r1, p1, _⟩ := I.tuple ha
  obtain ⟨its2, r2, p2, _⟩ := I.tuple hb
  have i1 : IntsAre its.toArray.toList ns := intsAre_of r1
  have i2 : IntsAre its2.toArray.toList ms := intsAre_of r2
  exact HT.lt_tupInts p1 p2 i1 i2 hu ⟨.bl (HT.lexLt ns ms), H, I, rfl, q⟩
/-- t + u, t not empty: u empty gives t itself -/
def rCatT (K : PySem.W.Frag) : R2 := fun x y H Q => ∃ a b xs ys, x = .ref a ∧ y = .ref b ∧ SqT K H a xs ∧ SqT K H b ys ∧ xs ≠ [] ∧ xs.length + ys.length ≤ sizeLine ∧
  (ys = [] → Q (.ref a) H) ∧ (ys ≠ [] → ∀ p, H p = none → Q (.ref p) (upd H p (.tup (xs ++ ys))))
theorem Vals.nil_iff {xs : List V} {us : List Value} (r : Vals xs us) : us = [] ↔ xs = [] := by
  cases r with
  | nil => simp
  | cons _ _ => simp
theorem op_catT : OpR X (binaryOp .Add) (rCatT X.K) := by
  intro pins s σ H x y v u Q I rx ry h
  obtain ⟨a, b, xs, ys, rfl, rfl, ha, hb, hx, hz, q1, q2⟩ := h
  cases rx
  cases ry
  obtain ⟨its, r1, p1, _⟩ := I.tuple ha
  obtain ⟨its2, r2, p2, _⟩ := I.tuple hb
  refine HT.cat_tup p1 p2 (fun z => hx (r1.nil_iff.mp z)) (fun z => ⟨.ref a, H, I, rfl, q1 (r2.nil_iff.mp z)⟩) (fun z => ?_) (by rw [← r1.length, ← r2.length]; exact hz)
  refine ⟨.ref s.heap.objs.size, _, I.laid (t' := s.toks) (o := .tup (xs ++ ys)) (fun b ob q => Heap.get?_push_of_some _ q) (Nat.le_refl _) ?_, rfl, q2 (fun w => z (r2.nil_iff.mpr w)) _ (I.hok.fresh (Nat.le_refl _))⟩
  exact ⟨by rw [List.length_append]; exact hz, _, r1.append r2, IsTup.new _ _⟩
/-- tuple(t) -/
theorem call_tupleT : CallR X (.type "tuple") (fun xs H Q => ∃ a ys, xs = [.ref a] ∧ SqT X.K H a ys ∧ Q (.ref a) H) := by
  intro pins s σ H xs us Q I r h
  obtain ⟨a, ys, rfl, ha, q⟩ := h
  obtain ⟨u, rfl, ru⟩ := vals1 r
  cases ru
  obtain ⟨its, _, p1, _⟩ := I.tuple ha
  exact call_tuple_same (items := its.toArray) p1 ⟨.ref a, H, I, rfl, q⟩
end
end L2

namespace L2
open PySem PySem.Spec PyProof.Rows

/-! ### places -/
/-- the place that an index of any sign means -/
def ixN (n : Nat) (i : Int) : Option Nat := if 0 ≤ i then (if i < n then some i.toNat else none) else if -(n : Int) ≤ i then some (i + n).toNat else none
def atI {α : Type} (xs : List α) (i : Int) : Option α := (ixN xs.length i).bind fun j => xs[j]?
theorem ixN_seq {n : Nat} {i : Int} {j : Nat} (h : ixN n i = some j) : seqIndex? i n = some j ∧ j < n ∧ -(n : Int) ≤ i ∧ i < n := by
  unfold ixN at h
  by_cases h0 : 0 ≤ i
  · rw [if_pos h0] at h
    by_cases h1 : i < n
    · rw [if_pos h1] at h
      have e : i.toNat = j := Option.some.inj h
      exact ⟨by rw [seqIndex_of h0 h1, e], by omega, by omega, h1⟩
    · rw [if_neg h1] at h; cases h
  · rw [if_neg h0] at h
    by_cases h1 : -(n : Int) ≤ i
    · rw [if_pos h1] at h
      have e : (i + n).toNat = j := Option.some.inj h
      exact ⟨by rw [seqIndex_neg (by omega) h1, e], by omega, h1, by omega⟩
    · rw [if_neg h1] at h; cases h
theorem atI_get {α : Type} {xs : List α} {i : Int} {v : α} (h : atI xs i = some v) : ∃ j, seqIndex? i xs.length = some j ∧ xs[j]? = some v ∧ j < xs.length ∧ -(xs.length : Int) ≤ i ∧ i < xs.length := by
  unfold atI at h
  cases e : ixN xs.length i with
  | none => rw [e] at h; cases h
  | some j =>
    rw [e] at h
    obtain ⟨h1, h2, h3, h4⟩ := ixN_seq e
    exact ⟨j, h1, h, h2, h3, h4⟩
theorem atI_nat {α : Type} {xs : List α} {j : Nat} {v : α} (h : xs[j]? = some v) : atI xs (j : Int) = some v := by
  have hj : j < xs.length := (List.getElem?_eq_some_iff.mp h).1
  have e : ixN xs.length (j : Int) = some j := by
    unfold ixN
    rw [if_pos (by omega), if_pos (by omega)]; simp
  unfold atI; rw [e]; exact h
theorem atI_last {α : Type} (xs : List α) (v : α) : atI (xs ++ [v]) (-1) = some v := by
  have hl : (xs ++ [v]).length = xs.length + 1 := by simp
  have e : ixN (xs ++ [v]).length (-1) = some xs.length := by
    unfold ixN
    rw [hl, if_neg (by decide), if_pos (by omega)]
    congr 1
    omega
  unfold atI
  rw [e]
  show (xs ++ [v])[xs.length]? = some v
  simp

/-! ### what may be subscripted -/
/-- what stands as an index of a plain subscript -/
def PlainIx (b : Expr) : Prop := ∀ o i, subscripted b false o i = operate [o, i] (getItem o i)
/-- a subscript by values -/
def IxR (X : Cx) (r : R2) : Prop :=
  ∀ (value slice : Expr) (pins : List (Addr × Obj)) (s : Shared) (σ : St) (H : Hp) (x y : V) (v u : Value) (Q : VK), Inv X pins σ H s → RelV x v → RelV y u → r x y H Q →
    subscripted slice false v u = operate [v, u] (getItem v u) → wpAny (model X.prog X.w) X.A (subscriptTail value slice v u) (EP X pins σ Q) X.xe s
/-- a call of a builtin's method by values: the receiver, the arguments -/
def MtR (X : Cx) (id : String) (r : V → List V → Hp → VK → Prop) : Prop :=
  ∀ (pins : List (Addr × Obj)) (s : Shared) (σ : St) (H : Hp) (x : V) (xs : List V) (v : Value) (us : List Value) (Q : VK), Inv X pins σ H s → RelV x v → Vals xs us → r x xs H Q →
    wpAny (model X.prog X.w) X.A (call (.builtin id) (v :: us)) (EP X pins σ Q) X.xe s
section
variable {X : Cx} {a b : Expr} {ta tb : TE} {pos : Pos}
theorem IxR.or {r r' : R2} (h : IxR X r) (h' : IxR X r') : IxR X (fun x y H Q => r x y H Q ∨ r' x y H Q) := by
  intro value slice pins s σ H x y v u Q I rx ry q hs
  rcases q with q | q
  · exact h value slice pins s σ H x y v u Q I rx ry q hs
  · exact h' value slice pins s σ H x y v u Q I rx ry q hs
theorem MtR.or {id : String} {r r' : V → List V → Hp → VK → Prop} (h : MtR X id r) (h' : MtR X id r') : MtR X id (fun x xs H Q => r x xs H Q ∨ r' x xs H Q) := by
  intro pins s σ H x xs v us Q I rx rs q
  rcases q with q | q
  · exact h pins s σ H x xs v us Q I rx rs q
  · exact h' pins s σ H x xs v us Q I rx rs q
/-- a[b] -/
theorem pe_ix {r : R2} (hr : IxR X r) (ha : PE X a ta) (hb : PE X b tb) (hs : PlainIx b) : PE X (.Subscript a b pos) (tOp r ta tb) := by
  intro pins s σ H Q I h
  exact Subscript_ (binT ha hb I h fun v u s2 x y H2 I2 rx ry q => hr a b pins s2 σ H2 x y v u Q I2 rx ry q (hs _ _))

def rIxL (K : PySem.W.Frag) : R2 := fun x y H Q => ∃ p xs i v, x = .ref p ∧ y = .int i ∧ SqL K H p xs ∧ atI xs i = some v ∧ Q v H
def rIxT (K : PySem.W.Frag) : R2 := fun x y H Q => ∃ p xs i v, x = .ref p ∧ y = .int i ∧ SqT K H p xs ∧ atI xs i = some v ∧ Q v H
def rIxS : R2 := fun x y H Q => ∃ z i c, x = .str z ∧ y = .int i ∧ z.length ≤ sizeLine ∧ atI z.cps.toList i = some c ∧ Q (.str ⟨#[c]⟩) H
theorem ix_list : IxR X (rIxL X.K) := by
  intro value slice pins s σ H x y v u Q I rx ry h hs
  obtain ⟨p, xs, i, z, rfl, rfl, hq, he, q⟩ := h
  cases rx
  obtain ⟨t, rfl⟩ := ry
  obtain ⟨its, r, pl, hz⟩ := I.list hq
  obtain ⟨j, h1, h2, h3, h4, h5⟩ := atI_get he
  obtain ⟨w, ew, rw'⟩ := r.get h2
  have hl := r.length
  have hn := line63
  have fin : EP X pins σ Q w s := ⟨z, H, I, rw', q⟩
  by_cases h0 : 0 ≤ i
  · have hj : i.toNat = j := by
      rw [seqIndex_of h0 h5] at h1
      exact Option.some.inj h1
    exact item_listR pl.isList h0 (by omega) (by rw [hj]; simpa using ew) fin hs
  · have hj : (i + (its.toArray.size : Int)).toNat = j := by
      rw [seqIndex_neg (by omega) h4] at h1
      rw [List.size_toArray, ← hl]
      exact Option.some.inj h1
    exact subscriptTail_builtinR (x := w) pl.isList.typeIs slot_list_getitem.lookup
      (wpAny_getItem_list_neg (Q := fun r s' => r = w ∧ EP X pins σ Q r s') pl.isList (by omega) (by rw [List.size_toArray] <;> omega) (by omega) (by rw [hj]; simpa using ew) ⟨rfl, fin⟩) hs
theorem ix_tup : IxR X (rIxT X.K) := by
  intro value slice pins s σ H x y v u Q I rx ry h hs
  obtain ⟨p, xs, i, z, rfl, rfl, hq, he, q⟩ := h
  cases rx
  obtain ⟨t, rfl⟩ := ry
  obtain ⟨its, r, pl, hz⟩ := I.tuple hq
  obtain ⟨j, h1, h2, h3, h4, h5⟩ := atI_get he
  obtain ⟨w, ew, rw'⟩ := r.get h2
  have hl := r.length
  have hn := line63
  have fin : EP X pins σ Q w s := ⟨z, H, I, rw', q⟩
  exact subscriptTail_builtinR (x := w) pl.typeIs slot_tuple_getitem.lookup
    (getItem_tuple (j := j) (Q := fun r s' => r = w ∧ EP X pins σ Q r s') pl (by omega) (by omega) (by rw [List.size_toArray, ← hl]; exact h1) (by simpa using ew) ⟨rfl, fin⟩) hs
theorem ix_str : IxR X rIxS := by
  intro value slice pins s σ H x y v u Q I rx ry h hs
  obtain ⟨z, i, c, rfl, rfl, hz, he, q⟩ := h
  obtain ⟨t, rfl⟩ := rx
  obtain ⟨t', rfl⟩ := ry
  obtain ⟨j, h1, h2, h3, h4, h5⟩ := atI_get he
  have hl : z.cps.toList.length = z.length := by simp [Str.length]
  rw [hl] at h1 h4 h5
  have hn := line63
  exact tail_any (typeIs_str s z t) slot_str_getitem.lookup (getItem_str (c := c) (by
    have e1 : decide (i < -(2 ^ 63 : Int)) = false := decide_eq_false (by omega)
    have e2 : decide (i ≥ 2 ^ 63) = false := decide_eq_false (by omega)
    rw [e1, e2, Bool.or_false]) (by rw [h1]; simpa using h2) ⟨.str ⟨#[c]⟩, H, I.tok _, ⟨_, rfl⟩, q⟩) hs
/-- list, tuple or str -/
def rIx (K : PySem.W.Frag) : R2 := fun x y H Q => rIxL K x y H Q ∨ rIxT K x y H Q ∨ rIxS x y H Q
theorem ix_seq : IxR X (rIx X.K) := ix_list.or (ix_tup.or ix_str)

/-! ### xs[i] = v, any sign -/
/-- the list's object behind a store -/
theorem mapSeq_set (its : List Value) (n j : Nat) (u : Value) : Obj.mapSeq (·.setIfInBounds j u) { cls := .type "list", data := .seq its.toArray n } = { cls := .type "list", data := .seq (its.set j u).toArray n } := by
  simp [Obj.mapSeq]
theorem Inv.lst {pins : List (Addr × Obj)} {σ : St} {H : Hp} {s : Shared} {p : Addr} {xs : List V} (I : Inv X pins σ H s) (h : H p = some (.lst xs)) :
    ∃ (its : List Value) (n : Nat), Vals xs its ∧ s.heap.get? p = some { cls := .type "list", data := .seq its.toArray n } ∧ xs.length ≤ sizeLine := by
  obtain ⟨z, its, n, r, e⟩ := I.hok p _ h
  exact ⟨its, n, r, e, z⟩
/-- the list at p is written by an update of its object -/
theorem Inv.lstUpd {pins : List (Addr × Obj)} {σ : St} {H : Hp} {s : Shared} {p : Addr} {xs ys : List V} {its its' : List Value} {n n' : Nat} {f : Obj → Obj} (I : Inv X pins σ H s) (h : H p = some (.lst xs))
    (ho : s.heap.get? p = some { cls := .type "list", data := .seq its.toArray n }) (hf : f { cls := .type "list", data := .seq its.toArray n } = { cls := .type "list", data := .seq its'.toArray n' }) (r : Vals ys its') (hz : ys.length ≤ sizeLine) (t : Nat) :
    Inv X pins σ (upd H p (.lst ys)) { s with heap := s.heap.update p f, toks := t } := by
  have e : (s.heap.update p f).get? p = some { cls := .type "list", data := .seq its'.toArray n' } := by
    rw [Heap.get?_update_self f ho (by rw [hf] <;> rfl), hf]
  refine I.write (x := p) (e := p) (by rw [h]; trivial) (.inl rfl) (fun b u hb q => (Heap.get?_update_other _ _ (Ne.symm hb)).trans q) ⟨_, e⟩ ?_
  exact ⟨hz, its', n', r, e⟩
def rSetL : V → V → V → Hp → (Hp → Prop) → Prop := fun o i v H Q => ∃ p xs k j, o = .ref p ∧ i = .int k ∧ H p = some (.lst xs) ∧ ixN xs.length k = some j ∧ Q (upd H p (.lst (xs.set j v)))
theorem set_list : PSet X rSetL := by
  intro pins s σ H o i v ov iv u Q I ro ri rv h
  obtain ⟨p, xs, k, j, rfl, rfl, hp, hj, q⟩ := h
  cases ro
  obtain ⟨t, rfl⟩ := ri
  obtain ⟨its, n, r, ho, hz⟩ := I.lst hp
  obtain ⟨h1, h2, h3, h4⟩ := ixN_seq hj
  have hl := r.length
  have hn := line63
  have I' : Inv X pins σ (upd H p (.lst (xs.set j v))) { s with heap := s.heap.update p (Obj.mapSeq (·.setIfInBounds j u)) } :=
    I.lstUpd hp ho (mapSeq_set its n j u) (r.set rv j) (by rw [List.length_set]; exact hz) s.toks
  by_cases h0 : 0 ≤ k
  · have hk : k.toNat = j := by
      rw [seqIndex_of h0 h4] at h1
      exact Option.some.inj h1
    exact PySem.W.ki_setAt ho h0 (by omega) (by rw [List.size_toArray, ← hl]; exact h4) (by rw [hk]; exact ⟨_, I', q⟩)
  · have hk : (k + (its.toArray.size : Int)).toNat = j := by
      rw [seqIndex_neg (by omega) h3] at h1
      rw [List.size_toArray, ← hl]
      exact Option.some.inj h1
    exact PySem.W.ki_setBack ho (by omega) (by rw [List.size_toArray, ← hl]; exact h3) (by omega) (by rw [hk]; exact ⟨_, I', q⟩)

/-! ### slices -/
theorem slice_bounds (lo hi : Option Int) (n : Nat) : (sliceBounds lo hi none n).1 = ((HT.sIx n 0 lo : Nat) : Int) ∧ (sliceBounds lo hi none n).2.1 = ((HT.sIx n n hi : Nat) : Int) ∧ (sliceBounds lo hi none n).2.2 = 1 := by
  refine ⟨?_, ?_, rfl⟩
  · cases lo with
    | none => simp [sliceBounds, HT.sIx]
    | some i =>
      simp only [sliceBounds, HT.sIx, Option.getD_none, show (1 : Int) > 0 by decide, if_true]
      by_cases h : i < 0
      · simp only [h, if_true] <;> omega
      · simp only [h, if_false] <;> omega
  · cases hi with
    | none => simp [sliceBounds, HT.sIx]
    | some i =>
      simp only [sliceBounds, HT.sIx, Option.getD_none, show (1 : Int) > 0 by decide, if_true]
      by_cases h : i < 0
      · simp only [h, if_true] <;> omega
      · simp only [h, if_false] <;> omega
theorem slicePick_cut (its : List Value) (lo hi : Option Int) : slicePick its.toArray lo hi none = ((its.drop (HT.sIx its.length 0 lo)).take (HT.sIx its.length its.length hi - HT.sIx its.length 0 lo)).toArray := by
  obtain ⟨h1, h2, h3⟩ := slice_bounds lo hi its.toArray.size
  unfold slicePick
  rw [h1, h2, h3]
  simp only [sliceRange_one, pick_run, List.size_toArray] <;> rfl
/-- xs[lo:hi] of a list: a new list -/
def rSlL (K : PySem.W.Frag) : V → Option Int → Option Int → Hp → VK → Prop := fun x lo hi H Q => ∃ a xs, x = .ref a ∧ SqL K H a xs ∧ ∀ p, H p = none → Q (.ref p) (upd H p (.lst (cutV xs lo hi)))
theorem sl_list : SlR X (rSlL X.K) := by
  intro pins s σ H x v vl vu lo hi sl Q I rx hs pl pu h
  obtain ⟨a, xs, rfl, hx, q⟩ := h
  cases rx
  obtain ⟨its, r, ht, hz⟩ := I.list hx
  have hlen := r.length
  refine ⟨"list", _, slot_list_getitem.lookup, ht.isList.typeIs, ?_⟩
  refine wpAny_getItem_list_slice ht.isList hs pl pu .none (by simp) ?_ (by rw [List.size_toArray] <;> omega)
  rw [slicePick_cut, ← hlen]
  refine ⟨.ref s.heap.objs.size, _, I.laid (t' := s.toks) (o := .lst (cutV xs lo hi)) (fun b ob q => Heap.get?_push_of_some _ q) (Nat.le_refl _) ?_, rfl, q _ (I.hok.fresh (Nat.le_refl _))⟩
  exact ⟨Nat.le_trans (cutV_length xs lo hi) hz, _, 0, (r.drop (HT.sIx xs.length 0 lo)).take (HT.sIx xs.length xs.length hi - HT.sIx xs.length 0 lo), Heap.get?_push_size _ rfl⟩

/-! ### in, not in: flat items -/
def flatV : V → Bool
  | .non => true
  | .bl _ => true
  | .int _ => true
  | .str _ => true
  | _ => false
/-- == of flat values -/
def eqV : V → V → Bool
  | .non, .non => true
  | .bl a, .bl b => a == b
  | .bl a, .int b => (if a then 1 else 0) == b
  | .int a, .bl b => a == (if b then 1 else 0)
  | .int a, .int b => a == b
  | .str a, .str b => a == b
  | _, _ => false
theorem eqAt_V {A : Around} {s : Shared} {y x : V} {u v : Value} (ry : RelV y u) (rx : RelV x v) (fy : flatV y = true) (fx : flatV x = true) : SeqAt.EqAt A s u v (eqV y x) := by
  cases y with
  | non =>
    cases ry
    cases x with
    | non => cases rx; exact SeqAt.EqAt.same _
    | bl b => cases rx; exact SeqAt.EqAt.none_bool b
    | int b => obtain ⟨t, rfl⟩ := rx; exact SeqAt.EqAt.none_int b t
    | str b => obtain ⟨t, rfl⟩ := rx; exact SeqAt.EqAt.none_str b t
    | _ => exact absurd (show false = true from fx) Bool.false_ne_true
  | bl a =>
    cases ry
    cases x with
    | non => cases rx; exact SeqAt.EqAt.bool_none a
    | bl b => cases rx; exact SeqAt.EqAt.bool_bool a b
    | int b => obtain ⟨t, rfl⟩ := rx; exact SeqAt.EqAt.bool_int a b t
    | str b => obtain ⟨t, rfl⟩ := rx; exact SeqAt.EqAt.bool_str a b t
    | _ => exact absurd (show false = true from fx) Bool.false_ne_true
  | int a =>
    obtain ⟨t', rfl⟩ := ry
    cases x with
    | non => cases rx; exact SeqAt.EqAt.int_none a t'
    | bl b => cases rx; exact SeqAt.EqAt.int_bool a t' b
    | int b => obtain ⟨t, rfl⟩ := rx; exact SeqAt.EqAt.int_int a t' b t
    | str b => obtain ⟨t, rfl⟩ := rx; exact SeqAt.EqAt.int_str a t' b t
    | _ => exact absurd (show false = true from fx) Bool.false_ne_true
  | str a =>
    obtain ⟨t', rfl⟩ := ry
    cases x with
    | non => cases rx; exact SeqAt.EqAt.str_none a t'
    | bl b => cases rx; exact SeqAt.EqAt.str_bool a t' b
    | int b => obtain ⟨t, rfl⟩ := rx; exact SeqAt.EqAt.str_int a t' b t
    | str b => obtain ⟨t, rfl⟩ := rx; exact SeqAt.EqAt.str_str a t' b t
    | _ => exact absurd (show false = true from fx) Bool.false_ne_true
  | _ => exact absurd (show false = true from fy) Bool.false_ne_true
/-- the items' answers, read off the values (a value's own answer does not lean on its token) -/
def eqU (x : V) (u : Value) : Bool := match u with
  | .none => eqV .non x
  | .bool b => eqV (.bl b) x
  | .int i _ => eqV (.int i) x
  | .str z _ => eqV (.str z) x
  | _ => false
theorem eqU_of {x y : V} {u : Value} (r : RelV y u) (f : flatV y = true) : eqU x u = eqV y x := by
  cases y with
  | non => cases r; rfl
  | bl b => cases r; rfl
  | int i => obtain ⟨t, rfl⟩ := r; rfl
  | str z => obtain ⟨t, rfl⟩ := r; rfl
  | _ => exact absurd (show false = true from f) Bool.false_ne_true
theorem any_eqU {x : V} : ∀ {xs : List V} {us : List Value}, Vals xs us → xs.all flatV = true → us.any (eqU x) = xs.any fun y => eqV y x
  | _, _, .nil, _ => rfl
  | y :: xs, u :: us, .cons r t, f => by
    rw [List.all_cons, Bool.and_eq_true] at f
    rw [List.any_cons, List.any_cons, eqU_of r f.1, any_eqU t f.2]
theorem mem_eqAt {A : Around} {s : Shared} {x : V} {v : Value} (rx : RelV x v) (fx : flatV x = true) : ∀ {xs : List V} {us : List Value}, Vals xs us → xs.all flatV = true → ∀ u ∈ us, SeqAt.EqAt A s u v (eqU x u)
  | _, _, .nil, _ => fun u hu => by cases hu
  | y :: xs, u :: us, .cons r t, f => fun u' hu => by
    rw [List.all_cons, Bool.and_eq_true] at f
    rcases List.mem_cons.mp hu with rfl | hu
    · rw [eqU_of r f.1]; exact eqAt_V r rx f.1 fx
    · exact mem_eqAt rx fx t f.2 u' hu
def inV (x : V) (xs : List V) : Bool := xs.any fun y => eqV y x
/-- x in a list or tuple of flat items -/
def rIn (K : PySem.W.Frag) (neg : Bool) : R2 := fun x y H Q => ∃ p xs, y = .ref p ∧ (SqL K H p xs ∨ SqT K H p xs) ∧ flatV x = true ∧ xs.all flatV = true ∧ Q (.bl (if neg then !inV x xs else inV x xs)) H
theorem op_in_seq : OpR X (compareOp .In) (rIn X.K false) := by
  intro pins s σ H x y v u Q I rx ry h
  obtain ⟨p, xs, rfl, hq, fx, fs, q⟩ := h
  cases ry
  rcases hq with hq | hq
  · obtain ⟨its, r, pl, hz⟩ := I.list hq
    refine SeqAt.in_listAt (eqU x) pl.isList (fun w hw => mem_eqAt rx fx r fs w (by simpa using hw)) ⟨.bl _, H, I, rfl, ?_⟩
    rw [show its.toArray.any (eqU x) = its.any (eqU x) by simp, any_eqU r fs]
    exact q
  · obtain ⟨its, r, pl, hz⟩ := I.tuple hq
    refine SeqAt.in_tupleAt (eqU x) pl (fun w hw => mem_eqAt rx fx r fs w (by simpa using hw)) ⟨.bl _, H, I, rfl, ?_⟩
    rw [show its.toArray.any (eqU x) = its.any (eqU x) by simp, any_eqU r fs]
    exact q
theorem op_notIn_seq : OpR X (compareOp .NotIn) (rIn X.K true) := by
  intro pins s σ H x y v u Q I rx ry h
  obtain ⟨p, xs, rfl, hq, fx, fs, q⟩ := h
  cases ry
  rcases hq with hq | hq
  · obtain ⟨its, r, pl, hz⟩ := I.list hq
    refine SeqAt.notIn_listAt (eqU x) pl.isList (fun w hw => mem_eqAt rx fx r fs w (by simpa using hw)) ⟨.bl _, H, I, rfl, ?_⟩
    rw [show its.toArray.any (eqU x) = its.any (eqU x) by simp, any_eqU r fs]
    exact q
  · obtain ⟨its, r, pl, hz⟩ := I.tuple hq
    refine SeqAt.notIn_tupleAt (eqU x) pl (fun w hw => mem_eqAt rx fx r fs w (by simpa using hw)) ⟨.bl _, H, I, rfl, ?_⟩
    rw [show its.toArray.any (eqU x) = its.any (eqU x) by simp, any_eqU r fs]
    exact q
theorem op_notIn_str : OpR X (compareOp .NotIn) (fun x y H Q => ∃ i j, x = .str i ∧ y = .str j ∧ Q (.bl (!(!(Builtin.Str.occurrences j i 0 j.length 1).isEmpty))) H) := by
  intro pins s σ H x y v u Q I rx ry h
  obtain ⟨i, j, rfl, rfl, q⟩ := h
  obtain ⟨t, rfl⟩ := rx
  obtain ⟨t', rfl⟩ := ry
  exact notIn_str ⟨.bl _, H, I, rfl, q⟩

/-! ### len, list(x), tuple(x) of any list or tuple that is read -/
theorem call_len_seq : CallR X (.builtin "len") (fun xs H Q => ∃ p ys, xs = [.ref p] ∧ (SqL X.K H p ys ∨ SqT X.K H p ys) ∧ Q (.int ys.length) H) := by
  intro pins s σ H xs us Q I r h
  obtain ⟨p, ys, rfl, hq, q⟩ := h
  obtain ⟨u, rfl, rx⟩ := vals1 r
  cases rx
  have hn := line63
  rcases hq with hq | hq
  · obtain ⟨its, r', pl, hz⟩ := I.list hq
    have hlen := r'.length
    exact Calls.call_len_list pl.isList (by simp only [List.size_toArray] <;> omega) ⟨.int ys.length, H, I.tok _, ⟨s.toks + 1, by rw [List.size_toArray, hlen]⟩, q⟩
  · obtain ⟨its, r', pl, hz⟩ := I.tuple hq
    have hlen := r'.length
    exact len_tuple pl (by simp only [List.size_toArray] <;> omega) ⟨.int ys.length, H, I.tok _, ⟨s.toks + 1, by rw [List.size_toArray, hlen]⟩, q⟩
theorem call_len_str : CallR X (.builtin "len") (fun xs H Q => ∃ z, xs = [.str z] ∧ z.length ≤ sizeLine ∧ Q (.int z.length) H) := by
  intro pins s σ H xs us Q I r h
  obtain ⟨z, rfl, hz, q⟩ := h
  obtain ⟨u, rfl, t, rfl⟩ := vals1 r
  have hn := line63
  exact len_str (by omega) ⟨.int z.length, H, I.tok _, ⟨_, rfl⟩, q⟩
theorem CallR.or {f : Value} {r r' : List V → Hp → VK → Prop} (h : CallR X f r) (h' : CallR X f r') : CallR X f (fun xs H Q => r xs H Q ∨ r' xs H Q) := by
  intro pins s σ H xs us Q I rs q
  rcases q with q | q
  · exact h pins s σ H xs us Q I rs q
  · exact h' pins s σ H xs us Q I rs q
theorem call_list_of : CallR X (.type "list") (fun xs H Q => ∃ p ys, xs = [.ref p] ∧ (SqL X.K H p ys ∨ SqT X.K H p ys) ∧ ∀ l, H l = none → Q (.ref l) (upd H l (.lst ys))) := by
  intro pins s σ H xs us Q I r h
  obtain ⟨p, ys, rfl, hq, q⟩ := h
  obtain ⟨u, rfl, rx⟩ := vals1 r
  cases rx
  have fin : ∀ (its : List Value), Vals ys its → ys.length ≤ sizeLine → ∀ (h' : Heap) (c' : Nat), (∀ b o', s.heap.get? b = some o' → h'.get? b = some o') →
      h'.get? s.heap.objs.size = some { cls := .type "list", dict := none, data := .seq its.toArray c', slots := #[] } → EP X pins σ Q (.ref s.heap.objs.size) { s with heap := h' } := fun its r' hz h' c' kp e =>
    ⟨.ref s.heap.objs.size, _, I.laid (t' := s.toks) kp (Nat.le_refl _) (show ObjOk X.prog X.w _ h' _ (.lst ys) from ⟨hz, its, c', r', e⟩), rfl, q _ (I.hok.fresh (Nat.le_refl _))⟩
  rcases hq with hq | hq
  · obtain ⟨its, r', pl, hz⟩ := I.list hq
    have hlen := r'.length
    obtain ⟨o, ho, hc, n, hd⟩ := pl.isList
    exact call_list_seq p (.inl rfl) ho hc hd (fun h' c' kp e => fin its r' hz h' c' kp e) (by simp only [List.size_toArray] <;> omega)
  · obtain ⟨its, r', pl, hz⟩ := I.tuple hq
    have hlen := r'.length
    obtain ⟨o, ho, hc, n, hd⟩ := pl
    exact call_list_seq p (.inr rfl) ho hc hd (fun h' c' kp e => fin its r' hz h' c' kp e) (by simp only [List.size_toArray] <;> omega)
theorem call_tuple_of : CallR X (.type "tuple") (fun xs H Q => ∃ p ys, xs = [.ref p] ∧ ((SqL X.K H p ys ∧ ∀ l, H l = none → Q (.ref l) (upd H l (.tup ys))) ∨ (SqT X.K H p ys ∧ Q (.ref p) H))) := by
  intro pins s σ H xs us Q I r h
  obtain ⟨p, ys, rfl, h⟩ := h
  obtain ⟨u, rfl, rx⟩ := vals1 r
  cases rx
  rcases h with ⟨hq, q⟩ | ⟨hq, q⟩
  · obtain ⟨its, r', pl, hz⟩ := I.list hq
    have hlen := r'.length
    refine call_tuple_list pl.isList (fun h' kp => ?_) (by simp only [List.size_toArray] <;> omega)
    have I1 : Inv X pins σ H { s with heap := h' } := I.kept (t' := s.toks) kp
    have I2 : Inv X pins σ (upd H h'.objs.size (.tup ys)) { s with heap := h'.push { cls := .type "tuple", data := .seq its.toArray } } :=
      I1.laid (t' := s.toks) (fun b o e => Heap.get?_push_of_some _ e) (Nat.le_refl _) (show ObjOk X.prog X.w _ _ _ (.tup ys) from ⟨hz, its, r', IsTup.new _ _⟩)
    exact ⟨.ref h'.objs.size, _, I2, rfl, q _ (I1.hok.fresh (Nat.le_refl _))⟩
  · obtain ⟨its, r', pl, hz⟩ := I.tuple hq
    exact call_tuple_same pl ⟨.ref p, H, I, rfl, q⟩

/-! ### the call of a builtin's method: o.m(..) -/
/-- the value is of that builtin type -/
def tyV (K : PySem.W.Frag) (T : String) (x : V) (H : Hp) : Prop := match x with
  | .str _ => T = "str"
  | .int _ => T = "int"
  | .ref p => (T = "list" ∧ ∃ xs, SqL K H p xs) ∨ (T = "tuple" ∧ ∃ o, K.lookup p = some o ∧ o.cls = .type "tuple" ∧ o.dict = none) ∨
      (T = "dict" ∧ ((∃ kvs, H p = some (.dK kvs)) ∨ ∃ kvs, H p = some (.dT kvs))) ∨ (T = "set" ∧ ∃ S n, H p = some (.set S n))
  | _ => False
theorem tyV_is {pins : List (Addr × Obj)} {σ : St} {H : Hp} {s : Shared} {T : String} {x : V} {v : Value} (I : Inv X pins σ H s) (r : RelV x v) (ty : tyV X.K T x H) :
    s.TypeIs v T ∧ ∀ a, v = .ref a → ∃ ob, s.heap.get? a = some ob ∧ ob.dict = none := by
  cases x with
  | str z =>
    obtain ⟨t, rfl⟩ := r
    cases (show T = "str" from ty)
    exact ⟨typeIs_str s z t, fun _ e => nomatch e⟩
  | int i =>
    obtain ⟨t, rfl⟩ := r
    cases (show T = "int" from ty)
    exact ⟨typeIs_int s i t, fun _ e => nomatch e⟩
  | ref p =>
    cases r
    rcases ty with ⟨rfl, xs, hq⟩ | ⟨rfl, o, hk, hc, hd⟩ | ⟨rfl, hk⟩ | ⟨rfl, S, n, hk⟩
    · obtain ⟨its, _, pl, _⟩ := I.list hq
      refine ⟨pl.isList.typeIs, fun a e => ?_⟩
      cases e
      obtain ⟨o, n, e, c, hd, _⟩ := pl
      exact ⟨o, e, hd⟩
    · refine ⟨⟨o, I.kIn p o hk, hc⟩, fun a e => ?_⟩
      cases e
      exact ⟨o, I.kIn _ o hk, hd⟩
    · have z : ∃ o, s.heap.get? p = some o ∧ o.ExactDict := by
        rcases hk with ⟨kvs, hk⟩ | ⟨kvs, hk⟩
        · obtain ⟨_, _, _, _, o, _, _, e, ex, _⟩ := I.hok p _ hk
          exact ⟨o, e, ex⟩
        · obtain ⟨_, _, _, _, o, _, _, e, ex, _⟩ := I.hok p _ hk
          exact ⟨o, e, ex⟩
      obtain ⟨o, e, ex⟩ := z
      refine ⟨⟨o, e, ex.1⟩, fun a e2 => ?_⟩
      cases e2
      exact ⟨o, e, ex.2.1⟩
    · obtain ⟨o, _, _, _, e, ex, _⟩ := I.hok p _ hk
      refine ⟨⟨o, e, ex.1⟩, fun a e2 => ?_⟩
      cases e2
      exact ⟨o, e, ex.2.1⟩
  | _ => exact False.elim ty
def tBM0 (K : PySem.W.Frag) (T : String) (r : V → List V → Hp → VK → Prop) (to : TE) : TE := fun σ H Q => to σ H fun x H1 => tyV K T x H1 ∧ r x [] H1 Q
def tBM (K : PySem.W.Frag) (T : String) (r : V → List V → Hp → VK → Prop) (to : TE) (t : TA) : TE := fun σ H Q => to σ H fun x H1 => tyV K T x H1 ∧ t σ H1 fun xs H2 => r x xs H2 Q
variable {o e : Expr} {es : List Expr} {to : TE} {t : TA} {name : Str} {apos cpos : Pos} {T id : String} {r : V → List V → Hp → VK → Prop}
theorem pe_bm0 (pa : PlainAttrs T) (slot : Slot T name id) (hty : typeOf (.builtin id) = pure (.type "method_descriptor")) (hm : MtR X id r) (ho : PE X o to)
    (hbase : attributeBase o name X.env (eval o X.env) = eval o X.env := by rfl) (hline : (apos.endLine == cpos.line) = true := by rfl) : PE X (.Call (.Attribute o name apos) [] [] cpos) (tBM0 X.K T r to) := by
  intro pins s σ H Q I h
  refine wpAny_Call_method0_late hbase hline (thn (ho pins s σ H _ I h) fun v s1 ⟨x, H1, I1, r1, ty, q1⟩ => ?_)
  obtain ⟨h1, h2⟩ := tyV_is I1 r1 ty
  exact ⟨T, id, pa, slot, hty, h1, h2, Calls.callWith_builtin rfl (PySem.evalArgs_none (hm pins s1 σ H1 x [] v [] Q I1 r1 .nil q1))⟩
theorem pe_bm (pa : PlainAttrs T) (slot : Slot T name id) (hty : typeOf (.builtin id) = pure (.type "method_descriptor")) (hm : MtR X id r) (ho : PE X o to) (ha : PA X (e :: es) t)
    (hbase : attributeBase o name X.env (eval o X.env) = eval o X.env := by rfl)
    (hfew : ((backTo cpos (starEach (e :: es) X.env)).all (fun x => !x.1) && (backToKw cpos (keywordEach [] X.env)).all (fun x => x.1.isSome)
      && decide ((e :: es).length + ([] : List Keyword).length + (if ([] : List Keyword).isEmpty then 0 else 1) < 30)) = true := by rfl)
    (hline : (apos.endLine == cpos.line) = true := by rfl) (hs : starEach (e :: es) X.env = (false, eval e X.env) :: starEach es X.env := by rfl) (hplain : (backTo cpos (starEach es X.env)).any (·.1) = false := by rfl) :
    PE X (.Call (.Attribute o name apos) (e :: es) [] cpos) (tBM X.K T r to t) := by
  intro pins s σ H Q I h
  refine wpAny_Call_method_late hbase hfew hline rfl (thn (ho pins s σ H _ I h) fun v s1 ⟨x, H1, I1, r1, ty, q1⟩ => ?_)
  obtain ⟨h1, h2⟩ := tyV_is I1 r1 ty
  refine ⟨T, id, pa, slot, hty, h1, h2, ?_⟩
  have hA := ha cpos pins s1 σ H1 _ I1 q1
  rw [hs] at hA ⊢
  refine Calls.callWith_builtin (by show (false || (backTo cpos (starEach es X.env)).any (·.1)) = false; rw [hplain] <;> rfl) (Calls.evalArgs_plain ?_)
  exact thn hA fun us s2 ⟨vs, H2, I2, r2, q2⟩ => hm pins s2 σ H2 x vs v us Q I2 r1 r2 q2
/- xs.append(e), list.index on a module's tuple .. are MtR facts of 06m -/
end
end L2

namespace L2
open PySem PySem.Spec PyProof.Rows

def MtM (X : Cx) (id : String) (r : V → List V → Hp → VK → Prop) : Prop :=
  ∀ (pins : List (Addr × Obj)) (s : Shared) (σ : St) (H : Hp) (x : V) (xs : List V) (v : Value) (us : List Value) (Q : VK), Inv X pins σ H s → RelV x v → Vals xs us → r x xs H Q →
    wpAny (model X.prog X.w) X.A (call (.builtin id) (v :: us)) (EP X pins σ Q) X.xe s

/-! ### lists of values -/
theorem Vals.one : ∀ {x : V} {us : List Value}, Vals [x] us → ∃ u, us = [u] ∧ RelV x u
  | _, _, .cons r .nil => ⟨_, rfl, r⟩
theorem Vals.two : ∀ {x y : V} {us : List Value}, Vals [x, y] us → ∃ u v, us = [u, v] ∧ RelV x u ∧ RelV y v
  | _, _, _, .cons r (.cons q .nil) => ⟨_, _, rfl, r, q⟩
theorem Vals.zero : ∀ {us : List Value}, Vals [] us → us = []
  | _, .nil => rfl
theorem Vals.dropLast {xs : List V} {us : List Value} (h : Vals xs us) : Vals xs.dropLast us.dropLast := by
  induction h with
  | nil => exact .nil
  | cons r t ih =>
    cases t with
    | nil => exact .nil
    | cons q t' => exact .cons r ih
theorem Vals.eraseIdx : ∀ {xs : List V} {us : List Value} (i : Nat), Vals xs us → Vals (xs.eraseIdx i) (us.eraseIdx i)
  | _, _, _, .nil => .nil
  | _, _, 0, .cons _ t => t
  | _, _, i + 1, .cons r t => .cons r (Vals.eraseIdx i t)
theorem Vals.reverse {xs : List V} {us : List Value} (h : Vals xs us) : Vals xs.reverse us.reverse := by
  induction h with
  | nil => exact .nil
  | cons r t ih => rw [List.reverse_cons, List.reverse_cons]; exact Vals.append ih (.cons r .nil)
theorem Vals.rep {xs : List V} {us : List Value} (h : Vals xs us) : ∀ k : Nat, Vals (List.replicate k xs).flatten (List.replicate k us).flatten
  | 0 => .nil
  | k + 1 => by
    rw [List.replicate_succ, List.replicate_succ, List.flatten_cons, List.flatten_cons]
    exact Vals.append h (Vals.rep h k)
theorem erase_last {α : Type} (l : List α) : l.eraseIdx (l.length - 1) = l.dropLast := by
  induction l with
  | nil => rfl
  | cons a r ih =>
    cases r with
    | nil => rfl
    | cons b r =>
      have e : (a :: b :: r).length - 1 = ((b :: r).length - 1) + 1 := by
        have h1 : (a :: b :: r).length = r.length + 2 := rfl
        have h2 : (b :: r).length = r.length + 1 := rfl
        omega
      rw [e, List.eraseIdx_cons_succ, ih]
      all_goals rfl
theorem len_erase {α : Type} : ∀ (l : List α) (i : Nat), (l.eraseIdx i).length ≤ l.length
  | [], _ => Nat.le_refl _
  | _ :: _, 0 => Nat.le_succ _
  | _ :: r, i + 1 => Nat.succ_le_succ (len_erase r i)
theorem foldl_rep (its : List Value) : ∀ (k : Nat) (acc : List Value),
    List.foldl (fun x1 x2 => x1 ++ x2) acc.toArray (List.replicate k its.toArray) = (acc ++ (List.replicate k its).flatten).toArray
  | 0, acc => by simp
  | k + 1, acc => by
    have e : acc.toArray ++ its.toArray = (acc ++ its).toArray := by simp
    have e2 : (acc ++ its) ++ (List.replicate k its).flatten = acc ++ (List.replicate (k + 1) its).flatten := by
      rw [List.replicate_succ, List.flatten_cons, List.append_assoc]
    rw [← e2, ← foldl_rep its k (acc ++ its), ← e, List.replicate_succ, List.foldl_cons]

section
variable {X : Cx} {pins : List (Addr × Obj)} {σ : St} {H : Hp} {s : Shared} {l b : Addr} {xs ys zs : List V}

/-! ### the two steps: a tracked list is rewritten, a new list is laid -/
theorem Inv.lset {its its' : List Value} {n : Nat} {f : Array Value → Array Value} {t' : Nat} (I : Inv X pins σ H s) (hH : H l = some (.lst xs))
    (e : s.heap.get? l = some { cls := .type "list", data := .seq its.toArray n }) (hf : f its.toArray = its'.toArray) (hv : Vals ys its') (hz : ys.length ≤ sizeLine) :
    Inv X pins σ (upd H l (.lst ys)) { s with heap := s.heap.update l (Obj.mapSeq f), toks := t' } := by
  have q := PySem.IsL.update e f
  rw [hf] at q
  refine I.write (x := l) (e := l) (by rw [hH]; exact trivial) (.inl rfl) (fun b' u hb hu => (Heap.get?_update_other s.heap (Obj.mapSeq f) (Ne.symm hb)).trans hu) ⟨_, q⟩ ?_
  exact ⟨hz, its', _, hv, q⟩
theorem Inv.lnew {its : List Value} {t' : Nat} (I : Inv X pins σ H s) (hv : Vals ys its) (hz : ys.length ≤ sizeLine) :
    Inv X pins σ (upd H s.heap.objs.size (.lst ys)) { s with heap := s.heap.push { cls := .type "list", data := .seq its.toArray }, toks := t' } :=
  I.laid (fun _ _ q => Heap.get?_push_of_some _ q) (Nat.le_refl _) ⟨hz, its, 0, hv, Heap.get?_push_size _ rfl⟩
theorem Inv.fresh (I : Inv X pins σ H s) : H s.heap.objs.size = none := I.hok.fresh (Nat.le_refl _)
theorem Inv.lstM (I : Inv X pins σ H s) (hH : H l = some (.lst xs)) : xs.length ≤ sizeLine ∧ ∃ (its : List Value) (n : Nat), Vals xs its ∧ xs.length = its.length ∧ s.heap.get? l = some { cls := .type "list", data := .seq its.toArray n } := by
  obtain ⟨z, its, n, r, e⟩ := I.hok l _ hH
  exact ⟨z, its, n, r, r.length, e⟩

theorem notLongL {n : Nat} (h : n ≤ sizeLine) : Builtin.List.listTooLong n = false := by
  unfold Builtin.List.listTooLong
  exact decide_eq_false (by omega)
end

section
variable {X : Cx}

/-! ### methods -/
def rAppend : V → List V → Hp → VK → Prop := fun x vs H Q => ∃ l xs y, x = .ref l ∧ vs = [y] ∧ H l = some (.lst xs) ∧ xs.length < sizeLine ∧ Q .non (upd H l (.lst (xs ++ [y])))
theorem mt_append : MtM X "list.append" rAppend := by
  intro pins s σ H x vs v us Q I rx rv h
  obtain ⟨l, xs, y, rfl, rfl, hH, hz, q⟩ := h
  cases rx
  obtain ⟨u, rfl, ru⟩ := rv.one
  obtain ⟨z, its, n, r, hl, e⟩ := I.lstM hH
  refine call_meets F.slot_list_append ⟨_, e, rfl⟩ F.entry_list_append (F.args_list_append_2 _ _) (PySem.list_append l its.toArray n u (by rw [List.size_toArray]; omega)) ⟨e, ?_⟩
  refine ⟨.non, _, I.lset (its' := its ++ [u]) hH e (by simp) (r.append (.cons ru .nil)) ?_, rfl, q⟩
  rw [List.length_append, List.length_singleton]
  omega

def rExtend : V → List V → Hp → VK → Prop := fun x vs H Q => ∃ l b xs zs, x = .ref l ∧ vs = [.ref b] ∧ H l = some (.lst xs) ∧ H b = some (.lst zs) ∧ xs.length + zs.length ≤ sizeLine ∧ Q .non (upd H l (.lst (xs ++ zs)))
theorem mt_extend : MtM X "list.extend" rExtend := by
  intro pins s σ H x vs v us Q I rx rv h
  obtain ⟨l, b, xs, zs, rfl, rfl, hH, hB, hz, q⟩ := h
  cases rx
  obtain ⟨u, rfl, ru⟩ := rv.one
  cases ru
  obtain ⟨z, its, n, r, hl, e⟩ := I.lstM hH
  obtain ⟨z2, its2, n2, r2, hl2, e2⟩ := I.lstM hB
  have hsz : its.toArray.size + its2.toArray.size ≤ sizeLine := by rw [List.size_toArray, List.size_toArray]; omega
  have hlong : ¬ (!its.toArray.isEmpty && Builtin.List.listTooLong (its.toArray.size + its2.toArray.size)) = true := by
    rw [notLongL hsz, Bool.and_false]
    exact Bool.false_ne_true
  refine call_meets F.slot_list_extend ⟨_, e, rfl⟩ F.entry_list_extend (F.args_list_extend_2 _ _)
    (AutoSeq1.list_extend_list_list_0 l its.toArray n b its2.toArray n2 hlong (by rw [List.size_toArray]; omega) (by omega)) ⟨e, e2, ?_⟩
  refine ⟨.non, _, I.lset (its' := its ++ its2) hH e (by simp) (r.append r2) ?_, rfl, q⟩
  rw [List.length_append]
  omega

def rPop : V → List V → Hp → VK → Prop := fun x vs H Q => ∃ l xs y, x = .ref l ∧ vs = [] ∧ H l = some (.lst xs) ∧ xs[xs.length - 1]? = some y ∧ Q y (upd H l (.lst xs.dropLast))
theorem mt_pop : MtM X "list.pop" rPop := by
  intro pins s σ H x vs v us Q I rx rv h
  obtain ⟨l, xs, y, rfl, rfl, hH, hy, q⟩ := h
  cases rx
  have hus := rv.zero
  subst hus
  obtain ⟨z, its, n, r, hl, e⟩ := I.lstM hH
  obtain ⟨u, hu, ru⟩ := r.get hy
  have hy' : its.toArray[its.toArray.size - 1]? = some u := by
    show its.toArray[its.length - 1]? = some u
    rw [← Array.getElem?_toList, ← hl]
    exact hu
  refine call_meets F.slot_list_pop ⟨_, e, rfl⟩ F.entry_list_pop (F.args_list_pop_1 _) (MeetsSeq.list_pop_last l its.toArray n u hy' (by rw [List.size_toArray]; omega)) ⟨e, ?_⟩
  refine ⟨y, _, I.lset (its' := its.dropLast) hH e ?_ r.dropLast ?_, ru, q⟩
  · show its.toArray.eraseIdxIfInBounds (its.toArray.size - 1) = its.dropLast.toArray
    rw [List.size_toArray, List.eraseIdxIfInBounds_toArray, erase_last]
  · rw [List.length_dropLast]
    omega

def rPopAt : V → List V → Hp → VK → Prop := fun x vs H Q => ∃ l xs i k y, x = .ref l ∧ vs = [.int i] ∧ H l = some (.lst xs) ∧ -(2 ^ 63) ≤ i ∧ i < 2 ^ 63 ∧ seqIndex? i xs.length = some k ∧ xs[k]? = some y ∧ Q y (upd H l (.lst (xs.eraseIdx k)))
theorem mt_popAt : MtM X "list.pop" rPopAt := by
  intro pins s σ H x vs v us Q I rx rv h
  obtain ⟨l, xs, i, k, y, rfl, rfl, hH, h1, h2, hk, hy, q⟩ := h
  cases rx
  obtain ⟨u, rfl, ru⟩ := rv.one
  obtain ⟨t, rfl⟩ := ru
  obtain ⟨z, its, n, r, hl, e⟩ := I.lstM hH
  obtain ⟨w, hw, rw'⟩ := r.get hy
  refine call_meets F.slot_list_pop ⟨_, e, rfl⟩ F.entry_list_pop (F.args_list_pop_2 _ _)
    (MeetsSeq.list_pop_at l its.toArray n i t k w (fitsIndex_both h1 h2) (by rw [List.size_toArray, ← hl]; exact hk) (by rw [← Array.getElem?_toList]; exact hw) (by rw [List.size_toArray]; omega)) ⟨e, ?_⟩
  refine ⟨y, _, I.lset (its' := its.eraseIdx k) hH e ?_ (r.eraseIdx k) ?_, rw', q⟩
  · show its.toArray.eraseIdxIfInBounds k = (its.eraseIdx k).toArray
    rw [List.eraseIdxIfInBounds_toArray]
  · have := len_erase xs k
    omega

def rReverse : V → List V → Hp → VK → Prop := fun x vs H Q => ∃ l xs, x = .ref l ∧ vs = [] ∧ H l = some (.lst xs) ∧ Q .non (upd H l (.lst xs.reverse))
theorem mt_reverse : MtM X "list.reverse" rReverse := by
  intro pins s σ H x vs v us Q I rx rv h
  obtain ⟨l, xs, rfl, rfl, hH, q⟩ := h
  cases rx
  have hus := rv.zero
  subst hus
  obtain ⟨z, its, n, r, hl, e⟩ := I.lstM hH
  refine call_meets F.slot_list_reverse ⟨_, e, rfl⟩ F.entry_list_reverse (F.args_list_reverse_1 _) (AutoSeq1.list_reverse_list_0 l its.toArray n (by rw [List.size_toArray]; omega)) ⟨e, ?_⟩
  refine ⟨.non, _, I.lset (its' := its.reverse) hH e (by simp) r.reverse ?_, rfl, q⟩
  rw [List.length_reverse]
  omega

def rClear : V → List V → Hp → VK → Prop := fun x vs H Q => ∃ l xs, x = .ref l ∧ vs = [] ∧ H l = some (.lst xs) ∧ Q .non (upd H l (.lst []))
theorem mt_clear : MtM X "list.clear" rClear := by
  intro pins s σ H x vs v us Q I rx rv h
  obtain ⟨l, xs, rfl, rfl, hH, q⟩ := h
  cases rx
  have hus := rv.zero
  subst hus
  obtain ⟨z, its, n, r, hl, e⟩ := I.lstM hH
  refine call_meets F.slot_list_clear ⟨_, e, rfl⟩ F.entry_list_clear (F.args_list_clear_1 _) (AutoSeq1.list_clear_list_0 l its.toArray n (by rw [List.size_toArray]; omega)) ⟨e, ?_⟩
  exact ⟨.non, _, I.lset (its' := []) (ys := []) hH e rfl .nil (Nat.zero_le _), rfl, q⟩

/-! ### list + list, list += list, list * int -/
def rCat : R2 := fun x y H Q => ∃ l b xs zs, x = .ref l ∧ y = .ref b ∧ H l = some (.lst xs) ∧ H b = some (.lst zs) ∧ xs.length + zs.length ≤ sizeLine ∧ ∀ p, H p = none → Q (.ref p) (upd H p (.lst (xs ++ zs)))
theorem op_cat : OpR X (binaryOp .Add) rCat := by
  intro pins s σ H x y v u Q I rx ry h
  obtain ⟨l, b, xs, zs, rfl, rfl, hH, hB, hz, q⟩ := h
  cases rx
  cases ry
  obtain ⟨z, its, n, r, hl, e⟩ := I.lstM hH
  obtain ⟨z2, its2, n2, r2, hl2, e2⟩ := I.lstM hB
  refine PySem.P.add_list e e2 ?_ (by rw [List.size_toArray, List.size_toArray]; omega)
  have ea : its.toArray ++ its2.toArray = (its ++ its2).toArray := by simp
  rw [ea]
  exact ⟨.ref _, _, I.lnew (t' := s.toks) (r.append r2) (by rw [List.length_append]; omega), rfl, q _ I.fresh⟩
/-- a list times an int (a negative one is nothing) -/
def rRep : R2 := fun x y H Q => ∃ l k xs, x = .ref l ∧ y = .int k ∧ H l = some (.lst xs) ∧ -(2 ^ 63) ≤ k ∧ k < 2 ^ 63 ∧ xs.length * k.toNat ≤ sizeLine ∧
  ∀ p, H p = none → Q (.ref p) (upd H p (.lst (List.replicate k.toNat xs).flatten))
theorem len_rep {α : Type} (xs : List α) (k : Nat) : (List.replicate k xs).flatten.length = k * xs.length := by
  induction k with
  | zero => simp
  | succ k ih => rw [List.replicate_succ, List.flatten_cons, List.length_append, ih, Nat.succ_mul, Nat.add_comm]
theorem op_rep : OpR X (binaryOp .Mult) rRep := by
  intro pins s σ H x y v u Q I rx ry h
  obtain ⟨l, k, xs, rfl, rfl, hH, h1, h2, hz, q⟩ := h
  cases rx
  obtain ⟨t, rfl⟩ := ry
  obtain ⟨z, its, n, r, hl, e⟩ := I.lstM hH
  have hlen : its.toArray.size * k.toNat ≤ sizeLine := by rw [List.size_toArray, ← hl]; exact hz
  have hcap : ¬ its.toArray.size * k.toNat > (2 ^ 63 - 1) / 8 := by
    have : (sizeLine : Nat) ≤ (2 ^ 63 - 1) / 8 := by decide
    omega
  have hfit : ¬ (!Builtin.List.listFitsIndex k) = true := by
    rw [fitsIndex_both h1 h2]
    exact Bool.false_ne_true
  have hlong : ¬ Builtin.List.listTooLong (its.toArray.size * k.toNat) = true := by
    rw [notLongL hlen]
    exact Bool.false_ne_true
  have hnew : List.foldl (fun x1 x2 => x1 ++ x2) #[] (List.replicate (if its.toArray.isEmpty = true then 0 else k.toNat) its.toArray) = (List.replicate k.toNat its).flatten.toArray := by
    have f0 : ∀ m : Nat, List.foldl (fun x1 x2 => x1 ++ x2) #[] (List.replicate m its.toArray) = (List.replicate m its).flatten.toArray := fun m => by
      have := foldl_rep its m []
      rw [List.nil_append] at this
      exact this
    rw [f0]
    cases its with
    | nil => simp
    | cons a r' => rw [if_neg (by simp)]
  refine wpAny_binaryOp_repeat_ref (T := "list") (U := "int") (by decide) ⟨_, e, rfl⟩ (fun s' => typeIs_int s' k t) noFill_list_mul F.fills_int_mul F.slot_int_rmul repeat_list F.slot_int_index.lookup
    (call_meets F.slot_int_rmul (typeIs_int s k t) F.entry_int_rmul (F.args_int_rmul_2 _ _) (int___rmul___int_list k t l its.toArray n)
      ⟨e, rfl, ⟨_, e, rfl⟩, call_meets F.slot_list_mul ⟨_, e, rfl⟩ F.entry_list_mul (F.args_list_mul_2 _ _) (AutoListH.list___mul___list_int_3 l its.toArray n k t hfit hcap hlong) ⟨e, ?_⟩⟩)
  rw [hnew]
  exact ⟨.ref _, _, I.lnew (t' := s.toks) (r.rep k.toNat) (by rw [len_rep, Nat.mul_comm]; exact hz), rfl, q _ I.fresh⟩

/-! ### del xs[i] -/
theorem del_list {pins : List (Addr × Obj)} {s : Shared} {σ : St} {H : Hp} {l : Addr} {xs : List V} {i : Int} {t : Tok} {k : Nat} {Q : Unit → Shared → Prop} (I : Inv X pins σ H s) (hH : H l = some (.lst xs))
    (h1 : -(2 ^ 63) ≤ i) (h2 : i < 2 ^ 63) (hk : seqIndex? i xs.length = some k) (h : ∀ s', Inv X pins σ (upd H l (.lst (xs.eraseIdx k))) s' → Q () s') :
    wpAny (model X.prog X.w) X.A (delItem (.ref l) (.int i t)) Q X.xe s := by
  obtain ⟨z, its, n, r, hl, e⟩ := I.lstM hH
  refine PySem.P.delItem_list (k := k) e (fitsIndex_both h1 h2) (by rw [List.size_toArray, ← hl]; exact hk) (h _ ?_) (by rw [List.size_toArray]; omega)
  refine I.lset (its' := its.eraseIdx k) (t' := s.toks) hH e ?_ (r.eraseIdx k) ?_
  · show its.toArray.eraseIdxIfInBounds k = (its.eraseIdx k).toArray
    rw [List.eraseIdxIfInBounds_toArray]
  · have := len_erase xs k
    omega
end

/-! ### xs[a:b] = ys -/
section
variable {prog : Program} {w : World} {A : Around} {E : Value → Shared → Prop} {s : Shared}
theorem splice_eq (its its2 : List Value) (a c : Nat) : its.toArray.extract 0 a ++ its2.toArray ++ its.toArray.extract c its.toArray.size = (its.take a ++ its2 ++ its.drop c).toArray := by
  apply Array.toList_inj.mp
  first
    | (simp
       exact List.take_of_length_le (by simp))
    | simp [List.take_of_length_le]
    | simp
theorem bounds_run {a c n : Nat} (hac : a ≤ c) (hc : c ≤ n) : sliceBounds (some (a : Int)) (some (c : Int)) none n = ((a : Int), (c : Int), 1) := by
  simp only [sliceBounds, Option.getD_none]
  have h1 : ¬ ((a : Int) < 0) := by omega
  have h2 : ¬ ((c : Int) < 0) := by omega
  simp only [h1, h2, if_false, show (1 : Int) > 0 by decide, if_true]
  congr 1
  · omega
  · congr 1; omega
set_option maxRecDepth 100000 in
/-- list.__setitem__ with a slice of step one and another list -/
theorem setItem_slice {l b sl : Addr} {items new : Array Value} {n n2 : Nat} {vl vu : Value} {a c : Nat} {Q : Unit → Shared → Prop}
    (e : s.heap.get? l = some { cls := .type "list", data := .seq items n }) (e2 : s.heap.get? b = some { cls := .type "list", data := .seq new n2 }) (hne : l ≠ b)
    (hs : s.heap.IsSliceOf sl vl vu .none) (pl : IsPart vl (some (a : Int))) (pu : IsPart vu (some (c : Int))) (hac : a ≤ c) (hc : c ≤ items.size)
    (hsz : items.size + new.size ≤ sizeLine) (h : Q () { s with heap := s.heap.update l (Obj.mapSeq fun xs => xs.extract 0 a ++ new ++ xs.extract c xs.size) }) :
    wpAny (model prog w) A (setItem (.ref l) (.ref sl) (.ref b)) Q E s := by
  have hl : s.heap.IsList l items := PySem.IsL.isList e
  have hb : s.heap.IsList b new := PySem.IsL.isList e2
  obtain ⟨os, hos, hcs, hds⟩ := id hs
  have hTs : s.TypeIs (.ref sl) "slice" := ⟨os, hos, hcs⟩
  have hstep : ¬ ((rawPart none == rawInt 0) = true) := Bool.false_ne_true
  have hsame : Builtin.List.listSameRef (.ref l) (.ref b) = false := by
    unfold Builtin.List.listSameRef
    exact beq_eq_false_iff_ne.mpr hne
  have hmax : (max (a : Int) (c : Int)).toNat = c := by omega
  have hz' : ((fun xs : Array Value => xs.extract 0 a ++ new ++ xs.extract c xs.size) items).size ≤ sizeLine + 1 := by
    simp only [Array.size_append, Array.size_extract]
    omega
  unfold setItem
  try with_reducible refine wpAny_holding ?_
  first | refine wpAny_bind (wpAny_pure ?_) | skip
  refine wpAny_bind (wpAny_sequenceKey hl.typeIs (by decide) ?_)
  refine wpAny_bind (wpAny_callSpecial?_slot (name := Str.ofString "__setitem__") hl.typeIs slot_list_setitem
    (wpAny_call_entry slot_list_setitem hl.typeIs entry_list_setitem ?_ (args_list_setitem _ _ _)))
  show wpAny _ _ (Builtin.List.listSubscript? (.ref sl) >>= _) _ _ s
  refine wpAny_bind ?_
  unfold Builtin.List.listSubscript?
  refine wpAny_bind (wpAny_specialOf hTs slice_no_index ?_)
  simp only [Option.isNone_none, if_true]
  refine wpAny_pure ?_
  show wpAny _ _ (typeOf (.ref sl) >>= _) _ _ s
  refine wpAny_bind (wpAny_typeOf hTs ?_)
  first
    | rw [if_neg (by decide)]
    | refine PySem.W.KFB.if_not (by decide) ?_
  rw [listSliceParts_eq]
  refine wpAny_bind (wpAny_bind (wpAny_field hos hds (x := .none) rfl (wpAny_bind (wpAny_listPart .none ?_))))
  rw [if_neg hstep]
  refine wpAny_bind (wpAny_field hos hds (x := vl) rfl (wpAny_bind (wpAny_listPart pl ?_)))
  refine wpAny_bind (wpAny_field hos hds (x := vu) rfl (wpAny_bind (wpAny_listPart pu (wpAny_pure ?_))))
  first
    | simp only [hsame, Bool.false_eq_true, if_false]
    | refine PySem.W.KFB.if_not hsame ?_
    | (dsimp only
       rw [if_neg (by rw [hsame]; exact Bool.false_ne_true)])
  refine wpAny_bind (m := Builtin.List.listAllItems (.ref b) "must assign iterable to extended slice") ?_
  unfold Builtin.List.listAllItems
  refine wpAny_bind (wpAny_typeOf hb.typeIs ?_)
  first
    | refine PySem.W.KFB.if_so (by decide) ?_
    | rw [if_pos (by decide)]
    | simp only [beq_self_eq_true, Bool.true_or, if_true]
  unfold Builtin.List.listItems
  refine wpAny_bind (wpAny_seqItems e2 rfl (wpAny_pure ?_))
  refine wpAny_bind (wpAny_bind (wpAny_seqItems e rfl (wpAny_pure ?_)))
  refine wpAny_bind (wpAny_of_eq ((sliceIndices_raw (some (a : Int)) (some (c : Int)) none items.size (by simp)).trans (congrArg (pure : Int × Int × Int → Sem (Int × Int × Int)) (bounds_run hac hc))) ?_)
  show wpAny _ _ (if ((1 : Int) == 1) = true then _ else _) _ _ s
  rw [if_pos (by decide)]
  refine wpAny_bind (wpAny_rule ?_)
  first
    | simp only [notLongL hsz, Bool.false_eq_true, if_false]
    | refine PySem.W.KFB.if_not (notLongL hsz) ?_
  first | refine wpAny_bind (wpAny_pure ?_) | skip
  show wpAny _ _ (updateSeq l (fun xs => xs.extract 0 ((a : Int)).toNat ++ new ++ xs.extract (max (a : Int) (c : Int)).toNat xs.size) >>= _) _ _ s
  rw [hmax, Int.toNat_natCast]
  refine wpAny_bind (wpAny_updateSeq (hz := Nat.le_trans (Nat.le_add_right _ _) hsz) (_hz' := hz') e rfl ?_)
  refine wpAny_bind (wpAny_letGo ?_)
  first
    | exact wpAny_bind (wpAny_pure (wpAny_pure ⟨.none, rfl, wpAny_pure h⟩))
    | exact wpAny_pure ⟨.none, rfl, wpAny_pure h⟩
end

section
variable {X : Cx}
/-- xs[a:c] = ys of another list, at the value level: sl is the slice object that was just made -/
theorem set_slice {pins : List (Addr × Obj)} {s : Shared} {σ : St} {H : Hp} {l b sl : Addr} {xs ys : List V} {a c : Int} {vl vu : Value} {Q : Unit → Shared → Prop} (I : Inv X pins σ H s)
    (hH : H l = some (.lst xs)) (hB : H b = some (.lst ys)) (hne : l ≠ b) (hs : s.heap.IsSliceOf sl vl vu .none) (ra : RelV (.int a) vl) (rc : RelV (.int c) vu) (h0 : 0 ≤ a) (hac : a ≤ c) (hc : c ≤ xs.length)
    (hz : xs.length + ys.length ≤ sizeLine) (h : ∀ s', Inv X pins σ (upd H l (.lst (xs.take a.toNat ++ ys ++ xs.drop c.toNat))) s' → Q () s') :
    wpAny (model X.prog X.w) X.A (setItem (.ref l) (.ref sl) (.ref b)) Q X.xe s := by
  obtain ⟨ta, rfl⟩ := ra
  obtain ⟨tc, rfl⟩ := rc
  obtain ⟨z, its, n, r, hl, e⟩ := I.lstM hH
  obtain ⟨z2, its2, n2, r2, hl2, e2⟩ := I.lstM hB
  obtain ⟨a', rfl⟩ := Int.eq_ofNat_of_zero_le h0
  obtain ⟨c', rfl⟩ := Int.eq_ofNat_of_zero_le (Int.le_trans h0 hac)
  simp only [Int.toNat_natCast] at h
  refine setItem_slice (a := a') (c := c') e e2 hne hs (.int _ _) (.int _ _) (by omega) (by rw [List.size_toArray]; omega) (by rw [List.size_toArray, List.size_toArray]; omega) (h _ ?_)
  refine I.lset (its' := its.take a' ++ its2 ++ its.drop c') (t' := s.toks) hH e ?_ (Vals.append (Vals.append (r.take _) r2) (r.drop _)) ?_
  · exact splice_eq its its2 a' c'
  · rw [List.length_append, List.length_append, List.length_take, List.length_drop]
    omega
end
end L2

namespace Att
open PySem PySem.W PySem.Calls PyProof.Rows

/-! ### the script -/
theorem ints_of_wellAll {P : Params} {h : Heap} : ∀ (ns : List Int) (vs : List Value), WellAll P h vs (ns.map WData.int) → IntsAre vs ns := by
  intro ns
  induction ns with
  | nil =>
    intro vs w
    rw [List.map_nil] at w
    cases w
    exact .nil
  | cons n ns ih =>
    intro vs w
    rw [List.map_cons] at w
    cases w with
    | cons a b =>
      cases a
      exact .cons _ _ (ih _ b)

theorem script_of {l : OpenLaw} {n : Nat} (hn : l.most = some n) {P : Params} {h : Heap} {args : List WData} {vals : List Value}
    (hpre : l.row.toRowW.claim.pre args = true) (hwl : WellAll P h vals args) :
    ∃ a vs ns, vals = [Value.ref a] ∧ args = [WData.list (ns.map WData.int)] ∧ h.get? a = some { cls := .type "list", data := .seq vs.toArray } ∧ IntsAre vs ns ∧ ns.length ≤ n := by
  have hsh : WShape.hasAll [] args [.list .int] = true := (pre_splitW hpre).1
  have hc : l.pre.holds [] { args := args } = true := (pre_splitW hpre).2
  obtain ⟨d, r, rfl, h1, h2⟩ := hasAllW_cons hsh
  obtain rfl := hasAllW_nil h2
  obtain ⟨xs, rfl, h3⟩ := hasW_list h1
  obtain ⟨ns, rfl⟩ := items_int h3
  have hlen : ns.length ≤ n := by
    unfold OpenLaw.pre at hc
    have h4 : (WTm.not (.lt (.lit (.int (n : Int))) (.len (.arg 0)))).holds [] { args := [.list (ns.map .int)] } = true := by
      have h4 := (holds_andW hc).1
      rw [hn] at h4
      exact h4
    have h5 := condW_of h4 (w_not (w_lt w_lit (w_len_list (w_arg rfl))))
    rw [List.length_map] at h5
    refine Nat.le_of_not_lt fun q => ?_
    have q' : (n : Int) < ((ns.length : Nat) : Int) := by omega
    first
      | (rw [decide_eq_true q'] at h5; exact absurd h5 (by decide))
      | (simp at h5; omega)
  cases hwl with
  | cons w1 w2 =>
    cases w2
    cases w1 with
    | list ho hall => exact ⟨_, _, ns, rfl, rfl, ho, ints_of_wellAll ns _ hall, hlen⟩

theorem post_true (l : OpenLaw) (args : List WData) : l.row.toRowW.claim.post args (.bool true) args = true :=
  postW_of (r := l.row.toRowW) (X := (true == true))
    (show WShape.has [] (.bool true) .bool = true by first | rfl | decide | simp [WShape.has, WShape.arms, WShape.armsAll])
    (show (WTm.eq .res (.lit (.bool true))).value [] { args := args, res := some (.bool true), after := args } = some (.bool (true == true)) from w_eq_bool (w_res rfl) w_lit) rfl

/-! ### the attachment: holds_open's last premise (the goal 'hc' behind k_head) from a wpAny of the law's body -/
theorem attach {l : OpenLaw} {n : Nat} {q : Program} {loose : List Str} {XP : (Str → Option Value) → Heap → Prop} {YP : World → Heap → Prop} {d : DefRec} {x : Str}
    (hn : l.most = some n) (hdf : d.params.defaults = [])
    (hbind : ∀ pm cd doc v : Value, bindArgs (docDef d.name d.params d.body d.scope pm cd doc) ⟨[v], []⟩ = pure [(x, v)])
    (hx : d.scope.names.lookup x = some .local ∨ d.scope.names.lookup x = some .cell)
    (hk : d.scope.kind = .function) (hco : d.scope.isCoroutine = false) (hgen : d.scope.isGenerator = false)
    (body : ∀ (w : World) (s₀ s₁ s : Shared) (mg mb : Str → Option Value) (fa : Addr) (o : Obj) (pm cd doc : Value) (a : Addr) (vs : List Value) (ns : List Int),
      Ground q loose [] XP w s₀ mg mb s₁.heap → YP w s₁.heap →
      s₁.heap.get? fa = some o → o.data = .func (docDef d.name d.params d.body d.scope pm cd doc) → s₁.heap.CodeRec cd d.name → mg d.name = some (.ref fa) →
      s₁.heap.get? a = some { cls := .type "list", data := .seq vs.toArray } → IntsAre vs ns → ns.length ≤ n →
      s.gens = #[] → s.os = s₁.os →
      Fr s₁.heap s₁.heap.objs.size s.heap (bindL (envOfC d.name d.scope s₁.heap.objs.size fa cd).kindOf [(x, .ref a)] fun _ => none) →
      Cl s₁.heap.objs.size (cellsFrom (s₁.heap.objs.size + 1) d.scope.names []) s.heap (bindC (envOfC d.name d.scope s₁.heap.objs.size fa cd).kindOf [(x, .ref a)] fun _ => none) →
      wpAny (model l.prog w) (callerA.deeper (envOfC d.name d.scope s₁.heap.objs.size fa cd)) (execs d.body (envOfC d.name d.scope s₁.heap.objs.size fa cd))
        (fun f s' => f = .ret (.bool true) ∧ OldK s₁.heap s'.heap ∧ s'.os = s₁.os ∧ AllBare s'.gens) (fun _ _ => False) s) :
    WalkO q loose XP YP l.row.toRowW d [] (fun f vs => PySem.call f vs) := by
  intro w s₀ s₁ mg mb G Y fa o pm cd doc dV kV ho hd hcd hD hmg hg args vals as hpre hlay hrd hwl hlo
  obtain rfl : dV = .none := Dflts.none hD hdf
  obtain rfl : kV = .none := Dflts.noKw hD
  obtain ⟨a, vs, ns, rfl, rfl, hobj, hints, hlen⟩ := script_of hn hpre hwl
  refine enter_call ?_
  refine call_cells_ret (o := o) (by rw [depth_caller]; decide) ho (fd_plain hd) G.T.nolimit hcd (hbind pm cd doc (.ref a)) (fun y hy => ?_) (fun h₁ tk F X => ?_) hco hgen hk
  · obtain rfl : y = (x, Value.ref a) := List.mem_singleton.mp hy
    rcases hx with e | e
    · exact .inl e
    · exact .inr ⟨e, cellsFrom_some _ _ _ (.inl e)⟩
  · refine wpAny_mono (body w s₀ s₁ { s₁ with heap := h₁, toks := tk } mg mb fa o pm cd doc a vs ns G Y ho (fd_plain hd) hcd hmg hobj hints hlen hg rfl F X) (fun f s' hq => ?_) (fun _ _ hq => hq)
    obtain ⟨rfl, h2, h3, h4⟩ := hq
    exact ⟨.inl ⟨.bool true, .bool true, [], rfl, fun _ => rfl, .bool true, post_true l _, fun _ => ⟨List.Pairwise.nil, fun _ hm => (nomatch hm)⟩⟩, h2, h3, h4⟩

/-- the same from a codeAny of the CALL (for a layer whose function contracts speak of calls) -/
theorem attach_call {l : OpenLaw} {n : Nat} {q : Program} {loose : List Str} {XP : (Str → Option Value) → Heap → Prop} {YP : World → Heap → Prop} {d : DefRec}
    (hn : l.most = some n) (hdf : d.params.defaults = [])
    (call : ∀ (w : World) (s₀ s₁ : Shared) (mg mb : Str → Option Value) (fa : Addr) (o : Obj) (pm cd doc : Value) (a : Addr) (vs : List Value) (ns : List Int),
      Ground q loose [] XP w s₀ mg mb s₁.heap → YP w s₁.heap →
      s₁.heap.get? fa = some o → o.data = .func (docDef d.name d.params d.body d.scope pm cd doc) → s₁.heap.CodeRec cd d.name → mg d.name = some (.ref fa) →
      s₁.heap.get? a = some { cls := .type "list", data := .seq vs.toArray } → IntsAre vs ns → ns.length ≤ n → s₁.gens = #[] →
      codeAny (model l.prog w) callerA (.call (.ref fa) ⟨[.ref a], []⟩) (fun r s' => r = .ok (.ret (.bool true)) ∧ OldK s₁.heap s'.heap ∧ s'.os = s₁.os ∧ AllBare s'.gens) s₁) :
    WalkO q loose XP YP l.row.toRowW d [] (fun f vs => PySem.call f vs) := by
  intro w s₀ s₁ mg mb G Y fa o pm cd doc dV kV ho hd hcd hD hmg hg args vals as hpre hlay hrd hwl hlo
  obtain rfl : dV = .none := Dflts.none hD hdf
  obtain rfl : kV = .none := Dflts.noKw hD
  obtain ⟨a, vs, ns, rfl, rfl, hobj, hints, hlen⟩ := script_of hn hpre hwl
  refine enter_call (codeAny_mono (call w s₀ s₁ mg mb fa o pm cd doc a vs ns G Y ho (fd_plain hd) hcd hmg hobj hints hlen hg) fun r s' hq => ?_)
  obtain ⟨rfl, h2, h3, h4⟩ := hq
  exact ⟨.inl ⟨.bool true, .bool true, [], rfl, fun _ => rfl, .bool true, post_true l _, fun _ => ⟨List.Pairwise.nil, fun _ hm => (nomatch hm)⟩⟩, h2, h3, h4⟩

/-- the same where the top left finished generators (o_head chose holds_openN): nothing may have changed at all and no generator may be left -/
theorem attachN {l : OpenLaw} {n : Nat} {q : Program} {loose : List Str} {XP : (Str → Option Value) → Heap → Prop} {YP : World → Heap → Prop} {d : DefRec} {x : Str}
    (hn : l.most = some n) (hdf : d.params.defaults = [])
    (hbind : ∀ pm cd doc v : Value, bindArgs (docDef d.name d.params d.body d.scope pm cd doc) ⟨[v], []⟩ = pure [(x, v)])
    (hx : d.scope.names.lookup x = some .local ∨ d.scope.names.lookup x = some .cell)
    (hk : d.scope.kind = .function) (hco : d.scope.isCoroutine = false) (hgen : d.scope.isGenerator = false)
    (body : ∀ (w : World) (s₀ s₁ s : Shared) (mg mb : Str → Option Value) (fa : Addr) (o : Obj) (pm cd doc : Value) (a : Addr) (vs : List Value) (ns : List Int),
      Ground q loose [] XP w s₀ mg mb s₁.heap → YP w s₁.heap →
      s₁.heap.get? fa = some o → o.data = .func (docDef d.name d.params d.body d.scope pm cd doc) → s₁.heap.CodeRec cd d.name → mg d.name = some (.ref fa) →
      s₁.heap.get? a = some { cls := .type "list", data := .seq vs.toArray } → IntsAre vs ns → ns.length ≤ n →
      s.gens = #[] → s.os = s₁.os →
      Fr s₁.heap s₁.heap.objs.size s.heap (bindL (envOfC d.name d.scope s₁.heap.objs.size fa cd).kindOf [(x, .ref a)] fun _ => none) →
      Cl s₁.heap.objs.size (cellsFrom (s₁.heap.objs.size + 1) d.scope.names []) s.heap (bindC (envOfC d.name d.scope s₁.heap.objs.size fa cd).kindOf [(x, .ref a)] fun _ => none) →
      wpAny (model l.prog w) (callerA.deeper (envOfC d.name d.scope s₁.heap.objs.size fa cd)) (execs d.body (envOfC d.name d.scope s₁.heap.objs.size fa cd))
        (fun f s' => f = .ret (.bool true) ∧ (∀ b o, s₁.heap.get? b = some o → s'.heap.get? b = some o) ∧ s'.os = s₁.os ∧ s'.gens = #[]) (fun _ _ => False) s) :
    WalkN q loose XP YP l.row.toRowW d [] (fun f vs => PySem.call f vs) := by
  intro w s₀ s₁ mg mb G Y fa o pm cd doc dV kV ho hd hcd hD hmg hg args vals as hpre hlay hrd hwl hlo
  obtain rfl : dV = .none := Dflts.none hD hdf
  obtain rfl : kV = .none := Dflts.noKw hD
  obtain ⟨a, vs, ns, rfl, rfl, hobj, hints, hlen⟩ := script_of hn hpre hwl
  refine enter_callW ?_
  refine call_cells_ret (o := o) (by rw [depth_caller]; decide) ho (fd_plain hd) G.T.nolimit hcd (hbind pm cd doc (.ref a)) (fun y hy => ?_) (fun h₁ tk F X => ?_) hco hgen hk
  · obtain rfl : y = (x, Value.ref a) := List.mem_singleton.mp hy
    rcases hx with e | e
    · exact .inl e
    · exact .inr ⟨e, cellsFrom_some _ _ _ (.inl e)⟩
  · refine wpAny_mono (body w s₀ s₁ { s₁ with heap := h₁, toks := tk } mg mb fa o pm cd doc a vs ns G Y ho (fd_plain hd) hcd hmg hobj hints hlen hg rfl F X) (fun f s' hq => ?_) (fun _ _ hq => hq)
    obtain ⟨rfl, h2, h3, h4⟩ := hq
    exact ⟨.inl ⟨.bool true, .bool true, [], rfl, fun _ => rfl, .bool true, post_true l _, fun _ => ⟨List.Pairwise.nil, fun _ hm => (nomatch hm)⟩⟩, h2, h3, h4⟩

/-! ### rules over ANY heap (no ledger) from facts about the written part K: the library's own take a ledger (News) for what they write -/
section
variable {prog : Program} {w : World} {A : Around} {E : Value → Shared → Prop} {s : Shared} {K : Frag}

/-- a def of the module, or a method (qual 'C.m'), entered: the frame is the next address; cells behind it -/
theorem call_fn {R : Result → Shared → Prop} {name qual : Str} {params : Arguments} {body : List Stmt} {scope : Scope} {dV kV doc pm cdv ct oc : Value} {an od : Option Addr} {osl : Array (Option Value)} {f : Addr} {args : Args} {binds : List (Str × Value)}
    (X : K.In s.heap) (hlim : s.heap.NoLimit) (ho : K.lookup f = some ⟨oc, od, .func (fnOf name qual params body scope dV kV doc pm an cdv ct), osl⟩) (hcd : codeIn K cdv qual = true) (hroom : A.depth < recursionLimit)
    (hbind : BindsTo s (fnOf name qual params body scope dV kV doc pm an cdv ct) args binds)
    (hkind : (binds.all fun y => scope.names.lookup y.1 == some .local || scope.names.lookup y.1 == some .cell) = true)
    (h : ∀ s₁, InCallC s s.heap.objs.size (bindL (envOfC qual scope s.heap.objs.size f cdv).kindOf binds fun _ => none) (cellsFrom (s.heap.objs.size + 1) scope.names [])
        (bindC (envOfC qual scope s.heap.objs.size f cdv).kindOf binds fun _ => none) s₁ →
      wpAny (model prog w) (A.deeper (envOfC qual scope s.heap.objs.size f cdv)) (execs body (envOfC qual scope s.heap.objs.size f cdv))
        (fun fl s' => R (.ok (.ret (match fl with | .ret v => v | _ => .none))) s')
        (fun e s' => wpAny (model prog w) (A.deeper (envOfC qual scope s.heap.objs.size f cdv)) (leaving (envOfC qual scope s.heap.objs.size f cdv) e) (fun _ s'' => R (.error e) s'') (fun e' s'' => R (.error e') s'') s') s₁)
    (hco : scope.isCoroutine = false) (hgen : scope.isGenerator = false) (hk : scope.kind = .function) : codeAny (model prog w) A (.call (.ref f) args) R s := by
  refine codeAny_call_function hroom (X _ _ ho) rfl hco hgen rfl (codeRec_of X hcd) (hbind _ _ _ _ ?_)
  refine wpAny_newFunctionEnv_cells hk (kindsX hkind _) fun env he s₁ x => ?_
  subst he
  exact ⟨hlim.keeps x.toInCall.keep, codeAny_func (h s₁ x)⟩

/-- C(..): dict at size, instance at size + 1, then __init__ -/
theorem make_obj {R : Result → Shared → Prop} {C fI : Addr} {rest : List Value} {kw : List (Str × Value)}
    (X : K.In s.heap) (hm : makesIn K C = true) (hi : findIn K (.ref C) "__init__" = some (some (.ref fI))) (hf : isFn K (.ref fI) = true)
    (h : codeAny (model prog w) (A.under (.builtin "type.__call__" ⟨.ref C :: rest, kw⟩)) (.call (.ref fI) ⟨.ref (s.heap.objs.size + 1) :: rest, kw⟩) (InitBack (s.heap.objs.size + 1) R)
      { s with heap := (s.heap.push emptyDict).push (instObj C s.heap.objs.size) }) : codeAny (model prog w) A (.call (.ref C) ⟨rest, kw⟩) R s := by
  obtain ⟨hh, g, d, t, os⟩ := s
  exact make_core (makes_of X hm) (looks_findIn X hi) (fun self => bind_fn X self (beq_iff_eq.mp hf)) (.inl rfl) h

/-- x.name where the instance's dict holds the name and the class does not -/
theorem get_field {x C : Addr} {ox : Obj} {es : List DictEntry} {n : Nat} {name : Str} {expr : Bool} {v : Value} {Q : Value → Shared → Prop}
    (X : K.In s.heap) (I : PySem.W.InstAt s.heap x ox C (some (dictOf es n))) (hg : plainGet K C name = true) (hh : hasDictIn K C = true) (ha : findIn K (.ref C) name = some none)
    (hl : getL name es = some (some v)) (hv : handedIn v = true) (h : Q v { s with toks := s.toks + 1 }) : wpAny (model prog w) A (getAttr (.ref x) name expr) Q E s :=
  get_value X I (plainGet_of hg).1 (findObj_own hh ha rfl hl) hv h

/-- x.m(..): the method found in the class -/
theorem get_method {x C f : Addr} {ox : Obj} {es : List DictEntry} {n : Nat} {name : Str} {pl : Sem Bool} {Q : Value × List Value → Shared → Prop}
    (X : K.In s.heap) (I : PySem.W.InstAt s.heap x ox C (some (dictOf es n))) (hg : plainGet K C name = true) (hf : findIn K (.ref C) name = some (some (.ref f))) (ht : isFn K (.ref f) = true)
    (hl : getL name es = some none) (h : Q (.ref f, [.ref x]) s) : wpAny (model prog w) A (getMethod (.ref x) name pl) Q E s :=
  method_fn X I (plainGet_of hg).1 (plainGet_of hg).2 hf (beq_iff_eq.mp ht) (by show (lookIn name (dictOf es n)).map _ = _; rw [lookIn_dict, hl]; rfl) h

/-! the whole heap as the ledger: makes every rule that writes through a ledger a rule over any heap -/
def noObjs (h : Heap) : Heap := { h with objs := #[] }
theorem noObjs_get (h : Heap) (b : Addr) : (noObjs h).get? b = none := by
  cases e : (noObjs h).get? b with
  | none => rfl
  | some o => exact absurd (Heap.lt_size e) (Nat.not_lt_zero _)
def ledger (h : Heap) (L d : Addr) : List (Addr × Obj) := (List.range h.objs.size).filterMap fun a => if a = L ∨ a = d then none else (h.get? a).map fun o => (a, o)
theorem mem_ledger {h : Heap} {L d a : Addr} {o : Obj} : (a, o) ∈ ledger h L d ↔ a ≠ L ∧ a ≠ d ∧ h.get? a = some o := by
  unfold ledger
  rw [List.mem_filterMap]
  constructor
  · rintro ⟨b, _, e⟩
    split at e
    · cases e
    · rename_i hb
      obtain ⟨o', ho, e'⟩ := Option.map_eq_some_iff.mp e
      cases e'
      exact ⟨fun q => hb (.inl q), fun q => hb (.inr q), ho⟩
  · rintro ⟨n1, n2, ho⟩
    refine ⟨a, List.mem_range.mpr (Heap.lt_size ho), ?_⟩
    rw [if_neg (show ¬ (a = L ∨ a = d) from fun q => q.elim n1 n2), ho] <;> rfl
theorem news_ledger {h : Heap} {L d : Addr} {od : Obj} (hne : d ≠ L) (ho : h.get? d = some od) : News (noObjs h) L h ([] ++ (d, od) :: ledger h L d) := by
  rintro ⟨a, o⟩ hp
  rcases List.mem_cons.mp hp with e | hp
  · cases e
    exact ⟨ho, hne, noObjs_get _ _⟩
  · obtain ⟨n1, n2, e⟩ := mem_ledger.mp hp
    exact ⟨e, n1, noObjs_get _ _⟩
theorem fr_all {h : Heap} {L : Addr} {m : Str → Option Value} (n : h.Ns L m) : Fr (noObjs h) L h m :=
  ⟨n, fun b o e => (by rw [noObjs_get] at e; cases e), Nat.zero_le _⟩
/-- Upd of the head entry (for append_K, setItem_K ..) -/
theorem upd_ledger {h : Heap} {L d : Addr} {o o' : Obj} : Upd d o o' ((d, o) :: ledger h L d) ((d, o') :: ledger h L d) :=
  .head fun ⟨_, _⟩ hp => (mem_ledger.mp hp).2.1

/-- x.name = v over any heap: L is any namespace of the heap (the frame's, say): its map stays, its object is not told; all else but the dict stays -/
theorem set_field {x C dx L : Addr} {ox : Obj} {m : Str → Option Value} {es es' : List DictEntry} {n n' : Nat} {name : Str} {v : Value} {Q : Unit → Shared → Prop}
    (X : K.In s.heap) (I : PySem.W.InstAt s.heap x ox C (some (dictOf es n))) (hd : ox.dict = some dx) (hL : s.heap.Ns L m) (hne : dx ≠ L)
    (hs : findIn K (.ref C) "__setattr__" = some (some (.builtin "object.__setattr__"))) (hp : plainOver K C = true) (ht : takerIn K C name = some none) (hh : hasDictIn K C = true) (hl : (getL name es).isSome = true)
    (e : (putL name (PyData.keyHash w.params name) (.str name (s.toks + 1)) v es, putN name es n) = (es', n')) (hz : es'.length ≤ 1000)
    (h : ∀ h' : Heap, h'.Ns L m → h'.get? dx = some (dictOf es' n') → (∀ b o, b ≠ dx → b ≠ L → s.heap.get? b = some o → h'.get? b = some o) → Q () { s with heap := h', toks := s.toks + 2 }) :
    wpAny (model prog w) A (setAttr (.ref x) name v) Q E s := by
  obtain ⟨e1, e2⟩ := Prod.mk.inj e
  have hdx : s.heap.get? dx = some (dictOf es n) := by
    have := I.dict
    rw [hd] at this
    exact this
  refine set_plain X I hs (osa_dict (s := { s with toks := s.toks + 1 }) (h₀ := noObjs s.heap) (L := L) (m := m) (od := dictOf es n) (od' := dictOf es' n') (es := es') (n := n') (pre := []) (post := ledger s.heap L dx)
    (fr_all hL) (news_ledger hne hdx) X I hd hp ht hh hl (fun _ q => nomatch q) (fun ⟨_, _⟩ q => (mem_ledger.mp q).2.1) (by rw [putName_dict, e1, e2]) rfl hz fun h' F' N' => ?_)
  exact h h' F'.ns (N'.get (List.Mem.head _)) fun b o n1 n2 ho => N'.get (List.Mem.tail _ (mem_ledger.mpr ⟨n2, n1, ho⟩))
end
end Att

namespace L2
open PySem PySem.Spec PyProof.Rows

theorem vals_ints : ∀ {vs : List Value} {ns : List Int}, IntsAre vs ns → Vals (ns.map V.int) vs
  | _, _, .nil => .nil
  | _, _, .cons n t h => .cons ⟨t, rfl⟩ (vals_ints h)

/-- nothing is tracked but the script, known to the object (or it is an object of the module) -/
def Only (H : Hp) : Prop := ∀ b, H b = none ∨ ∃ o xs, H b = some (.frz o (.lst xs))

/-- THE HEAD: the law's promise, at the heap behind the top. F, the promise of the law's def, may use that base is part of the heap (so K.In base, base.Ns mainGlobals mg stand in Mod) -/
theorem law_call {P : Program} {w : World} {K : PySem.W.Frag} {mg mb : Str → Option Value} {CX : CXT} {k : Nat} {fa a : Addr} {fd : FuncData} {x : Str} {sp : Sp} {s₁ : Shared} {vs : List Value} {ns : List Int}
    (KX : K.In s₁.heap) (hns : s₁.heap.Ns mainGlobals mg) (hb : s₁.heap.Ns builtinsNs mb) (hbb : ∀ x : Str, x ≠ "__name__" → mb x = bootBuiltins x) (hlim : s₁.heap.NoLimit) (hg : s₁.gens = #[])
    (ha : s₁.heap.get? a = some { cls := .type "list", data := .seq vs.toArray }) (hi : IntsAre vs ns) (hl : ns.length ≤ sizeLine) (hr : Room k callerA)
    (F : ∀ base : Heap, K.In base → base.Ns mainGlobals mg → FnOk P w K mg base CX k fa fd [x] sp) (hbind : ∀ (s : Shared) (u : Value), BindsTo s fd ⟨[u], []⟩ [(x, u)])
    (hsp : ∀ H : Hp, Only H → SqL K H a (ns.map V.int) → sp [.ref a] H (fun v _ => v = .bl true) fun _ _ _ => False)
    (hCX : ∀ H e s', CX [] H s₁ (fun _ _ _ => False) e s' → False) :
    codeAny (model P w) callerA (.call (.ref fa) ⟨[.ref a], []⟩) (fun r s' => r = .ok (.ret (.bool true)) ∧ OldK s₁.heap s'.heap ∧ s'.os = s₁.os ∧ AllBare s'.gens) s₁ := by
  have rv := vals_ints hi
  have lenV := hi.length
  -- from an abstract heap in which nothing but the script may be tracked
  have core : ∀ H : Hp, Only H → SqL K H a (ns.map V.int) → HOk P w H s₁.heap → (∀ b, H b ≠ none → b = a) → (H a ≠ none → K.lookup a = none) →
      codeAny (model P w) callerA (.call (.ref fa) ⟨[.ref a], []⟩) (fun r s' => r = .ok (.ret (.bool true)) ∧ OldK s₁.heap s'.heap ∧ s'.os = s₁.os ∧ AllBare s'.gens) s₁ := by
    intro H hO hS hok hA hK
    have base_of : ∀ {b : Addr} {o : Obj}, s₁.heap.get? b = some o → H b = none → (hidT s₁.heap H).get? b = some o := fun e n => hidT_get e n
    have noA : ∀ {b : Addr} {o : Obj} {es : Array DictEntry} {ep : Nat}, s₁.heap.get? b = some o → o.data = .dict es ep → H b = none := fun {b o es ep} e d => by
      cases q : H b with
      | none => rfl
      | some u =>
        have e' : b = a := hA b (by rw [q]; simp)
        subst e'
        rw [ha] at e; cases e
        have d' : Data.seq vs.toArray _ = Data.dict es ep := d
        cases d'
    have nsK : ∀ {b : Addr} {m : Str → Option Value}, s₁.heap.Ns b m → (hidT s₁.heap H).Ns b m := fun {b m} ⟨o, es, ep, e, d, r⟩ => ⟨o, es, ep, base_of e (noA e d), d, r⟩
    have hKb : K.In (hidT s₁.heap H) := fun b o e => base_of (KX b o e) (by
      cases q : H b with
      | none => rfl
      | some u =>
        have e' : b = a := hA b (by rw [q]; simp)
        subst e'
        rw [hK (by rw [q]; simp)] at e; cases e)
    have hM : Mod K mg (hidT s₁.heap H) := ⟨hKb, nsK hns, ⟨mb, nsK hb, hbb⟩, let ⟨mc, h1, h2⟩ := hlim; ⟨mc, nsK h1, h2⟩⟩
    have e0 : Env0 P w K mg (hidT s₁.heap H) callerA [] s₁ H := ⟨rfl, hM, fun b o e => of_hidT e, Nat.le_of_eq (hidT_size _ _), trivial, fun b hb => absurd (show b ∈ ([] : List Addr) from hb) (by simp), hok, .of_eq hg⟩
    refine codeAny_mono ((F _ hKb (nsK hns)).run callerA [] s₁ H ⟨[.ref a], []⟩ [.ref a] [.ref a] _ _ hr e0 (hbind s₁ (.ref a)) (.cons rfl .nil) (hsp H hO hS)) fun r s' h => ?_
    cases r with
    | error e => exact (hCX H e s' h).elim
    | ok fl =>
      cases fl with
      | next => exact False.elim h
      | brk => exact False.elim h
      | cont => exact False.elim h
      | ret u =>
        obtain ⟨v, H', os, bare, un, hok', r', q⟩ := h
        have q' : v = .bl true := q
        subst q'
        obtain rfl : u = Value.bool true := r'
        refine ⟨rfl, OldK.of_keep fun b o e => ?_, os, bare⟩
        cases q : H b with
        | none => exact un.keep b o e q (by intro z; exact absurd (show b ∈ ([] : List Addr) from z) (by simp)) (by simp)
        | some u =>
          rcases hO b with z | ⟨ob, xs, z⟩
          · rw [q] at z; cases z
          · have z2 := un.frzs b ob _ z
            obtain ⟨e1, _⟩ := hok b _ z
            obtain ⟨e2, _⟩ := hok' b _ z2
            rw [e] at e1; cases e1
            exact e2
  cases hk : K.lookup a with
  | some o =>
    -- the script is one of the module's own objects
    have e := KX a o hk
    rw [ha] at e
    cases e
    refine core (fun _ => none) (fun _ => .inl rfl) (.inr ⟨_, vs.toArray, _, hk, rfl, rfl, rfl, by rw [List.size_toArray, lenV]; exact hl, by simpa using rv⟩) (fun b u z => by have z' : (none : Option HO) = some u := z; cases z') (fun b z => absurd rfl z) fun z => absurd rfl z
  | none =>
    refine core (fun b => if b = a then some (.frz { cls := .type "list", data := .seq vs.toArray } (.lst (ns.map V.int))) else none) (fun b => ?_) (.inl (.inr ⟨{ cls := .type "list", data := .seq vs.toArray }, if_pos rfl⟩)) (fun b u z => ?_) (fun b z => ?_) fun _ => hk
    · by_cases hb : b = a
      · exact .inr ⟨_, _, if_pos hb⟩
      · exact .inl (if_neg hb)
    · by_cases hb : b = a
      · have z' := (if_pos hb).symm.trans z
        cases z'
        subst hb
        exact ⟨ha, by rw [List.length_map]; exact hl, vs, _, rv, ha⟩
      · have z' := (if_neg hb).symm.trans z
        cases z'
    · by_cases hb : b = a
      · exact hb
      · exact absurd (if_neg hb) z
end L2

namespace L2
open PySem PySem.Spec PyProof.Rows

abbrev KOf {K : PySem.W.Frag} {h : Heap} (_ : K.In h) : PySem.W.Frag := K

/-- the goal that k_head leaves (case hc), from the law's promise. F gives the function object fd (K's own) once, then the promise over every base -/
theorem walk_of {l : PySem.W.OpenLaw} {n k : Nat} {q : Program} {loose : List Str} {XP : (Str → Option Value) → Heap → Prop} {YP : World → Heap → Prop} {d : DefRec} {K : Params → PySem.W.Frag} {CX : World → CXT} {sp : World → Sp} {x : Str}
    (hn : l.most = some n) (hn2 : n ≤ sizeLine) (hdf : d.params.defaults = []) (hr : Room k callerA)
    (hY : ∀ (w : World) (h : Heap), YP w h → (K w.params).In h)
    (F : ∀ (w : World) (mg : Str → Option Value) (fa : Addr) (h : Heap), (K w.params).In h → h.Ns mainGlobals mg → mg d.name = some (.ref fa) →
      ∃ fd : FuncData, (∀ (s : Shared) (u : Value), BindsTo s fd ⟨[u], []⟩ [(x, u)]) ∧
        ∀ base : Heap, (K w.params).In base → base.Ns mainGlobals mg → FnOk l.prog w (K w.params) mg base (CX w) k fa fd [x] (sp w))
    (hsp : ∀ (w : World) (H : Hp) (a : Addr) (ns : List Int), ns.length ≤ n → Only H → SqL (K w.params) H a (ns.map V.int) → sp w [.ref a] H (fun v _ => v = .bl true) fun _ _ _ => False)
    (hCX : ∀ (w : World) (H : Hp) (s : Shared) (e : Value) (s' : Shared), CX w [] H s (fun _ _ _ => False) e s' → False) :
    PySem.W.WalkO q loose XP YP l.row.toRowW d [] (fun f vs => PySem.call f vs) := by
  refine Att.attach_call hn hdf fun w s₀ s₁ mg mb fa o pm cd doc a vs ns G Y ho hd hcd hmg hobj hints hlen hg => ?_
  have KX := hY w _ Y
  obtain ⟨fd, hb, hF⟩ := F w mg fa _ KX G.T.g hmg
  exact law_call KX G.T.g G.T.b G.T.builtins G.T.nolimit hg hobj hints (Nat.le_trans hlen hn2) hr hF hb (fun H hO hS => hsp w H a ns hlen hO hS) fun H e s' => hCX w H s₁ e s'
/-- the same where the promise hangs on the written part alone: (sp := My.sp_law), no hole under a binder -/
theorem walk_ofK {l : PySem.W.OpenLaw} {n k : Nat} {q : Program} {loose : List Str} {XP : (Str → Option Value) → Heap → Prop} {YP : World → Heap → Prop} {d : DefRec} {K : Params → PySem.W.Frag} {CX : CXT} {sp : PySem.W.Frag → Sp} {x : Str}
    (hn : l.most = some n) (hn2 : n ≤ sizeLine) (hdf : d.params.defaults = []) (hr : Room k callerA)
    (hY : ∀ (w : World) (h : Heap), YP w h → (K w.params).In h)
    (F : ∀ (w : World) (mg : Str → Option Value) (fa : Addr) (h : Heap), (K w.params).In h → h.Ns mainGlobals mg → mg d.name = some (.ref fa) →
      ∃ fd : FuncData, (∀ (s : Shared) (u : Value), BindsTo s fd ⟨[u], []⟩ [(x, u)]) ∧
        ∀ base : Heap, (K w.params).In base → base.Ns mainGlobals mg → FnOk l.prog w (K w.params) mg base CX k fa fd [x] (sp (K w.params)))
    (hsp : ∀ (K : PySem.W.Frag) (H : Hp) (a : Addr) (ns : List Int), ns.length ≤ n → Only H → SqL K H a (ns.map V.int) → sp K [.ref a] H (fun v _ => v = .bl true) fun _ _ _ => False)
    (hCX : ∀ (H : Hp) (s : Shared) (e : Value) (s' : Shared), CX [] H s (fun _ _ _ => False) e s' → False) :
    PySem.W.WalkO q loose XP YP l.row.toRowW d [] (fun f vs => PySem.call f vs) :=
  walk_of (K := K) (CX := fun _ => CX) (sp := fun w => sp (K w.params)) hn hn2 hdf hr hY F (fun w H a ns h1 h2 h3 => hsp (K w.params) H a ns h1 h2 h3) fun _ H s e s' => hCX H s e s'
end L2

/- THE LAST THEOREM (shape; LID, My.* are yours):
   My.Adr: a structure of the addresses that your layer names (classes, functions); My.Txt K t: a structure (Prop) of the equations over K;
   My.txt_mk : {K} {implicit addresses ..} (e1 : nsIn K mainGlobals "law" = some (some (.ref f))) (e2 : K.lookup f = some ⟨oc, od, .func (fnOf "law" "law" params body scope dV kV doc pm an cdv ct), sl⟩) (e3 : codeIn K cdv "law" = true) .. : ∃ t, My.Txt K t

set_option maxRecDepth 100000 in
set_option maxHeartbeats 0 in
theorem PySem.Challenge.cw_LID_holds : PySem.Challenge.rw_LID.Holds := by
  w_on; o_law; k_head; (case hw => w_witness2)
  k_fill
  refine L2.walk_of (l := PySem.Challenge.rw_LID) (n := 63) (k := 40) (x := "script") (CX := fun w => ..) (sp := fun _ => My.sp_law) rfl (by decide) rfl ⟨rfl, by decide, by decide⟩ (fun w h Y => PySem.W.kIn_of Y) ?F ?S ?C
  case F =>
    intro w mg fa h KX G hmg
    have T : ∃ t, My.Txt (L2.KOf KX) t := by
      dsimp only [L2.KOf]                          -- K must stand as «<heap const> w.params» for k_is
      refine' My.txt_mk ?e1 ?e2 ?e3 ..
      (case e1 => PySem.W.k_is)                    -- in the order: a name -> its address -> its object -> its parts
      (case e2 => PySem.W.k_is)
      ..
    obtain ⟨t, T⟩ := T
    have e0 := hmg.symm.trans (PySem.W.mg_of KX G T.law)
    cases e0                                       -- fa is the law's own address
    exact ⟨_, fun s u => .of_eq rfl, fun base kb nb => My.law_fn T kb nb⟩     -- if «.of_eq rfl» comes too early: refine' ⟨_, ?b, fun base kb nb => My.law_fn T kb nb⟩; exact fun s u => .of_eq rfl
  case S => exact fun w H a ns hl hO hS => ..
  case C => exact ..
(the tactic k_is has no namespace: write k_is) -/

/-! SHORT WORDS over the layer: a def of the text, its body, what a loop and a test want. -/
namespace L2
open PySem PySem.Spec PyProof.Rows

/-! ### the text by places -/
/-- the j-th statement of a class's body -/
def inClass (s : Stmt) (j : Nat) : Stmt := match s with
  | .ClassDef _ _ _ body _ _ _ _ _ _ _ => body.getD j (.Pass ⟨0, 0, 0, 0⟩)
  | _ => .Pass ⟨0, 0, 0, 0⟩
def defArgs (s : Stmt) : Arguments := match s with
  | .FunctionDef _ a _ _ _ _ _ _ _ _ => a
  | _ => { posonlyargs := [], args := [], vararg := none, kwonlyargs := [], kw_defaults := [], kwarg := none, defaults := [] }
def defBody (s : Stmt) : List Stmt := match s with
  | .FunctionDef _ _ b _ _ _ _ _ _ _ => b
  | _ => []
def defScope (s : Stmt) : Scope := match s with
  | .FunctionDef _ _ _ _ _ _ sc _ _ _ => sc
  | _ => { kind := .function, names := [], isGenerator := false, isCoroutine := false }

/-! ### no exception leaves a def -/
abbrev CX0 : CXT := fun _ _ _ _ _ _ => False
abbrev E0 : XK := fun _ _ _ => False
theorem pass0 {X : Cx} : Passes CX0 X E0 := fun _ _ _ _ _ _ _ h => h.elim

/-! ### a def (or method) of the text as it stands behind the top -/
structure Fun (K : PySem.W.Frag) (x qual : Str) (st : Stmt) (f : Addr) (fd : FuncData) : Prop where
  ex : ∃ (oc : Value) (od : Option Addr) (kV doc pm : Value) (an : Option Addr) (cdv ct : Value) (osl : Array (Option Value)),
    fd = PySem.W.fnOf x qual (defArgs st) (defBody st) (defScope st) .none kV doc pm an cdv ct ∧ K.lookup f = some ⟨oc, od, .func fd, osl⟩ ∧ PySem.W.codeIn K cdv qual = true
  kp : PySem.W.keepIn K (.ref f) = true
section
variable {P : Program} {w : World} {K : PySem.W.Frag} {mg : Str → Option Value} {base : Heap}
/-- THE RULE for a def: its body as a term of rules, and the reading of that term -/
theorem Fun.ok {x qual : Str} {st : Stmt} {f : Addr} {fd : FuncData} {N ps : List Str} {k : Nat} {sp : Sp} (F : Fun K x qual st f fd) (S : FnScope N ps (defScope st)) (len : ∀ vs H Q E, sp vs H Q E → vs.length = ps.length)
    (hbody : ∀ (cdv : Value) (A : Around) (outer : List Env) (s : Shared) (H : Hp) (vs : List V) (Q : VK) (E : XK), Room k (A.deeper (envOfC qual (defScope st) s.heap.objs.size f cdv)) → sp vs H Q E →
      ∃ t, PSs (cxOf CX0 P w K mg base N qual (defScope st) f cdv A outer s H E).nox (defBody st) t ∧ t { nx := fun _ H' => Q .non H', rt := Q } (start N vs) H) : FnOk P w K mg base CX0 (k + 1) f fd ps sp := by
  obtain ⟨oc, od, kV, doc, pm, an, cdv, ct, osl, rfl, lk, hcd⟩ := F.ex
  refine fn_of lk hcd S len fun A outer s H vs Q E hr hsp => ?_
  obtain ⟨t, h, q⟩ := hbody cdv A outer s H vs Q E hr hsp
  exact ⟨t, h.nox, q⟩
/-- how its arguments bind (no defaults): h is «fun _ _ _ _ _ _ us hl => match us, hl with | [_, _], _ => rfl», one _ a parameter -/
theorem Fun.binds {x qual : Str} {st : Stmt} {f : Addr} {fd : FuncData} {ps : List Str} (F : Fun K x qual st f fd)
    (h : ∀ (kV doc pm : Value) (an : Option Addr) (cdv ct : Value) (us : List Value), us.length = ps.length → bindArgs (PySem.W.fnOf x qual (defArgs st) (defBody st) (defScope st) .none kV doc pm an cdv ct) ⟨us, []⟩ = pure (ps.zip us)) : Binds K fd ps [] := by
  obtain ⟨oc, od, kV, doc, pm, an, cdv, ct, osl, rfl, lk, hcd⟩ := F.ex
  exact .all (h kV doc pm an cdv ct)
theorem fun_mk {x qual : Str} {st : Stmt} {f : Addr} {oc : Value} {od an : Option Addr} {osl : Array (Option Value)} {kV doc pm cdv ct : Value} (l : K.lookup f = some ⟨oc, od, .func (PySem.W.fnOf x qual (defArgs st) (defBody st) (defScope st) .none kV doc pm an cdv ct), osl⟩)
    (c : PySem.W.codeIn K cdv qual = true) (k : PySem.W.keepIn K (.ref f) = true) : Fun K x qual st f (PySem.W.fnOf x qual (defArgs st) (defBody st) (defScope st) .none kV doc pm an cdv ct) := ⟨⟨oc, od, kV, doc, pm, an, cdv, ct, osl, rfl, l, c⟩, k⟩
end
theorem hu_of {A : Around} {k : Nat} (hr : Room k A) : A.units + 1 < cLine := Nat.lt_of_le_of_lt (Nat.add_le_add_left (by decide : 1 ≤ 64) _) hr.units
theorem small1000 {n : Nat} (h : n ≤ 1000) : n < sizeLine := Nat.lt_of_le_of_lt h (by decide)

/-! ### expressions in short: the name that stands in the i-th slot -/
section
variable {X : Cx}
theorem pv (i : Nat) {x : Str} {pos : Pos} (hN : X.N[i]? = some x := by rfl) (hv : Vis X.env.scope x := by first | exact Or.inl rfl | exact Or.inr (Or.inl rfl) | exact Or.inr (Or.inr rfl)) (hd : (x == ("__debug__" : Str)) = false := by decide)
    (hcd : (x == ("__classdict__" : Str)) = false := by decide) : PE X (.Name x pos) (tVar i) := pe_var hN hv hd hcd
end

/-! ### tests -/
theorem iteF {A B : Prop} (h : B) : if false = true then A else B := by
  rw [if_neg Bool.false_ne_true]
  exact h
theorem iteT {A B : Prop} (h : A) : if true = true then A else B := by
  rw [if_pos rfl]
  exact h
theorem ite2 {c A B : Prop} [Decidable c] (h1 : c → A) (h2 : ¬ c → B) : if c then A else B := by
  by_cases h : c
  · rw [if_pos h]
    exact h1 h
  · rw [if_neg h]
    exact h2 h
theorem iteNS {c A B : Prop} [Decidable c] (hc : c) (h : B) : if (!decide c) = true then A else B := by
  rw [decide_eq_true hc]
  exact iteF h

/-! ### heaps -/
/-- all that was tracked is as it was -/
def Same (H H' : Hp) : Prop := ∀ b o, H b = some o → H' b = some o
theorem Same.refl (H : Hp) : Same H H := fun _ _ h => h
theorem Same.trans {H H1 H2 : Hp} (a : Same H H1) (b : Same H1 H2) : Same H H2 := fun c o h => b c o (a c o h)
theorem Same.free {H H' : Hp} (e : Same H H') {l : Addr} (h : H' l = Option.none) : H l = Option.none := by
  cases q : H l with
  | none => rfl
  | some o =>
    rw [e l o q] at h
    cases h
theorem Same.seq {K : PySem.W.Frag} {H H' : Hp} {a : Addr} {xs : List V} (e : Same H H') (h : SqL K H a xs) : SqL K H' a xs := by
  rcases h with (h | ⟨o, h⟩) | h
  · exact .inl (.inl (e _ _ h))
  · exact .inl (.inr ⟨o, e _ _ h⟩)
  · exact .inr h

end L2
set_option maxHeartbeats 4000000

/-! ## trees, apart from any heap -/
namespace Sw
/-- two lists, item by item -/
inductive All2 {α β : Type} (R : α → β → Prop) : List α → List β → Prop where
  | nil : All2 R [] []
  | cons {a : α} {b : β} {as : List α} {bs : List β} : R a b → All2 R as bs → All2 R (a :: as) (b :: bs)
namespace All2
variable {α β : Type} {R S : α → β → Prop}
theorem length {as : List α} {bs : List β} (h : All2 R as bs) : bs.length = as.length := by
  induction h with
  | nil => rfl
  | cons _ _ ih => rw [List.length_cons, List.length_cons, ih]
theorem imp {as : List α} {bs : List β} (f : ∀ a b, R a b → S a b) (h : All2 R as bs) : All2 S as bs := by
  induction h with
  | nil => exact .nil
  | cons r _ ih => exact .cons (f _ _ r) ih
theorem append {as as' : List α} {bs bs' : List β} (h : All2 R as bs) (g : All2 R as' bs') : All2 R (as ++ as') (bs ++ bs') := by
  induction h with
  | nil => exact g
  | cons r _ ih => exact .cons r ih
theorem one {a : α} {b : β} (h : R a b) : All2 R [a] [b] := .cons h .nil
theorem get {as : List α} {bs : List β} (h : All2 R as bs) : ∀ {i : Nat} {b : β}, bs[i]? = some b → ∃ a, as[i]? = some a ∧ R a b := by
  induction h with
  | nil => intro i b e; simp at e
  | cons r _ ih =>
    intro i b e
    cases i with
    | zero => exact ⟨_, rfl, by have e' := Option.some.inj e; rw [← e']; exact r⟩
    | succ i => exact ih (i := i) (by simpa using e)
theorem take (n : Nat) : ∀ {as : List α} {bs : List β}, All2 R as bs → All2 R (as.take n) (bs.take n) := by
  induction n with
  | zero => intro as bs _; rw [List.take_zero, List.take_zero]; exact .nil
  | succ n ih =>
    intro as bs h
    cases h with
    | nil => exact .nil
    | cons r h => exact .cons r (ih h)
theorem drop (n : Nat) : ∀ {as : List α} {bs : List β}, All2 R as bs → All2 R (as.drop n) (bs.drop n) := by
  induction n with
  | zero => intro as bs h; exact h
  | succ n ih =>
    intro as bs h
    cases h with
    | nil => exact .nil
    | cons r h => exact ih h
theorem of_get : ∀ {bs : List β} {as : List α}, bs.length = as.length → (∀ (i : Nat) b, bs[i]? = some b → ∃ a, as[i]? = some a ∧ R a b) → All2 R as bs
  | [], [], _, _ => .nil
  | [], _ :: _, h, _ => by simp at h
  | _ :: _, [], h, _ => by simp at h
  | b :: bs, a :: as, h, g => by
    obtain ⟨a', e, r⟩ := g 0 b rfl
    have e' := Option.some.inj e
    refine .cons (by rw [e']; exact r) (of_get (by simpa using h) fun i b e => ?_)
    exact g (i + 1) b (by simpa using e)
theorem map_eq {f : α → β} {as : List α} {bs : List β} (h : All2 (fun a b => b = f a) as bs) : bs = as.map f := by
  induction h with
  | nil => rfl
  | cons r _ ih => rw [List.map_cons, ih, r]
end All2
/-- a tree -/
inductive T where
  | node (ts : List T)

namespace T
def kids : T → List T | .node ts => ts
mutual
def parts : T → Nat | .node ts => 1 + partsL ts
def partsL : List T → Nat
  | [] => 0
  | t :: ts => parts t + partsL ts
end
mutual
def deep : T → Nat | .node ts => deepL ts
/-- one more than the deepest of them; 0 of none -/
def deepL : List T → Nat
  | [] => 0
  | t :: ts => max (deep t + 1) (deepL ts)
end
mutual
def beq : T → T → Bool | .node ts, .node us => beqL ts us
def beqL : List T → List T → Bool
  | [], [] => true
  | t :: ts, u :: us => beq t u && beqL ts us
  | _, _ => false
end
mutual
theorem beq_iff : ∀ t u : T, beq t u = true ↔ t = u
  | .node ts, .node us => by
    unfold beq
    rw [beqL_iff ts us]
    exact ⟨fun h => by rw [h], fun h => by injection h⟩
theorem beqL_iff : ∀ ts us : List T, beqL ts us = true ↔ ts = us
  | [], [] => by simp [beqL]
  | [], _ :: _ => by simp [beqL]
  | _ :: _, [] => by simp [beqL]
  | t :: ts, u :: us => by
    unfold beqL
    rw [Bool.and_eq_true, beq_iff t u, beqL_iff ts us]
    simp
end
theorem beq_self (t : T) : beq t t = true := (beq_iff t t).mpr rfl
instance : DecidableEq T := fun t u => if h : beq t u = true then isTrue ((beq_iff t u).mp h) else isFalse fun e => h ((beq_iff t u).mpr e)

theorem parts_node (ts : List T) : (T.node ts).parts = 1 + partsL ts := by unfold parts; rfl
theorem deep_node (ts : List T) : (T.node ts).deep = deepL ts := by unfold deep; rfl
theorem partsL_nil : partsL [] = 0 := by unfold partsL; rfl
theorem partsL_cons (t : T) (ts : List T) : partsL (t :: ts) = t.parts + partsL ts := by rw [partsL]
theorem deepL_nil : deepL [] = 0 := by unfold deepL; rfl
theorem deepL_cons (t : T) (ts : List T) : deepL (t :: ts) = max (t.deep + 1) (deepL ts) := by rw [deepL]
theorem parts_pos (t : T) : 1 ≤ t.parts := by cases t; rw [parts_node]; omega
theorem parts_kids (t : T) : t.parts = 1 + partsL t.kids := by cases t; rw [parts_node]; rfl
theorem deep_kids (t : T) : t.deep = deepL t.kids := by cases t; rw [deep_node]; rfl

theorem partsL_append : ∀ a b : List T, partsL (a ++ b) = partsL a + partsL b
  | [], b => by rw [partsL_nil, List.nil_append]; omega
  | t :: a, b => by rw [List.cons_append, partsL_cons, partsL_cons, partsL_append a b]; omega
theorem deepL_append : ∀ a b : List T, deepL (a ++ b) = max (deepL a) (deepL b)
  | [], b => by rw [deepL_nil, List.nil_append]; omega
  | t :: a, b => by rw [List.cons_append, deepL_cons, deepL_cons, deepL_append a b]; omega
theorem len_le_parts : ∀ ts : List T, ts.length ≤ partsL ts
  | [] => by simp
  | t :: ts => by
    have h1 := parts_pos t
    have h2 := len_le_parts ts
    rw [partsL_cons, List.length_cons]
    omega
mutual
theorem deep_lt : ∀ t : T, t.deep < t.parts
  | .node ts => by
    have h := deepL_le ts
    rw [deep_node, parts_node]
    omega
theorem deepL_le : ∀ ts : List T, deepL ts ≤ partsL ts
  | [] => by rw [deepL_nil]; omega
  | t :: ts => by
    have h1 := deep_lt t
    have h2 := deepL_le ts
    rw [deepL_cons, partsL_cons]
    omega
end
/-- all items of all of them -/
def under (ts : List T) : List T := (ts.map kids).flatten
theorem under_nil : under [] = [] := rfl
theorem under_cons (t : T) (ts : List T) : under (t :: ts) = t.kids ++ under ts := rfl
theorem under_append (a b : List T) : under (a ++ b) = under a ++ under b := by simp [under]
theorem parts_under : ∀ ts : List T, partsL ts = ts.length + partsL (under ts)
  | [] => by rw [under_nil, partsL_nil]; rfl
  | t :: ts => by
    rw [under_cons, partsL_cons, partsL_append, parts_under ts, parts_kids t, List.length_cons]
    omega
theorem deep_under : ∀ ts : List T, ts ≠ [] → deepL ts = deepL (under ts) + 1
  | [], h => absurd rfl h
  | [t], _ => by
    rw [under_cons, deepL_cons, deepL_append, under_nil, deepL_nil, deep_kids t]
    omega
  | t :: u :: ts, _ => by
    have h := deep_under (u :: ts) (by simp)
    rw [under_cons, deepL_cons, deepL_append, h, deep_kids t]
    omega
theorem partsL_dropLast {ts : List T} {t : T} (h : ts[ts.length - 1]? = some t) : partsL ts = partsL ts.dropLast + t.parts := by
  have e : ts = ts.dropLast ++ [t] := by
    have hne : ts ≠ [] := by rintro rfl; simp at h
    have h2 := List.dropLast_concat_getLast hne
    have h3 : ts.getLast hne = t := by
      rw [← List.getLast?_eq_getElem?, List.getLast?_eq_some_getLast hne] at h
      exact Option.some.inj h
    rw [h3] at h2
    exact h2.symm
  have e2 : partsL ts = partsL (ts.dropLast ++ [t]) := congrArg partsL e
  rw [e2, partsL_append, partsL_cons, partsL_nil]
  omega
theorem partsL_take_drop (n : Nat) (ts : List T) : partsL ts = partsL (ts.take n) + partsL (ts.drop n) := by
  rw [← partsL_append, List.take_append_drop]
theorem partsL_le_of {B : Nat} : ∀ {ts : List T}, (∀ t ∈ ts, t.parts ≤ B) → partsL ts ≤ ts.length * B
  | [], _ => by rw [partsL_nil]; omega
  | t :: ts, h => by
    have h1 := h t List.mem_cons_self
    have h2 := partsL_le_of fun u hu => h u (List.mem_cons_of_mem _ hu)
    rw [partsL_cons, List.length_cons, Nat.succ_mul]
    omega
theorem deepL_le_of {B : Nat} : ∀ {ts : List T}, (∀ t ∈ ts, t.deep + 1 ≤ B) → deepL ts ≤ B
  | [], _ => by rw [deepL_nil]; omega
  | t :: ts, h => by
    have h1 := h t List.mem_cons_self
    have h2 := deepL_le_of fun u hu => h u (List.mem_cons_of_mem _ hu)
    rw [deepL_cons]
    omega
theorem mem_parts : ∀ {ts : List T} {t : T}, t ∈ ts → t.parts ≤ partsL ts
  | _ :: ts, t, h => by
    rw [partsL_cons]
    rcases List.mem_cons.mp h with rfl | h
    · omega
    · have := mem_parts h
      omega
theorem mem_deep : ∀ {ts : List T} {t : T}, t ∈ ts → t.deep + 1 ≤ deepL ts
  | _ :: ts, t, h => by
    rw [deepL_cons]
    rcases List.mem_cons.mp h with rfl | h
    · omega
    · have := mem_deep h
      omega
/-- sums and greatest, as the law reckons them -/
theorem sum_parts : ∀ ts : List T, (ts.map fun t => (t.parts : Int)).sum = (partsL ts : Int)
  | [] => rfl
  | t :: ts => by
    rw [List.map_cons, List.sum_cons, sum_parts ts, partsL_cons]
    omega
theorem max_deep {M : Int} : ∀ {ts : List T}, M ∈ (ts.map fun t => (t.deep : Int) + 1) ++ [0] → (∀ a ∈ (ts.map fun t => (t.deep : Int) + 1) ++ [0], a ≤ M) → M = (deepL ts : Int) := by
  intro ts h1 h2
  have up : M ≤ (deepL ts : Int) := by
    rcases List.mem_append.mp h1 with h | h
    · obtain ⟨t, ht, rfl⟩ := List.mem_map.mp h
      have := mem_deep ht
      omega
    · have : M = 0 := by simpa using h
      omega
  have low : (deepL ts : Int) ≤ M := by
    have h0 : (0 : Int) ≤ M := h2 0 (by simp)
    have h3 : ∀ t ∈ ts, t.deep + 1 ≤ M.toNat := fun t ht => by
      have := h2 ((t.deep : Int) + 1) (List.mem_append_left _ (List.mem_map.mpr ⟨t, ht, rfl⟩))
      omega
    have := deepL_le_of h3
    omega
  omega
end T
end Sw

/-! ## more rules over the layer: comprehensions, whole slices, sums, greatest, extend by a tuple, isinstance -/
namespace Sw
open PySem PySem.Spec PyProof.Rows L2

abbrev Sg := List (Option V)
/-! ### a comprehension -/
/-- where a comprehension's block runs -/
def blk (X : Cx) (scope : Scope) (cl : List (Str × Addr)) (C : Addr) (N : List Str) (s : Shared) (H : Hp) (fp : List Addr) (pins : List (Addr × Obj)) : Cx :=
  { X with N := N, s₀ := s, H₀ := H, env := compEnvC scope cl C X.env, outer := X.stack, ex := fp, fn := fun _ => false, calm := true, pn := X.pn ++ pins, xe := fun _ _ => False }

/-- the names of the block that the def around has as cells: y stands in slot j there -/
def FrOk (X : Cx) (scope : Scope) : List Str → List Nat → Prop
  | [], [] => True
  | y :: fr, j :: js => (X.N[j]? = some y ∧ X.env.scope.names.lookup y = some .cell ∧ (relabel scope X.env).names.lookup y = some .cell) ∧ FrOk X scope fr js
  | _, _ => False
theorem FrOk.len {X : Cx} {scope : Scope} : ∀ {fr : List Str} {js : List Nat}, FrOk X scope fr js → fr.length = js.length
  | [], [], _ => rfl
  | _ :: _, _ :: _, h => congrArg (· + 1) (FrOk.len h.2)
theorem FrOk.get {X : Cx} {scope : Scope} : ∀ {fr : List Str} {js : List Nat}, FrOk X scope fr js → ∀ {i : Nat} {y : Str}, fr[i]? = some y →
    ∃ j : Nat, js[i]? = some j ∧ X.N[j]? = some y ∧ X.env.scope.names.lookup y = some .cell ∧ (relabel scope X.env).names.lookup y = some .cell
  | [], [], _, i, y, e => by simp at e
  | z :: fr, j :: js, h, 0, y, e => by
    have e' : z = y := by simpa using e
    subst e'
    exact ⟨j, rfl, h.1⟩
  | z :: fr, j :: js, h, i + 1, y, e => by
    obtain ⟨k, h1, h2⟩ := FrOk.get h.2 (i := i) (y := y) (by simpa using e)
    exact ⟨k, by simpa using h1, h2⟩

/-- what the block's scope must be -/
structure LcOk (X : Cx) (scope : Scope) (x : Str) (fr : List Str) (js : List Nat) (cl : List (Str × Addr)) : Prop where
  kind : scope.kind = .function
  clos : closureFor scope X.env = pure cl
  cell : ∀ y ∈ scope.names, y.2 ≠ .cell
  loc : ∀ y ∈ scope.names, y.2 = .local → scope.names.lookup y.1 = some .local
  var : scope.names.lookup x = some .local
  sub : ∀ y c, cl.lookup y = some c → X.env.cells.lookup y = some c
  has : ∀ y, ((relabel scope X.env).names.lookup y = some .cell ∨ (relabel scope X.env).names.lookup y = some .free) → ∃ c, cl.lookup y = some c
  frk : FrOk X scope fr js
  nd : (x :: fr).Nodup

section
variable {X : Cx} {pins : List (Addr × Obj)} {σ : Sg} {H : Hp} {s : Shared} {scope : Scope} {cl : List (Str × Addr)} {x : Str} {fr : List Str} {js : List Nat} {fp : List Addr}

theorem blk_ok {N : List Str} (I : Inv X pins σ H s) (L : LcOk X scope x fr js cl) (hc : X.calm = true) (hfp : ∀ b ∈ fp, FpOk X pins H b) (hsz : ∀ b ∈ fp, b < s.heap.objs.size) :
    (blk X scope cl s.heap.objs.size N s H fp pins).Ok where
  mod := I.ok.mod
  kind := L.kind
  glob := I.ok.glob
  blt := I.ok.blt
  above := Nat.le_refl _
  inj := fun y z c h1 h2 => I.ok.inj y z c (L.sub y c h1) (L.sub z c h2)
  has := fun y hy => L.has y hy
  cab := fun y c h _ => absurd (show false = true from h) Bool.false_ne_true
  hd := fun _ => I.ok.hd hc
  frames := I.ok.frames
  stk := .inl rfl
  exf := fun b hb => ⟨Nat.ne_of_lt (hsz b hb), fun y c h => (hfp b hb).2.2.2.2.1 y c (L.sub y c h)⟩
  bs := I.bs
  bsz := Nat.le_trans I.ok.bsz I.sz
  noex := fun b o e hb => by
    rcases (hfp b hb).2.2.2.1 with z | z
    · exact I.ok.noex b o e z
    · exact absurd (Nat.lt_of_lt_of_le (Nat.lt_of_lt_of_le (Heap.lt_size e) I.ok.bsz) z) (Nat.lt_irrefl _)
  exfs := fun b hb z => by
    rcases List.mem_cons.mp (I.stkSub b z) with e | e
    · exact (hfp b hb).2.1 e
    · exact (hfp b hb).2.2.1 e
  funs := I.stack
  frf := I.stkFree

/-- the values of the names from around -/
def frv (σ : Sg) (js : List Nat) : Sg := js.map fun j => (σ[j]?).getD none

theorem blk_inv {h1 : Heap} {m1 : Str → Option Value} {tk : Nat} (I : Inv X pins σ H s) (L : LcOk X scope x fr js cl) (hc : X.calm = true) (hfp : ∀ b ∈ fp, FpOk X pins H b) (hsz : ∀ b ∈ fp, b < s.heap.objs.size)
    (hn : h1.Ns s.heap.objs.size m1) (hk : ∀ b o, s.heap.get? b = some o → h1.get? b = some o) :
    Inv (blk X scope cl s.heap.objs.size (x :: fr) s H fp pins) [] (none :: frv σ js) H { s with heap := h1, toks := tk } := by
  refine ⟨blk_ok I L hc hfp hsz, rfl, I.bare, Un.kept hk, ⟨m1, hn, fun i y v e1 e2 _ => ?_⟩, fun y c e => ?_, I.hok.fresh (Nat.le_refl _), fun y c e => I.freeC y c (L.sub y c e), fun p hp => ?_, I.hok.kept hk, ?_⟩
  · cases i with
    | zero => exact absurd e2 (by simp)
    | succ i =>
      have e1' : fr[i]? = some y := by simpa [blk] using e1
      obtain ⟨j, hj, hN, hcell, hrel⟩ := L.frk.get e1'
      have e2' : σ[j]? = some (some v) := by
        have q : (frv σ js)[i]? = some (some v) := by simpa using e2
        unfold frv at q
        rw [List.getElem?_map, hj] at q
        have q' : (σ[j]?).getD none = some v := by simpa using q
        cases hs : σ[j]? with
        | none => rw [hs] at q'; cases q'
        | some o => rw [hs] at q'; exact congrArg some q'
      obtain ⟨m, _, hl⟩ := I.loc
      obtain ⟨u, r, lk⟩ := hl j y v hN e2' (.inr (.inl hcell))
      refine ⟨u, r, .inr ⟨.inl hrel, ?_⟩⟩
      rcases lk with ⟨hloc, _⟩ | ⟨_, c, hc1, hc2⟩
      · have : X.env.scope.names.lookup y = some .local := hloc
        rw [hcell] at this; cases this
      · obtain ⟨c', hc'⟩ := L.has y (.inl hrel)
        have e3 := L.sub y c' hc'
        rw [hc1] at e3; cases e3
        exact ⟨c, hc', hc2.keeps hk⟩
  · obtain ⟨v, hv⟩ := I.cell y c (L.sub y c e)
    exact ⟨v, hv.keeps hk⟩
  · have hp' : p ∈ X.pn ++ pins := by simpa [blk] using hp
    obtain ⟨a1, a2, a3, a4, a5⟩ := I.pin p hp'
    refine ⟨hk _ _ a1, a2, Nat.ne_of_lt (Heap.lt_size a1), fun z => ?_, a5⟩
    rcases List.mem_cons.mp (I.stkSub _ z) with e | e
    · exact a3 e
    · exact a4 e
  · show (none :: frv σ js).length = (x :: fr).length
    simp [frv, L.frk.len]

/-- back from the block -/
theorem blk_back {H' : Hp} {s' : Shared} {h' : Heap} {σ' : Sg} {N : List Str} {pins' : List (Addr × Obj)} (I : Inv X pins σ H s) (J : Inv (blk X scope cl s.heap.objs.size N s H fp pins) pins' σ' H' s') (hfp : ∀ b ∈ fp, FpOk X pins H b)
    (hsb : Heap.SameBut s.heap.objs.size s'.heap h') : Inv X pins σ H' { s' with heap := h' } := by
  have hos : s'.os = s.os := J.os
  have nC : H' s.heap.objs.size = none := J.free
  have kp : ∀ b, b ≠ s.heap.objs.size → h'.get? b = s'.heap.get? b := hsb.2
  have low : ∀ b o, s.heap.get? b = some o → b ≠ s.heap.objs.size := fun b o e => Nat.ne_of_lt (Heap.lt_size e)
  have u : Un (frs X.stack) fp H H' s.heap h' := by
    have u0 : Un (frs X.stack) fp H H' s.heap s'.heap := J.base
    exact ⟨fun b o e n h1 h2 => (kp b (low b o e)).trans (u0.keep b o e n h1 h2), fun b o e n h1 h2 => by
        obtain ⟨sl, q⟩ := u0.slot b o e n h1 h2
        exact ⟨sl, (kp b (low b o e)).trans q⟩, u0.free, fun b o e h1 => by
        obtain ⟨o', q⟩ := u0.there b o e h1
        exact ⟨o', (kp b (low b o e)).trans q⟩, u0.tups, u0.frzs, u0.tbls⟩
  have hok : HOk X.prog X.w H' h' := fun b o e => by
    refine (J.hok b o e).stay (fun c v hc q => (kp c ?_).trans q) (fun _ q => q) fun _ _ q => q
    rcases hc with z | z
    · rw [z]; intro z'; rw [z', nC] at e; cases e
    · intro z'; rw [z', nC] at z; cases z
  have q := I.call (g' := s'.gens) (t' := s'.toks) (d' := s'.drawn) u hok J.bare fun b hb => ⟨(hfp b hb).2.2.2.1, (hfp b hb).2.1, (hfp b hb).2.2.2.2.1, (hfp b hb).2.2.2.2.2⟩
  obtain ⟨hp, g, d, tk, os⟩ := s'
  have : os = s.os := hos
  subst this
  exact q
end

/-- a comprehension over a new list at D, turn by turn -/
def LcRun (J : It) (js : List Nat) (te : TE) (σ : Sg) (Q : VK) (H1 : Hp) : Prop := ∀ D, H1 D = none →
  ∃ W : Nat → Nat → List V → Hp → Prop, (∃ m, W 0 m [] (upd H1 D (.lst []))) ∧ ∀ i m ys H', W i m ys H' → H' D = some (.lst ys) ∧
    ((J.stop i H' ∧ Q (.ref D) H') ∨ (J.go i H' ∧ ∀ x H2, J.yld i H' x H2 → te (some x :: frv σ js) H2 fun y H3 => H3 D = some (.lst ys) ∧ ys.length < sizeLine ∧
      ∃ m', m' < m ∧ W (i + 1) m' (ys ++ [y]) (upd H3 D (.lst (ys ++ [y])))))
/-- the reading of a comprehension -/
def tLC (wi : TI) (js : List Nat) (te : TE) : TE := fun σ H Q => wi σ H fun J H1 => LcRun J js te σ Q H1

section
variable {X : Cx} {scope : Scope} {cl : List (Str × Addr)} {x : Str} {fr : List Str} {js : List Nat} {elt iter : Expr} {px pos : Pos} {wi : TI} {te : TE}

/-- one turn of a list comprehension without tests, whatever the target -/
theorem lc_loop {prog : Program} {w : World} {A : Around} {R : Result → Shared → Prop} {s : Shared} {tg : Expr} {it acc : Value} {env : Env} (Iv : Nat → Shared → Prop)
    (turn : ∀ n s, Iv n s → wpAny (model prog w) A (pyNext it) (fun r s1 => match r with
      | none => R (.ok .next) s1
      | some v => wpAny (model prog w) A (letOwnedTupleGo tg it v) (fun _ s2 => wpAny (model prog w) A (assign tg env v) (fun _ s3 => wpAny (model prog w) A (eval elt env) (fun y s4 =>
          wpAny (model prog w) A (call (.builtin "list.append") [acc, y]) (fun _ s5 => ∃ m, m < n ∧ Iv m s5) (fun _ _ => False) s4) (fun _ _ => False) s3) (fun _ _ => False) s2) (fun _ _ => False) s1) (fun _ _ => False) s)
    (n : Nat) (h : Iv n s) : codeAny (model prog w) A (.compLoop (.ListComp elt [⟨tg, iter, [], 0⟩] scope pos) 0 it acc env) R s := by
  refine codeAny_loop rfl Iv (fun n s hI => ?_) n h
  refine wpAny_noted ?_
  rw [compTurn_list1]
  refine wpAny_bind (wpAny_standAt (wpAny_bind (wpAny_mono (turn n s hI) (fun r s1 h1 => ?_) fun _ _ z => z.elim)))
  cases r with
  | none => exact wpAny_pure h1
  | some v =>
    refine wpAny_bind (wpAny_mono h1 (fun _ s2 h2 => ?_) fun _ _ z => z.elim)
    refine wpAny_bind (wpAny_mono h2 (fun _ s3 h3 => ?_) fun _ _ z => z.elim)
    refine wpAny_bind (wpAny_bind (wpAny_mono h3 (fun y s4 h4 => ?_) fun _ _ z => z.elim))
    refine wpAny_bind (wpAny_mono h4 (fun _ s5 h5 => ?_) fun _ _ z => z.elim)
    exact wpAny_pure (wpAny_pure ⟨rfl, h5⟩)

theorem pe_lc (hc : X.calm = true) (L : LcOk X scope x fr js cl) (hi : PI X (.Name x px) iter wi)
    (he : ∀ C s H fp pins, PE (blk X scope cl C (x :: fr) s H fp pins) elt te)
    (hs : ∀ v, foldedSetIterable iter X.env v = pure v := by intro _; rfl) :
    PE X (.ListComp elt [⟨.Name x px, iter, [], 0⟩] scope pos) (tLC wi js te) := by
  intro pins s σ H Q I h
  rw [eval_ListComp]
  refine wpAny_comprehension_free (use := none) rfl hs L.clos L.kind L.loc (thn (hi pins s σ H _ I h) fun v s1 h1 => thn h1 fun itv s2 h2 => ?_)
  obtain ⟨it, fp, tn, J, H2, e, I2, T, st2, f2, rd⟩ := h2
  subst e
  obtain ⟨W, ⟨m0, w0⟩, turn⟩ := rd _ I2.fresh
  have I3 := I2.lnew (ys := []) (its := []) (t' := s2.toks) .nil (Nat.zero_le _)
  refine wpAny_newObj_type ?_
  have fsz2 : ∀ b ∈ fp, b < s2.heap.objs.size := fun b hb => by
    obtain ⟨o, ho, _⟩ := T.obj 0 _ st2 b hb
    exact Heap.lt_size ho
  generalize hs3 : ({ s2 with heap := s2.heap.push { cls := .type "list", dict := none, data := .seq ([] : List Value).toArray } } : Shared) = s3
  have I3' : Inv X pins σ (upd H2 s2.heap.objs.size (.lst [])) s3 := by rw [← hs3]; exact I3
  have sz3 : s3.heap.objs.size = s2.heap.objs.size + 1 := by rw [← hs3]; exact Heap.size_push ..
  have k23 : ∀ b o, s2.heap.get? b = some o → s3.heap.get? b = some o := fun b o e => by rw [← hs3]; exact Heap.get?_push_of_some _ e
  have fsz : ∀ b ∈ fp, b < s3.heap.objs.size := fun b hb => by rw [sz3]; exact Nat.lt_succ_of_lt (fsz2 b hb)
  have f3 : ∀ b ∈ fp, FpOk X pins (upd H2 s2.heap.objs.size (.lst [])) b := fun b hb => ⟨by rw [upd_ne (Nat.ne_of_lt (fsz2 b hb))]; exact (f2 b hb).1, (f2 b hb).2⟩
  refine wpAny_newFunctionEnv L.cell (by intro y hy; simp at hy) (fun h4 hn4 hsb4 => ?_) L.kind
  have k34 : ∀ b o, s3.heap.get? b = some o → h4.get? b = some o := fun b o e => (hsb4.2 b (Nat.ne_of_lt (Heap.lt_size e))).trans (Heap.get?_push_of_some _ e)
  generalize hX' : blk X scope cl s3.heap.objs.size (x :: fr) s3 (upd H2 s2.heap.objs.size (.lst [])) fp pins = X'
  have I4 : Inv X' [] (none :: frv σ js) (upd H2 s2.heap.objs.size (.lst [])) { s3 with heap := h4, toks := s3.toks + ([] : List (Str × Value)).length } := by
    rw [← hX']; exact blk_inv I3' L hc f3 fsz hn4 k34
  have st4 : tn 0 h4 := T.keep _ _ _ st2 fun b _ o e => k34 b o (k23 b o e)
  have he' : PE X' elt te := by rw [← hX']; exact he _ _ _ _ _
  have xp : X'.prog = X.prog := by rw [← hX']; rfl
  have xw : X'.w = X.w := by rw [← hX']; rfl
  have xK : X'.K = X.K := by rw [← hX']; rfl
  have xA : X'.A = X.A := by rw [← hX']; rfl
  have xc : X'.calm = true := by rw [← hX']; rfl
  have xe : X'.xe = fun _ _ => False := by rw [← hX']; rfl
  have xn : X'.N = x :: fr := by rw [← hX']; rfl
  have xv : X'.env = compEnvC scope cl s3.heap.objs.size X.env := by rw [← hX']; rfl
  have xpn : X'.pn = X.pn ++ pins := by rw [← hX']; rfl
  have xex : X'.ex = fp := by rw [← hX']; rfl
  have xfs : X'.fs = frs X.stack := by rw [← hX']; rfl
  have back : ∀ {H' : Hp} {s' : Shared} {h' : Heap} {σ' : Sg}, Inv X' [] σ' H' s' → Heap.SameBut s3.heap.objs.size s'.heap h' → Inv X pins σ H' { s' with heap := h' } := fun {H' s' h' σ'} J' hsb => by
    rw [← hX'] at J'; exact blk_back I3' J' f3 hsb
  have frame : ∀ b ∈ fp, b ∉ frs X.stack := fun b hb z => by
    rcases List.mem_cons.mp (I3'.stkSub b z) with e | e
    · exact (f3 b hb).2.1 e
    · exact (f3 b hb).2.2.1 e
  have stat : ∀ {H' : Hp}, (∀ b ∈ fp, H' b = none) → ∀ b ∈ fp, FpOk X' [] H' b := fun {H'} hn b hb => by
    refine ⟨hn b hb, ?_, ?_, .inl (by rw [xex]; exact hb), ?_, ?_⟩
    · rw [xv]; exact Nat.ne_of_lt (fsz b hb)
    · rw [xfs]; exact frame b hb
    · rw [xv]; exact fun y c e => (f3 b hb).2.2.2.2.1 y c (L.sub y c e)
    · rw [xpn, List.append_nil]; exact (f3 b hb).2.2.2.2.2
  have loop : codeAny (model X.prog X.w) X.A (.compLoop (.ListComp elt [⟨.Name x px, iter, [], 0⟩] scope pos) 0 (.ref it) (.ref s2.heap.objs.size) (compEnvC scope cl s3.heap.objs.size X.env))
      (compPost (model X.prog X.w) X.A X.xe none (EP X pins σ Q) (.ref s2.heap.objs.size) s3.heap.objs.size) { s3 with heap := h4, toks := s3.toks + ([] : List (Str × Value)).length } := by
    refine lc_loop (fun n s' => ∃ i ys o H', Inv X' [] (o :: frv σ js) H' s' ∧ tn i s'.heap ∧ (∀ b ∈ fp, H' b = none) ∧ W i n ys H') ?_ m0 ⟨0, [], none, _, I4, st4, fun b hb => (f3 b hb).1, w0⟩
    rintro n s5 ⟨i, ys, o, H5, I5, st5, fr5, w5⟩
    obtain ⟨hD, hstep⟩ := turn i n ys H5 w5
    rcases hstep with ⟨stop, qn⟩ | ⟨go, step⟩
    · have q := T.done X' xp xw xK xc i [] s5 _ H5 (fun _ _ => False) I5 (stat fr5) st5 stop
      rw [xA] at q
      refine thn q fun r s6 ⟨hr, I6⟩ => ?_
      subst hr
      obtain ⟨m6, hn6, _⟩ := I6.loc
      rw [xv] at hn6
      exact ⟨m6, hn6, fun h' hsb => ⟨.ref s2.heap.objs.size, H5, back I6 hsb, rfl, qn⟩⟩
    · have q := T.item X' xp xw xK xc i [] s5 _ H5 (fun _ _ => False) I5 (stat fr5) st5 go
      rw [xA] at q
      refine thn q fun r s6 ⟨u, hr, h6⟩ => ?_
      subst hr
      refine thn h6 fun _ s7 ⟨xx, H7, I7, r7, y7, st7, fr7⟩ => ?_
      have I7' := I7.pinned (stat fr7) (T.obj _ _ st7)
      have hg : PG X' (.Name x px) (gName 0) := by
        refine pg_name (i := 0) (x := x) (by rw [xn]; exact L.nd) (by rw [xn]; rfl) ?_ ?_
        · rw [xv]; exact .inl (lookup_relabel_local L.var)
        · rw [xv]; exact .inr (lookup_relabel_local L.var)
      have q7 := hg _ s7 _ H7 xx u (fun σ8 H8 => σ8 = some xx :: frv σ js ∧ H8 = H7) I7' r7 ⟨rfl, rfl⟩
      rw [xp, xw, xA, xe, xv] at q7
      refine thn q7 fun _ s8 ⟨σ8, H8, I8, e8, e8'⟩ => ?_
      subst e8 e8'
      have q8 := he' _ s8 _ _ _ I8 (step xx _ y7)
      rw [xp, xw, xA, xe, xv] at q8
      refine thn q8 fun yv s9 ⟨y, H9, I9, r9, d9, z9, m9, hm9, w9⟩ => ?_
      have q9 := mt_append (X := X') _ s9 _ H9 (.ref s2.heap.objs.size) [y] (.ref s2.heap.objs.size) [yv] (fun z H' => H' = upd H9 s2.heap.objs.size (.lst (ys ++ [y]))) I9 rfl (.cons r9 .nil) ⟨_, ys, y, rfl, rfl, d9, z9, rfl⟩
      rw [xp, xw, xA, xe] at q9
      refine thn q9 fun _ s10 ⟨_, H10, I10, _, e10⟩ => ?_
      subst e10
      refine ⟨m9, hm9, i + 1, ys ++ [y], some xx, _, I10.unpinned, T.keep _ _ _ st7 fun b hb ob e => (I10.pin (b, ob) (List.mem_append_right _ (List.mem_append_right _ (mem_pinsAt hb e)))).1, fun b hb => ?_, w9⟩
      obtain ⟨ob, e, _⟩ := T.obj _ _ st7 b hb
      exact (I10.pin (b, ob) (List.mem_append_right _ (List.mem_append_right _ (mem_pinsAt hb e)))).2.1
  exact codeAny_compStart_list loop (T.self _ 0 _ _ _ st4 loop)
end
end Sw

namespace Sw
open PySem PySem.Spec PyProof.Rows L2
/-! ### a block that looks at names from around -/
def clOf (cells : List (Str × Addr)) : List (Str × NameKind) → List (Str × Addr) → List (Str × Addr)
  | [], acc => acc
  | (n, .free) :: r, acc => match cells.lookup n with
    | some c => clOf cells r ((n, c) :: acc)
    | none => clOf cells r acc
  | (_, _) :: r, acc => clOf cells r acc
theorem clOf_skip {cells : List (Str × Addr)} {n : Str} {k : NameKind} {r : List (Str × NameKind)} {acc : List (Str × Addr)} (h : k ≠ .free) : clOf cells ((n, k) :: r) acc = clOf cells r acc := by
  cases k <;> first | rfl | exact absurd rfl h
theorem clOf_free {cells : List (Str × Addr)} {n : Str} {c : Addr} {r : List (Str × NameKind)} {acc : List (Str × Addr)} (h : cells.lookup n = some c) : clOf cells ((n, .free) :: r) acc = clOf cells r ((n, c) :: acc) := by
  rw [clOf, h]
theorem clOf_sub {cells : List (Str × Addr)} : ∀ {names : List (Str × NameKind)} {acc : List (Str × Addr)}, (∀ y ∈ names, y.2 = .free → ∃ c, cells.lookup y.1 = some c) → (∀ y c, acc.lookup y = some c → cells.lookup y = some c) →
    ∀ y c, (clOf cells names acc).lookup y = some c → cells.lookup y = some c
  | [], _, _, h, y, c, e => h y c e
  | (n, k) :: r, acc, hf, h, y, c, e => by
    have hr : ∀ y ∈ r, y.2 = .free → ∃ c, cells.lookup y.1 = some c := fun y hy => hf y (List.mem_cons_of_mem _ hy)
    by_cases hk : k = .free
    · subst hk
      obtain ⟨d, hd⟩ := hf (n, .free) List.mem_cons_self rfl
      rw [clOf_free hd] at e
      refine clOf_sub hr (fun z b hz => ?_) y c e
      rw [List.lookup_cons] at hz
      cases hzn : z == n with
      | true =>
        rw [hzn] at hz
        have : z = n := eq_of_beq hzn
        rw [this, hd]
        exact hz
      | false =>
        rw [hzn] at hz
        exact h z b hz
    · rw [clOf_skip hk] at e
      exact clOf_sub hr h y c e
theorem clOf_has {cells : List (Str × Addr)} : ∀ {names : List (Str × NameKind)} {acc : List (Str × Addr)}, (∀ y ∈ names, y.2 = .free → ∃ c, cells.lookup y.1 = some c) →
    ∀ y : Str, ((y, NameKind.free) ∈ names ∨ ∃ c, acc.lookup y = some c) → ∃ c, (clOf cells names acc).lookup y = some c
  | [], _, _, y, h => by
    rcases h with h | h
    · simp at h
    · exact h
  | (n, k) :: r, acc, hf, y, h => by
    have hr : ∀ y ∈ r, y.2 = .free → ∃ c, cells.lookup y.1 = some c := fun y hy => hf y (List.mem_cons_of_mem _ hy)
    by_cases hk : k = .free
    · subst hk
      obtain ⟨d, hd⟩ := hf (n, .free) List.mem_cons_self rfl
      rw [clOf_free hd]
      refine clOf_has hr y ?_
      by_cases hyn : y = n
      · subst hyn
        exact .inr ⟨d, by simp [List.lookup_cons]⟩
      · rcases h with h | ⟨c, h⟩
        · rcases List.mem_cons.mp h with e | e
          · exact absurd (congrArg Prod.fst e) hyn
          · exact .inl e
        · refine .inr ⟨c, ?_⟩
          rw [List.lookup_cons]
          have : (y == n) = false := by simpa using hyn
          rw [this]
          exact h
    · rw [clOf_skip hk]
      refine clOf_has hr y ?_
      rcases h with h | h
      · rcases List.mem_cons.mp h with e | e
        · exact absurd (congrArg Prod.snd e).symm hk
        · exact .inl e
      · exact .inr h
theorem closure_eq {scope : Scope} {env : Env} (hf : ∀ y ∈ scope.names, y.2 = .free → ∃ c, env.cells.lookup y.1 = some c) : closureFor scope env = pure (clOf env.cells scope.names []) := by
  have key : ∀ (names : List (Str × NameKind)) (acc : List (Str × Addr)), (∀ y ∈ names, y.2 = .free → ∃ c, env.cells.lookup y.1 = some c) →
      (forIn names acc fun (x : Str × NameKind) (cs : List (Str × Addr)) => (match x with | (name, kind) => if (kind == NameKind.free) = true then (cellOf env name >>= fun a => pure (ForInStep.yield ((name, a) :: cs))) else pure (ForInStep.yield cs) : Sem (ForInStep (List (Str × Addr))))) = pure (clOf env.cells names acc) := by
    intro names
    induction names with
    | nil => intro acc _; rfl
    | cons x r ih =>
      intro acc h
      obtain ⟨n, k⟩ := x
      have hr : ∀ y ∈ r, y.2 = .free → ∃ c, env.cells.lookup y.1 = some c := fun y hy => h y (List.mem_cons_of_mem _ hy)
      rw [List.forIn_cons]
      by_cases hk : k = .free
      · subst hk
        obtain ⟨d, hd⟩ := h (n, .free) List.mem_cons_self rfl
        have hc : cellOf env n = pure d := by unfold cellOf; rw [hd]
        rw [clOf_free hd, ← ih _ hr]
        simp only [beq_self_eq_true, if_true, hc, pure_bind]
      · have hb : (k == NameKind.free) = false := by simpa using hk
        rw [clOf_skip hk, ← ih _ hr]
        simp only [hb, Bool.false_eq_true, if_false, pure_bind]
  have := key scope.names [] hf
  unfold closureFor
  simp only [bind_pure_comp, map_pure] at this ⊢
  first
    | exact this
    | (rw [this]; rfl)
    | (simp only [this]; rfl)
theorem lc_free {X : Cx} {scope sc : Scope} {x : Str} {fr : List Str} {js : List Nat} (hk : scope.kind = .function) (hsc : X.env.scope = sc) (hkf : sc.kind = .function)
    (hcell : ∀ y ∈ scope.names, y.2 ≠ .cell) (hloc : ∀ y ∈ scope.names, y.2 = .local → scope.names.lookup y.1 = some .local) (hvar : scope.names.lookup x = some .local)
    (hfree : ∀ y ∈ scope.names, y.2 = .free → sc.names.lookup y.1 = some .cell) (hfr : FrOk X scope fr js) (hnd : (x :: fr).Nodup)
    (hcs : ∀ y, X.env.scope.names.lookup y = some .cell → ∃ c, X.env.cells.lookup y = some c) : LcOk X scope x fr js (clOf X.env.cells scope.names []) := by
  have hall : ∀ y ∈ scope.names, y.2 = .free → ∃ c, X.env.cells.lookup y.1 = some c := fun y hy e => hcs _ (by rw [hsc]; exact hfree y hy e)
  refine ⟨hk, closure_eq hall, hcell, hloc, hvar, clOf_sub hall fun y c e => by simp at e, fun y hy => clOf_has hall y (.inl ?_), hfr, hnd⟩
  have get : ∀ k, (k = NameKind.cell ∨ k = NameKind.free) → (relabel scope X.env).names.lookup y = some k → (y, NameKind.free) ∈ scope.names := fun k hkk e => by
    have hm := PySem.mem_of_lookup e
    unfold relabel at hm
    obtain ⟨⟨n, k0⟩, hin, heq⟩ := List.mem_map.mp hm
    dsimp only at heq
    split at heq
    · rename_i hc
      have e1 : n = y := congrArg Prod.fst heq
      have e2 : k0 = .free := by
        rw [Bool.and_eq_true, Bool.and_eq_true] at hc
        exact eq_of_beq hc.1.1
      rw [← e1, ← e2]
      exact hin
    · have e1 : n = y := congrArg Prod.fst heq
      have e2 : k0 = k := congrArg Prod.snd heq
      rcases hkk with z | z
      · exact absurd (by rw [e2, z]) (hcell _ hin)
      · rw [← e1, ← z, ← e2]
        exact hin
  rcases hy with h | h
  · exact get _ (.inl rfl) h
  · exact get _ (.inr rfl) h
end Sw

namespace Sw
open PySem PySem.Spec PyProof.Rows L2

/-! ### what stays true while the heap grows -/
theorem same_new {H : Hp} {p : Addr} (h : H p = none) (o : HO) : Same H (upd H p o) := fun b u q => by rw [upd_ne (ne_of_none q h)]; exact q
/-- the tuples stay (and what is frozen) -/
structure Kt (H H' : Hp) : Prop where
  t : ∀ b xs, H b = some (.tup xs) → H' b = some (.tup xs)
  f : ∀ b o u, H b = some (.frz o u) → H' b = some (.frz o u)
theorem Kt.of {H H' : Hp} (S : Same H H') : Kt H H' := ⟨fun b _ e => S b _ e, fun b _ _ e => S b _ e⟩
theorem Kt.refl (H : Hp) : Kt H H := ⟨fun _ _ e => e, fun _ _ _ e => e⟩
theorem Kt.trans {H H1 H2 : Hp} (a : Kt H H1) (b : Kt H1 H2) : Kt H H2 := ⟨fun _ _ e => b.t _ _ (a.t _ _ e), fun _ _ _ e => b.f _ _ _ (a.f _ _ _ e)⟩
theorem Kt.new {H : Hp} {p : Addr} {o : HO} (h : H p = none) : Kt H (upd H p o) := .of (same_new h o)
theorem Kt.lst {H : Hp} {p : Addr} {ys : List V} {o : HO} (h : H p = some (.lst ys)) : Kt H (upd H p o) :=
  ⟨fun b xs e => by rw [upd_ne (ne_of e h (fun z => by cases z))]; exact e, fun b o' u e => by rw [upd_ne (ne_of e h (fun z => by cases z))]; exact e⟩
theorem sqT_mono {K : PySem.W.Frag} {H H' : Hp} {a : Addr} {xs : List V} (S : Kt H H') (h : SqT K H a xs) : SqT K H' a xs := by
  rcases h with (h | ⟨o, h⟩) | h
  · exact .inl (.inl (S.t _ _ h))
  · exact .inl (.inr ⟨o, S.f _ _ _ h⟩)
  · exact .inr h
/-- what is new to H may change -/
theorem same_upd {H H' : Hp} {p : Addr} {o : HO} (S : Same H H') (h : H p = none) : Same H (upd H' p o) := fun b u q => by rw [upd_ne (ne_of_none q h)]; exact S b u q

section
variable {X : Cx}
/-! ### sum and max of a list of ints -/
theorem call_sum (hc : X.calm = true) : CallR X (.builtin "sum") (fun xs H Q => ∃ (p : Addr) (ns : List Int), xs = [.ref p] ∧ SqL X.K H p (ns.map V.int) ∧ Q (.int ns.sum) H) := by
  intro pins s σ H xs us Q I r h
  obtain ⟨p, ns, rfl, hq, q⟩ := h
  obtain ⟨u, rfl, rx⟩ := vals1 r
  cases rx
  obtain ⟨its, r', pl, hz⟩ := I.list hq
  have hi : IntsAre its ns := intsAre_of r'
  obtain ⟨ys, e⟩ := hi.allInts.items
  have hns : ns = ys.toList.map (·.1) := by
    rw [← hi.numsOf, ← nums_intItems, ← e]
  have hl := pl.isList
  rw [e] at hl
  refine sum_intListG (I.ok.hd hc) hl fun h' tk t' hk => ?_
  have es : preSum (numAt ys) ys.size = ns.sum := by rw [preSum_eq, List.take_of_length_le (by simp), hns]
  exact ⟨.int ns.sum, H, I.kept hk, ⟨t', by rw [es]⟩, q⟩
theorem call_max1 (hc : X.calm = true) : CallR X (.builtin "max") (fun xs H Q => ∃ (p : Addr) (ns : List Int), xs = [.ref p] ∧ SqL X.K H p (ns.map V.int) ∧ 0 < ns.length ∧ ∀ M : Int, M ∈ ns → (∀ a ∈ ns, a ≤ M) → Q (.int M) H) := by
  intro pins s σ H xs us Q I r h
  obtain ⟨p, ns, rfl, hq, hne, q⟩ := h
  obtain ⟨u, rfl, rx⟩ := vals1 r
  cases rx
  obtain ⟨its, r', pl, hz⟩ := I.list hq
  have hi : IntsAre its ns := intsAre_of r'
  obtain ⟨ys, e⟩ := hi.allInts.items
  have hns : ns = ys.toList.map (·.1) := by
    rw [← hi.numsOf, ← nums_intItems, ← e]
  have hlen : ns.length = ys.size := by rw [hns, List.length_map, Array.length_toList]
  have hl := pl.isList
  rw [e] at hl
  refine max_intList (I.ok.hd hc) hl (by omega) fun v h' tk hv hk => ?_
  obtain ⟨t, rfl⟩ := intItems_at hv
  obtain ⟨g1, g2⟩ := argBest_gt (numAt ys) (ys.size - 1)
  refine ⟨.int _, H, I.kept hk, ⟨t, rfl⟩, q _ ?_ fun a ha => ?_⟩
  · rw [hns, numAt_eq]
    exact getD_mem (by rw [← hns]; omega)
  · rw [hns] at ha
    obtain ⟨j, hj, rfl⟩ := mem_getD ha
    rw [← hns] at hj
    rw [← numAt_eq]
    exact g2 j (by omega)

/-! ### xs.extend(t), t a tuple -/
theorem extend_tuple_meets (l : Addr) (items : Array Value) (n : Nat) (b : Addr) (items2 : Array Value) (n2 : Nat) (dd : Option Addr) (sl : Array (Option Value))
    (h0 : ¬ (!items.isEmpty && Builtin.List.listTooLong (items.size + items2.size)) = true) (h1 : items.size ≤ sizeLine) (h2 : items.size + items2.size ≤ sizeLine + 1) :
    Meets (Builtin.«list.extend» ⟨[.ref l, .ref b], []⟩) (fun _ R s => s.heap.get? l = some { cls := .type "list", dict := none, data := .seq items n, slots := #[] } ∧
      s.heap.get? b = some { cls := .type "tuple", dict := dd, data := .seq items2 n2, slots := sl } ∧ R (.ok (.ret Value.none)) { s with heap := s.heap.update l (Obj.mapSeq fun x => x ++ items2), toks := s.toks }) :=
  .of_wp fun prog w A R s h => by
    obtain ⟨hp, g, d, tk, os⟩ := s
    obtain ⟨hl, hb, h⟩ := h
    have f1 := AutoSeq1.idx_int
    have f2 := AutoSeq1.sub_tuple_tuple
    have f3 := AutoSeq1.sub_list_list
    have f4 := AutoSeq1.sub_tuple_list
    have f5 := AutoSeq1.sub_list_tuple
    have hz' : (items ++ items2).size ≤ sizeLine + 1 := by
      rw [Array.size_append]
      exact h2
    wp_walk using (wpAny_updateSeq hl rfl (hz := h1) (_hz' := hz')), AutoSeq1.wpAny_loadPart' hl, AutoSeq1.wpAny_loadPart' hb
    exact ⟨_, rfl, h⟩
def rExtT (K : PySem.W.Frag) : V → List V → Hp → VK → Prop := fun x vs H Q => ∃ l b xs zs, x = .ref l ∧ vs = [.ref b] ∧ H l = some (.lst xs) ∧ SqT K H b zs ∧ xs.length + zs.length ≤ sizeLine ∧ Q .non (upd H l (.lst (xs ++ zs)))
theorem mt_extT : MtM X "list.extend" (rExtT X.K) := by
  intro pins s σ H x vs v us Q I rx rv h
  obtain ⟨l, b, xs, zs, rfl, rfl, hH, hB, hz, q⟩ := h
  cases rx
  obtain ⟨u, rfl, ru⟩ := rv.one
  cases ru
  obtain ⟨z, its, n, r, hl, e⟩ := I.lstM hH
  obtain ⟨its2, r2, ⟨⟨c2, d2, dt2, sl2⟩, e2, hc2, n2, hd2⟩, z2⟩ := I.tuple hB
  have hl2 := r2.length
  simp only at hc2 hd2
  subst hc2 hd2
  have hsz : its.toArray.size + its2.toArray.size ≤ sizeLine := by rw [List.size_toArray, List.size_toArray]; omega
  have hlong : ¬ (!its.toArray.isEmpty && Builtin.List.listTooLong (its.toArray.size + its2.toArray.size)) = true := by
    rw [notLongL hsz, Bool.and_false]
    exact Bool.false_ne_true
  refine call_meets F.slot_list_extend ⟨_, e, rfl⟩ F.entry_list_extend (F.args_list_extend_2 _ _)
    (extend_tuple_meets l its.toArray n b its2.toArray n2 d2 sl2 hlong (by rw [List.size_toArray]; omega) (by omega)) ⟨e, e2, ?_⟩
  refine ⟨.non, _, I.lset (its' := its ++ its2) hH e (by simp) (r.append r2) ?_, rfl, q⟩
  rw [List.length_append]
  omega

/-! ### the whole of a tuple as a slice of it -/
theorem getItem_tuple_whole {prog : Program} {w : World} {A : Around} {E : Value → Shared → Prop} {s : Shared} {t sl : Addr} {items : Array Value} {vl vu : Value} {lo hi : Option Int} {Q : Value → Shared → Prop}
    (ht : IsTup s.heap t items) (hs : s.heap.IsSliceOf sl vl vu .none) (pl : IsPart vl lo) (pu : IsPart vu hi)
    (h1 : HT.sIx items.size 0 lo = 0) (h2 : HT.sIx items.size items.size hi = items.size) (h : Q (.ref t) s) : wpAny (model prog w) A (getItem (.ref t) (.ref sl)) Q E s := by
  obtain ⟨os, hos, hcs, hds⟩ := id hs
  have hTs : s.TypeIs (.ref sl) "slice" := ⟨os, hos, hcs⟩
  unfold getItem
  try with_reducible refine wpAny_holding ?_
  first | refine wpAny_bind (wpAny_pure ?_) | skip
  refine wpAny_bind (wpAny_sequenceKey ht.typeIs (by decide) ?_)
  refine wpAny_bind (wpAny_callSpecial?_slot (name := Str.ofString "__getitem__") ht.typeIs PyProof.Rows.slot_tuple_getitem
    (wpAny_call_entry PyProof.Rows.slot_tuple_getitem ht.typeIs entry_tuple_getitem ?_ (args_tuple_getitem _ _)))
  show wpAny _ _ (Builtin.Tuple.tupleItemsOf (.ref t) >>= _) _ _ s
  refine wpAny_bind (tupleItemsOf_ ht ?_)
  refine wpAny_bind (wpAny_typeOf hTs ?_)
  rw [if_pos (by decide)]
  refine wpAny_bind (HT.sliceApplied_gen hs pl pu ?_)
  have hyes : (((HT.sIx items.size 0 lo : Nat) : Int) == 0 && (1 : Int) == 1 && (HT.sIx items.size items.size hi - HT.sIx items.size 0 lo) == items.size) = true := by
    rw [h1, h2]
    simp
  show wpAny _ _ (if (((HT.sIx items.size 0 lo : Nat) : Int) == 0 && (1 : Int) == 1 && (HT.sIx items.size items.size hi - HT.sIx items.size 0 lo) == items.size) = true then _ else _) _ _ s
  rw [if_pos hyes]
  unfold Builtin.Tuple.tupleIsExact
  refine wpAny_bind (wpAny_bind (wpAny_typeOf ht.typeIs (wpAny_pure ?_)))
  rw [if_pos (by decide)]
  refine wpAny_bind (wpAny_rule ?_)
  exact wpAny_pure ⟨_, rfl, wpAny_pure h⟩
def rSlTW (K : PySem.W.Frag) : V → Option Int → Option Int → Hp → VK → Prop := fun x lo hi H Q => ∃ a xs, x = .ref a ∧ SqT K H a xs ∧
  HT.sIx xs.length 0 lo = 0 ∧ HT.sIx xs.length xs.length hi = xs.length ∧ Q (.ref a) H
theorem sl_tupW : SlR X (rSlTW X.K) := by
  intro pins s σ H x v vl vu lo hi sl Q I rx hs pl pu h
  obtain ⟨a, xs, rfl, hx, w1, w2, q⟩ := h
  cases rx
  obtain ⟨its, r, ht, hz⟩ := I.tuple hx
  have hlen : its.toArray.size = xs.length := by rw [List.size_toArray]; exact r.length.symm
  refine ⟨"tuple", _, PyProof.Rows.slot_tuple_getitem.lookup, ht.typeIs, ?_⟩
  exact getItem_tuple_whole ht hs pl pu (by rw [hlen]; exact w1) (by rw [hlen]; exact w2) ⟨.ref a, H, I, rfl, q⟩
/-- any slice of a tuple -/
def rSlTA (K : PySem.W.Frag) : V → Option Int → Option Int → Hp → VK → Prop := fun x lo hi H Q => ∃ a xs, x = .ref a ∧ SqT K H a xs ∧ ∀ p H', Same H H' → SqT K H' p (cutV xs lo hi) → Q (.ref p) H'
theorem cutV_whole {xs : List V} {lo hi : Option Int} (h1 : HT.sIx xs.length 0 lo = 0) (h2 : HT.sIx xs.length xs.length hi = xs.length) : cutV xs lo hi = xs := by
  unfold cutV
  rw [h1, h2]
  simp
theorem sl_tupA : SlR X (rSlTA X.K) := by
  intro pins s σ H x v vl vu lo hi sl Q I rx hs pl pu h
  obtain ⟨a, xs, rfl, hx, q⟩ := h
  by_cases hw : HT.sIx xs.length 0 lo = 0 ∧ HT.sIx xs.length xs.length hi = xs.length
  · exact sl_tupW pins s σ H _ v vl vu lo hi sl Q I rx hs pl pu ⟨a, xs, rfl, hx, hw.1, hw.2, q a H (Same.refl H) (by rw [cutV_whole hw.1 hw.2]; exact hx)⟩
  · exact sl_tup pins s σ H _ v vl vu lo hi sl Q I rx hs pl pu ⟨a, xs, rfl, hx, hw, fun p hp => q p _ (same_new hp _) (SqT.of upd_same)⟩

/-! ### isinstance(x, T), T a type of Python's own -/
theorem call_isinst : CallR X (.builtin "isinstance") (fun xs H Q => ∃ x T t b, xs = [x, .ty T] ∧ TyOf X.K H x t ∧ PySem.W.kitOne X.K t (.type T) = some b ∧ Q (.bl b) H) := by
  intro pins s σ H xs us Q I r h
  obtain ⟨x, T, t, b, rfl, ty, e, q⟩ := h
  obtain ⟨u, w', rfl, r1, r2⟩ := vals2 r
  cases r2
  exact isinst_ok I r1 ty e fun tk => ⟨.bl b, H, I.tok tk, rfl, q⟩
theorem call_isinstT : CallR X (.builtin "isinstance") (fun xs H Q => ∃ a ys T b, xs = [.ref a, .ty T] ∧ SqT X.K H a ys ∧ PySem.W.kitOne X.K (.type "tuple") (.type T) = some b ∧ Q (.bl b) H) := by
  intro pins s σ H xs us Q I r h
  obtain ⟨a, ys, T, b, rfl, hq, e, q⟩ := h
  obtain ⟨u, w', rfl, r1, r2⟩ := vals2 r
  cases r1
  cases r2
  obtain ⟨its, _, ⟨o, h1, h2, _⟩, _⟩ := I.tuple hq
  exact PySem.W.kia_one PySem.W.kitx_tuple I.kIn ⟨o, h1, h2⟩ e (fun z => nomatch z) fun tk => ⟨.bl b, H, I.tok tk, rfl, q⟩
end

/-! ### trees in the heap -/
mutual
def TR (K : PySem.W.Frag) (H : Hp) : T → V → Prop
  | .node ts, x => ∃ a xs, x = .ref a ∧ SqT K H a xs ∧ TRs K H ts xs
def TRs (K : PySem.W.Frag) (H : Hp) : List T → List V → Prop
  | [], xs => xs = []
  | t :: ts, xs => ∃ x r, xs = x :: r ∧ TR K H t x ∧ TRs K H ts r
end
section
variable {K : PySem.W.Frag} {H H' : Hp}
theorem TR_node {ts : List T} {x : V} : TR K H (.node ts) x ↔ ∃ a xs, x = .ref a ∧ SqT K H a xs ∧ TRs K H ts xs := by rw [TR]
theorem TRs_nil {xs : List V} : TRs K H [] xs ↔ xs = [] := by rw [TRs]
theorem TRs_cons {t : T} {ts : List T} {xs : List V} : TRs K H (t :: ts) xs ↔ ∃ x r, xs = x :: r ∧ TR K H t x ∧ TRs K H ts r := by rw [TRs]
theorem TR_of {t : T} {x : V} (h : TR K H t x) : ∃ a xs, x = .ref a ∧ SqT K H a xs ∧ TRs K H t.kids xs := by
  cases t with
  | node ts => exact TR_node.mp h
theorem TR_mk {ts : List T} {a : Addr} {xs : List V} (h : SqT K H a xs) (q : TRs K H ts xs) : TR K H (.node ts) (.ref a) := TR_node.mpr ⟨a, xs, rfl, h, q⟩
mutual
theorem TR.mono (S : Kt H H') : ∀ {t : T} {x : V}, TR K H t x → TR K H' t x
  | .node ts, x, h => by
    obtain ⟨a, xs, e, h1, h2⟩ := TR_node.mp h
    exact TR_node.mpr ⟨a, xs, e, sqT_mono S h1, TRs.mono S h2⟩
theorem TRs.mono (S : Kt H H') : ∀ {ts : List T} {xs : List V}, TRs K H ts xs → TRs K H' ts xs
  | [], xs, h => by rw [TRs_nil] at h ⊢; exact h
  | t :: ts, xs, h => by
    obtain ⟨x, r, e, h1, h2⟩ := TRs_cons.mp h
    exact TRs_cons.mpr ⟨x, r, e, TR.mono S h1, TRs.mono S h2⟩
end
theorem TRs.length : ∀ {ts : List T} {xs : List V}, TRs K H ts xs → xs.length = ts.length
  | [], xs, h => by rw [TRs_nil] at h; rw [h]; rfl
  | t :: ts, xs, h => by
    obtain ⟨x, r, e, h1, h2⟩ := TRs_cons.mp h
    rw [e, List.length_cons, List.length_cons, TRs.length h2]
theorem TRs.append : ∀ {ts us : List T} {xs ys : List V}, TRs K H ts xs → TRs K H us ys → TRs K H (ts ++ us) (xs ++ ys)
  | [], us, xs, ys, h, g => by rw [TRs_nil] at h; rw [h]; exact g
  | t :: ts, us, xs, ys, h, g => by
    obtain ⟨x, r, e, h1, h2⟩ := TRs_cons.mp h
    rw [e]
    exact TRs_cons.mpr ⟨x, r ++ ys, rfl, h1, TRs.append h2 g⟩
theorem TRs.get : ∀ {ts : List T} {xs : List V}, TRs K H ts xs → ∀ {i : Nat} {x : V}, xs[i]? = some x → ∃ t, ts[i]? = some t ∧ TR K H t x
  | [], xs, h, i, x, e => by rw [TRs_nil] at h; rw [h] at e; simp at e
  | t :: ts, xs, h, i, x, e => by
    obtain ⟨y, r, rfl, h1, h2⟩ := TRs_cons.mp h
    cases i with
    | zero => exact ⟨t, rfl, by have e' : y = x := by simpa using e
                                rw [← e']; exact h1⟩
    | succ i => exact TRs.get h2 (i := i) (by simpa using e)
theorem TRs.take : ∀ (n : Nat) {ts : List T} {xs : List V}, TRs K H ts xs → TRs K H (ts.take n) (xs.take n)
  | 0, ts, xs, h => by rw [List.take_zero, List.take_zero, TRs_nil]
  | n + 1, [], xs, h => by rw [TRs_nil] at h; rw [h]; exact TRs_nil.mpr rfl
  | n + 1, t :: ts, xs, h => by
    obtain ⟨x, r, rfl, h1, h2⟩ := TRs_cons.mp h
    exact TRs_cons.mpr ⟨x, r.take n, rfl, h1, TRs.take n h2⟩
theorem TRs.drop : ∀ (n : Nat) {ts : List T} {xs : List V}, TRs K H ts xs → TRs K H (ts.drop n) (xs.drop n)
  | 0, ts, xs, h => h
  | n + 1, [], xs, h => by rw [TRs_nil] at h; rw [h]; exact TRs_nil.mpr rfl
  | n + 1, t :: ts, xs, h => by
    obtain ⟨x, r, rfl, h1, h2⟩ := TRs_cons.mp h
    exact TRs.drop n h2
theorem TRs.dropLast {ts : List T} {xs : List V} (h : TRs K H ts xs) : TRs K H ts.dropLast xs.dropLast := by
  rw [List.dropLast_eq_take, List.dropLast_eq_take, h.length]
  exact h.take _
end

section
variable {X : Cx} {pins : List (Addr × Obj)} {σ : Sg} {H : Hp} {s : Shared}
theorem tr_inj (I : Inv X pins σ H s) : ∀ (n : Nat), (∀ (t u : T) (x : V), t.parts ≤ n → TR X.K H t x → TR X.K H u x → t = u) ∧ (∀ (ts us : List T) (xs : List V), T.partsL ts ≤ n → TRs X.K H ts xs → TRs X.K H us xs → ts = us)
  | 0 => ⟨fun t u x h _ _ => absurd (T.parts_pos t) (by omega), fun ts us xs h q r => by
      have h1 := T.len_le_parts ts
      have h2 := q.length
      have h3 := r.length
      have e1 : ts = [] := List.length_eq_zero_iff.mp (by omega)
      have e2 : us = [] := List.length_eq_zero_iff.mp (by omega)
      rw [e1, e2]⟩
  | n + 1 => by
    have ih := tr_inj I n
    have A : ∀ (t u : T) (x : V), t.parts ≤ n + 1 → TR X.K H t x → TR X.K H u x → t = u := fun t u x h q r => by
      cases t with
      | node ts =>
        cases u with
        | node us =>
          obtain ⟨a, xs, e1, q1, q2⟩ := TR_node.mp q
          obtain ⟨b, ys, e2, r1, r2⟩ := TR_node.mp r
          rw [e1] at e2
          cases e2
          have := I.tuple_inj q1 r1
          subst this
          rw [T.parts_node] at h
          rw [ih.2 ts us xs (by omega) q2 r2]
    refine ⟨A, fun ts us xs h q r => ?_⟩
    cases ts with
    | nil =>
      rw [TRs_nil] at q
      subst q
      have := r.length
      exact (List.length_eq_zero_iff.mp (by simpa using this.symm)).symm
    | cons t ts =>
      obtain ⟨x, r', rfl, q1, q2⟩ := TRs_cons.mp q
      cases us with
      | nil => rw [TRs_nil] at r; cases r
      | cons u us =>
        obtain ⟨x2, r2', e, r1, r2⟩ := TRs_cons.mp r
        cases e
        rw [T.partsL_cons] at h
        have h1 := T.parts_pos t
        rw [A t u x (by omega) q1 r1, ih.2 ts us r' (by omega) q2 r2]

/-- the item's answers -/
def eqsAt (ts us : List T) (j : Nat) : Bool := match ts[j]?, us[j]? with
  | some t, some u => T.beq t u
  | _, _ => false
theorem beqL_range : ∀ ts us : List T, ((List.range (min ts.length us.length)).all (eqsAt ts us) && ts.length == us.length) = T.beqL ts us
  | [], [] => by simp [T.beqL]
  | [], u :: us => by simp [T.beqL]
  | t :: ts, [] => by simp [T.beqL]
  | t :: ts, u :: us => by
    have ih := beqL_range ts us
    have e : min (t :: ts).length (u :: us).length = min ts.length us.length + 1 := by simp only [List.length_cons]; omega
    rw [e, List.range_succ_eq_map, List.all_cons, List.all_map]
    have e2 : (eqsAt (t :: ts) (u :: us) ∘ Nat.succ) = eqsAt ts us := by
      funext j
      simp [eqsAt]
    have e3 : eqsAt (t :: ts) (u :: us) 0 = T.beq t u := rfl
    have e4 : ((t :: ts).length == (u :: us).length) = (ts.length == us.length) := by simp
    rw [e2, e3, e4, Bool.and_assoc, ih]
    rw [T.beqL]

theorem rc_tree (I : Inv X pins σ H s) : ∀ (n : Nat) (t u : T) (A : Around) (a b : Addr), t.deep ≤ n → TR X.K H t (.ref a) → TR X.K H u (.ref b) → A.units + n < cLine → SeqAt.RcAt A s (.ref a) (.ref b) (T.beq t u) := by
  intro n
  induction n with
  | zero =>
    intro t u A a b hd q r hu
    cases t with
    | node ts =>
      cases u with
      | node us =>
        obtain ⟨a', xs, e1, q1, q2⟩ := TR_node.mp q
        cases e1
        obtain ⟨b', ys, e2, r1, r2⟩ := TR_node.mp r
        cases e2
        rw [T.deep_node] at hd
        have hts : ts = [] := by
          cases ts with
          | nil => rfl
          | cons t ts => rw [T.deepL_cons] at hd; omega
        subst hts
        rw [TRs_nil] at q2
        subst q2
        obtain ⟨its, rv, ht, _⟩ := I.tuple q1
        obtain ⟨its2, rv2, ht2, _⟩ := I.tuple r1
        have h0 := rv.length
        have h2 := rv2.length
        have h3 := r2.length
        have key := SeqAt.RcAt.tuples (A := A) (e := fun _ => true) ht ht2 (by omega) (fun j j1 _ => absurd j1 (by rw [List.size_toArray, ← h0]; simp))
        have ev : ((List.range (min its.toArray.size its2.toArray.size)).all (fun _ => true) && its.toArray.size == its2.toArray.size) = T.beq (.node []) (.node us) := by
          rw [List.size_toArray, List.size_toArray, ← h0, ← h2, h3, T.beq, ← beqL_range]
          simp
        rw [ev] at key
        exact key
  | succ n ih =>
    intro t u A a b hd q r hu
    cases t with
    | node ts =>
      cases u with
      | node us =>
        obtain ⟨a', xs, e1, q1, q2⟩ := TR_node.mp q
        cases e1
        obtain ⟨b', ys, e2, r1, r2⟩ := TR_node.mp r
        cases e2
        rw [T.deep_node] at hd
        obtain ⟨its, rv, ht, _⟩ := I.tuple q1
        obtain ⟨its2, rv2, ht2, _⟩ := I.tuple r1
        have l1 := rv.length
        have l2 := rv2.length
        have l3 := q2.length
        have l4 := r2.length
        have key := SeqAt.RcAt.tuples (A := A) (e := eqsAt ts us) ht ht2 (by omega) (fun j j1 j2 => ?_)
        · have ev : ((List.range (min its.toArray.size its2.toArray.size)).all (eqsAt ts us) && its.toArray.size == its2.toArray.size) = T.beq (.node ts) (.node us) := by
            rw [List.size_toArray, List.size_toArray, ← l1, ← l2, l3, l4, T.beq, ← beqL_range]
          rw [ev] at key
          exact key
        · have j1' : j < xs.length := by rw [l1]; simpa using j1
          have j2' : j < ys.length := by rw [l2]; simpa using j2
          obtain ⟨u1, hu1, ru1⟩ := rv.get (List.getElem?_eq_getElem j1')
          obtain ⟨u2, hu2, ru2⟩ := rv2.get (List.getElem?_eq_getElem j2')
          obtain ⟨t1, ht1, tr1⟩ := q2.get (List.getElem?_eq_getElem j1')
          obtain ⟨t2, ht2', tr2⟩ := r2.get (List.getElem?_eq_getElem j2')
          have ee : eqsAt ts us j = T.beq t1 t2 := by unfold eqsAt; rw [ht1, ht2']
          have g1 : its.toArray[j] = u1 := by
            have : its[j]? = some u1 := hu1
            rw [List.getElem?_eq_some_iff] at this
            obtain ⟨_, e⟩ := this
            simpa using e
          have g2 : its2.toArray[j] = u2 := by
            have : its2[j]? = some u2 := hu2
            rw [List.getElem?_eq_some_iff] at this
            obtain ⟨_, e⟩ := this
            simpa using e
          rw [ee, g1, g2]
          obtain ⟨a1, zs1, e1, _⟩ := TR_of tr1
          obtain ⟨a2, zs2, e2, _⟩ := TR_of tr2
          rw [e1] at ru1 tr1
          rw [e2] at ru2 tr2
          obtain rfl : u1 = Value.ref a1 := ru1
          obtain rfl : u2 = Value.ref a2 := ru2
          by_cases hne : a1 = a2
          · subst hne
            have et : t1 = t2 := (tr_inj I t1.parts).1 t1 t2 _ (Nat.le_refl _) tr1 tr2
            rw [et, T.beq_self]
            exact SeqAt.EqAt.same _
          · have hd1 : t1.deep ≤ n := by
              have := T.mem_deep (List.mem_of_getElem? ht1)
              omega
            exact SeqAt.EqAt.of_refs hne (ih t1 t2 A.in1 a1 a2 hd1 tr1 tr2 (by rw [Around.in1_units]; omega))
end

section
variable {X : Cx}
/-- == of two trees -/
def rEqTr (K : PySem.W.Frag) (n : Nat) : R2 := fun x y H Q => ∃ t u, TR K H t x ∧ TR K H u y ∧ t.deep ≤ n ∧ Q (.bl (T.beq t u)) H
theorem op_eqTr {n : Nat} (hu : X.A.units + n < cLine) : OpR X (compareOp .Eq) (rEqTr X.K n) := by
  intro pins s σ H x y v u Q I rx ry h
  obtain ⟨t, t', h1, h2, hd, q⟩ := h
  obtain ⟨a, xs, e1, _⟩ := TR_of h1
  obtain ⟨b, ys, e2, _⟩ := TR_of h2
  subst e1 e2
  cases rx
  cases ry
  exact rc_tree I n t t' X.A a b hd h1 h2 hu _ _ _ _ ⟨.bl _, H, I, rfl, q⟩
end

/-! ### rules by the written part itself (inside a comprehension's block) -/
section
variable {X : Cx} {K : PySem.W.Frag}
theorem ix_listK (h : X.K = K) : IxR X (rIxL K) := by subst h; exact ix_list
theorem ix_tupK (h : X.K = K) : IxR X (rIxT K) := by subst h; exact ix_tup
theorem call_len_seqK (h : X.K = K) : CallR X (.builtin "len") (fun xs H Q => ∃ p ys, xs = [.ref p] ∧ (SqL K H p ys ∨ SqT K H p ys) ∧ Q (.int ys.length) H) := by subst h; exact call_len_seq
theorem sl_listK (h : X.K = K) : SlR X (rSlL K) := by subst h; exact sl_list
theorem sl_tupAK (h : X.K = K) : SlR X (rSlTA K) := by subst h; exact sl_tupA
end

/-! ### comprehensions in use -/
theorem sqL_new {K : PySem.W.Frag} {H : Hp} {a D : Addr} {xs : List V} {o : HO} (h : SqL K H a xs) (hD : H D = none) : SqL K (upd H D o) a xs := (same_new hD o).seq h
/-- over a list; each element's value y has Pr i y, the heap stays -/
theorem lc_list {K : PySem.W.Frag} {H : Hp} {a : Addr} {xs : List V} {σ : Sg} {js : List Nat} {te : TE} {Q : VK} (Pr : Nat → V → Prop) (hl : SqL K H a xs) (hz : xs.length ≤ sizeLine)
    (hte : ∀ (i : Nat) (x : V) (H' : Hp) (R : VK), xs[i]? = some x → Same H H' → (∀ y, Pr i y → R y H') → te (some x :: frv σ js) H' R)
    (q : ∀ (D : Addr) (ys : List V), H D = none → ys.length = xs.length → (∀ i y, ys[i]? = some y → Pr i y) → Q (.ref D) (upd H D (.lst ys))) :
    LcRun (Itl K a) js te σ Q H := by
  intro D hD
  refine ⟨fun i m ys H' => m = xs.length - i ∧ i ≤ xs.length ∧ ys.length = i ∧ (∀ j y, ys[j]? = some y → Pr j y) ∧ H' = upd H D (.lst ys), ⟨xs.length, by omega, Nat.zero_le _, rfl, fun j y e => by simp at e, rfl⟩, ?_⟩
  rintro i m ys H' ⟨rfl, hi, hly, hp, rfl⟩
  refine ⟨upd_same, ?_⟩
  have hl' := sqL_new (o := .lst ys) hl hD
  by_cases hlt : i < xs.length
  · refine .inr ⟨⟨xs, xs[i], hl', List.getElem?_eq_getElem hlt⟩, fun x H2 y => ?_⟩
    obtain ⟨e, y⟩ := y
    subst e
    refine hte i x _ _ (y xs hl') (same_new hD _) fun y py => ⟨upd_same, by omega, xs.length - (i + 1), by omega, rfl, by omega, by simp [hly], fun j z e => ?_, by rw [upd_upd]⟩
    by_cases hj : j < ys.length
    · rw [List.getElem?_append_left hj] at e
      exact hp j z e
    · rw [List.getElem?_append_right (by omega)] at e
      have : j - ys.length = 0 := by
        rcases Nat.eq_zero_or_pos (j - ys.length) with h | h
        · exact h
        · rw [List.getElem?_eq_none (by simp; omega)] at e; cases e
      rw [this] at e
      have e' : y = z := by simpa using e
      have ej : j = i := by omega
      rw [← e', ej]
      exact py
  · have ei : i = xs.length := by omega
    exact .inl ⟨⟨xs, hl', by omega⟩, q D ys hD (by omega) hp⟩
/-- over a range -/
theorem lc_range {H : Hp} {lo : Int} {n : Nat} {σ : Sg} {js : List Nat} {te : TE} {Q : VK} (Pr : Nat → V → Prop) (hz : n ≤ sizeLine)
    (hte : ∀ (i : Nat) (H' : Hp) (R : VK), i < n → Same H H' → (∀ y, Pr i y → R y H') → te (some (.int (lo + i)) :: frv σ js) H' R)
    (q : ∀ (D : Addr) (ys : List V), H D = none → ys.length = n → (∀ i y, ys[i]? = some y → Pr i y) → Q (.ref D) (upd H D (.lst ys))) :
    LcRun (Itr lo n) js te σ Q H := by
  intro D hD
  refine ⟨fun i m ys H' => m = n - i ∧ i ≤ n ∧ ys.length = i ∧ (∀ j y, ys[j]? = some y → Pr j y) ∧ H' = upd H D (.lst ys), ⟨n, by omega, Nat.zero_le _, rfl, fun j y e => by simp at e, rfl⟩, ?_⟩
  rintro i m ys H' ⟨rfl, hi, hly, hp, rfl⟩
  refine ⟨upd_same, ?_⟩
  by_cases hlt : i < n
  · refine .inr ⟨hlt, fun x H2 y => ?_⟩
    obtain ⟨e, y⟩ := y
    subst e
    subst y
    refine hte i _ _ hlt (same_new hD _) fun y py => ⟨upd_same, by omega, n - (i + 1), by omega, rfl, by omega, by simp [hly], fun j z e => ?_, by rw [upd_upd]⟩
    by_cases hj : j < ys.length
    · rw [List.getElem?_append_left hj] at e
      exact hp j z e
    · rw [List.getElem?_append_right (by omega)] at e
      have : j - ys.length = 0 := by
        rcases Nat.eq_zero_or_pos (j - ys.length) with h | h
        · exact h
        · rw [List.getElem?_eq_none (by simp; omega)] at e; cases e
      rw [this] at e
      have e' : y = z := by simpa using e
      have ej : j = i := by omega
      rw [← e', ej]
      exact py
  · exact .inl ⟨by show n ≤ i; omega, q D ys hD (by omega) hp⟩
end Sw

/-! ## reversed(t) of a tuple, and the list of it -/
namespace SwR
open PySem PySem.Spec PyProof.Rows L2 Sw
theorem sl_next : Slot "reversed" "__next__" "reversed.__next__" := .of (owner := "reversed") (n := "__next__") (by rw [typeLookup_type, builtinLookup_eq_fast]; kernel_rfl) (by decide +kernel) (by decide +kernel) (by decide +kernel) (by first | exact .inl (by decide +kernel) | exact .inr (by decide +kernel)) (by rw [isSubtype_type]; kernel_rfl)
theorem en_next : entryFor table "reversed.__next__" = some Builtin.«reversed.__next__» := entryFor_of_tree (by kernel_rfl)
theorem ar_next (a : Value) : argsOk "reversed.__next__" ⟨[a], []⟩ := by unfold argsOk; kernel_rfl
theorem sl_iter : Slot "reversed" "__iter__" "reversed.__iter__" := .of (owner := "reversed") (n := "__iter__") (by rw [typeLookup_type, builtinLookup_eq_fast]; kernel_rfl) (by decide +kernel) (by decide +kernel) (by decide +kernel) (by first | exact .inl (by decide +kernel) | exact .inr (by decide +kernel)) (by rw [isSubtype_type]; kernel_rfl)
theorem ar_iter (a : Value) : argsOk "reversed.__iter__" ⟨[a], []⟩ := by unfold argsOk; kernel_rfl
theorem en_iter : entryFor table "reversed.__iter__" = some Builtin.«dict_keyiterator.__iter__» := entryFor_alias (id' := "dict_keyiterator.__iter__") (by kernel_rfl) (by first | rfl | decide +kernel) (by decide +kernel) (by kernel_rfl)
theorem sl_hint : Slot "reversed" "__length_hint__" "reversed.__length_hint__" := .of (owner := "reversed") (n := "__length_hint__") (by rw [typeLookup_type, builtinLookup_eq_fast]; kernel_rfl) (by decide +kernel) (by decide +kernel) (by decide +kernel) (by first | exact .inl (by decide +kernel) | exact .inr (by decide +kernel)) (by rw [isSubtype_type]; kernel_rfl)
theorem en_hint : entryFor table "reversed.__length_hint__" = some Builtin.«reversed.__length_hint__» := entryFor_of_tree (by kernel_rfl)
theorem ar_hint (a : Value) : argsOk "reversed.__length_hint__" ⟨[a], []⟩ := by unfold argsOk; kernel_rfl
theorem no_len : typeLookup (.type "reversed") "__len__" = pure none := by rw [typeLookup_type, builtinLookup_eq_fast]; kernel_rfl
theorem sl_init : Slot "reversed" "__init__" "object.__init__" := .of (owner := "object") (n := "__init__") (by rw [typeLookup_type, builtinLookup_eq_fast]; kernel_rfl) (by decide +kernel) (by decide +kernel) (by decide +kernel) (by first | exact .inl (by decide +kernel) | exact .inr (by decide +kernel)) (by rw [isSubtype_type]; kernel_rfl)
theorem tup_norev : typeLookup (.type "tuple") "__reversed__" = pure none := by rw [typeLookup_type, builtinLookup_eq_fast]; kernel_rfl
theorem called_rev : TypeCalled "reversed" "reversed.__new__" "object.__init__" :=
  ⟨by decide +kernel, by decide +kernel, ⟨_, _, F.mro_reversed⟩, F.made_reversed, by decide +kernel, by rw [isSubtype_type]; kernel_rfl, sl_init⟩

/-- reversed's own object over the tuple at a, standing at i -/
def RvO (h : Heap) (p a : Addr) (i : Int) : Prop := ∃ o, h.get? p = some o ∧ o.cls = .type "reversed" ∧ o.data = .fields #[.ref a, rawInt i]
theorem RvO.typeIs {s : Shared} {p a : Addr} {i : Int} (x : RvO s.heap p a i) : s.TypeIs (.ref p) "reversed" := let ⟨o, ho, hc, _⟩ := x; ⟨o, ho, hc⟩

section
variable {prog : Program} {w : World} {A : Around} {E : Value → Shared → Prop} {s : Shared}
theorem next_item {it a : Addr} {i : Nat} {items : Array Value} {x : Value} {Q : Option Value → Shared → Prop} (hit : RvO s.heap it a (i : Int)) (ht : IsTup s.heap a items) (hx : items[i]? = some x) (hz : items.size ≤ sizeLine) (hne : a ≠ it)
    (hQ : ∀ h' tk, RvO h' it a ((i : Int) - 1) → Heap.SameBut it s.heap h' → Q (some x) { s with heap := h', toks := tk }) : wpAny (model prog w) A (pyNext (.ref it)) Q E s := by
  obtain ⟨o, ho, hc, hd⟩ := id hit
  unfold pyNext
  refine wpAny_bind (wpAny_attempt (wpAny_callSpecial?_slot (name := Str.ofString "__next__") hit.typeIs sl_next (wpAny_call_entry sl_next hit.typeIs en_next ?_ (ar_next _))))
  unfold Builtin.«reversed.__next__»
  refine wpAny_bind (wpAny_of_eq (a := (Value.ref it, [])) rfl ?_)
  dsimp only
  refine wpAny_bind (wpAny_field ho hd (x := .ref a) rfl ?_)
  refine wpAny_bind (wpAny_field ho hd (x := rawInt (i : Int)) rfl ?_)
  show wpAny _ _ (if (i : Int) < 0 then _ else _) _ _ s
  rw [if_neg (by omega)]
  refine wpAny_bind (wpAny_specialOf ht.typeIs PyProof.Rows.slot_tuple_getitem.lookup ?_)
  rw [if_neg (by decide)]
  have hi : i < items.size := (Array.getElem?_eq_some_iff.mp hx).1
  have hl : sizeLine = 16777216 := sizeLine_eq
  refine wpAny_bind (wpAny_mkInt ?_)
  refine wpAny_bind (wpAny_attempt (getItem_tuple (j := i) ht (by omega) (by omega) (by rw [seqIndex_of (by omega) (by omega)]; rfl) hx ?_))
  dsimp only
  refine wpAny_bind (wpAny_field ho hd (x := rawInt (i : Int)) rfl ?_)
  refine wpAny_bind (wpAny_setField ho hd (by simp) ?_)
  refine wpAny_pure ⟨x, rfl, wpAny_pure (hQ _ _ ?_ (Heap.SameBut.update ..))⟩
  exact ⟨_, Heap.get?_update_self _ ho (Obj.isFreed_of_fields (Obj.data_mapFields hd _)), (Obj.cls_mapFields ..).trans hc, by rw [Obj.data_mapFields hd]; simp⟩

theorem next_end {it a : Addr} {Q : Option Value → Shared → Prop} (hh : A.handled = none) (hit : RvO s.heap it a (-1))
    (hQ : ∀ h', Heap.ExtBut it s.heap h' → Q none { s with heap := h' }) : wpAny (model prog w) A (pyNext (.ref it)) Q E s := by
  obtain ⟨o, ho, hc, hd⟩ := id hit
  unfold pyNext
  refine wpAny_bind (wpAny_attempt (wpAny_callSpecial?_slot (name := Str.ofString "__next__") hit.typeIs sl_next (wpAny_call_entry sl_next hit.typeIs en_next ?_ (ar_next _))))
  unfold Builtin.«reversed.__next__»
  refine wpAny_bind (wpAny_of_eq (a := (Value.ref it, [])) rfl ?_)
  dsimp only
  refine wpAny_bind (wpAny_field ho hd (x := .ref a) rfl ?_)
  refine wpAny_bind (wpAny_field ho hd (x := rawInt (-1)) rfl ?_)
  show wpAny _ _ (if (-1 : Int) < 0 then _ else _) _ _ s
  rw [if_pos (by decide)]
  refine wpAny_bind (wpAny_rule ?_)
  have e1 := Heap.get?_update_self (Obj.mapFields fun vs => vs.setIfInBounds 1 (rawInt (-1))) ho (Obj.isFreed_of_fields (Obj.data_mapFields hd _))
  refine wpAny_bind (wpAny_bind (wpAny_setField ho hd (by simp) ?_))
  refine wpAny_setField e1 (Obj.data_mapFields hd _) (by simp) ?_
  refine wpAny_bind ?_
  unfold Builtin.SmallTypes.stopIteration
  refine wpAny_bind ?_
  simp only [newExc, newTuple]
  refine wpAny_bind (wpAny_newObj_type ?_ (by size_fits)); refine wpAny_bind (m := firstArgMember _ _) (wpAny_of_eq (a := Value.none) (by first | rfl | (simp only [firstArgMember]; rfl)) ?_); refine wpAny_newObj_type ?_ (by size_fits)
  simp only [raiseNew]; refine wpAny_bind (wpAny_handled ?_)
  first | rw [show A.in1.handled = none from hh] | rw [hh]
  refine wpAny_bind (wpAny_pure (wpAny_throw ?_)); refine wpAny_bind (wpAny_isInstance (T := "StopIteration") (b := true) ⟨_, Heap.get?_push_size _ rfl, rfl⟩ isSubtype_stop (wpAny_pure (hQ _ ?_)))
  intro b ob hb e
  refine Heap.get?_push_of_some _ (Heap.get?_push_of_some _ ?_)
  exact (Heap.get?_update_other _ _ (Ne.symm hb)).trans ((Heap.get?_update_other _ _ (Ne.symm hb)).trans e)

theorem iter_self {it a : Addr} {i : Int} {Q : Value → Shared → Prop} (hit : RvO s.heap it a i) (h : Q (.ref it) s) : wpAny (model prog w) A (pyIter (.ref it)) Q E s := by
  refine wpAny_pyIter_slot hit.typeIs sl_iter (wpAny_call_entry sl_iter hit.typeIs en_iter ?_ (ar_iter _))
  show wpAny _ _ (ret (.ref it)) _ _ s
  exact wpAny_pure ⟨_, rfl, "reversed", _, hit.typeIs, sl_next.lookup, h⟩
theorem RvO.keep {h h' : Heap} {p a : Addr} {i : Int} (x : RvO h p a i) (e : ∀ o, h.get? p = some o → h'.get? p = some o) : RvO h' p a i := let ⟨o, ho, r⟩ := x; ⟨o, e _ ho, r⟩
theorem tup_keep {h h' : Heap} {a : Addr} {items : Array Value} (x : IsTup h a items) (e : ∀ o, h.get? a = some o → h'.get? a = some o) : IsTup h' a items := let ⟨o, ho, r⟩ := x; ⟨o, e _ ho, r⟩
end

theorem walks_rev {prog : Program} {w : World} {A : Around} (hh : A.handled = none) (I a : Addr) (hne : a ≠ I) (items : Array Value) (hz : items.size ≤ sizeLine) :
    Walks prog w A I [I, a] [I] items.size (fun i v => items[items.size - 1 - i]? = some v) (fun i h => i ≤ items.size ∧ RvO h I a ((items.size : Int) - 1 - (i : Int)) ∧ IsTup h a items) where
  sub := fun b hb => by simp at hb; simp [hb]
  frame := fun _ _ _ x hk => ⟨x.1, x.2.1.keep fun o e => hk I (by simp) o e, tup_keep x.2.2 fun o e => hk a (by simp) o e⟩
  item := fun i s Q E hi x hQ => by
    obtain ⟨_, hit, ht⟩ := x
    have e : (items.size : Int) - 1 - (i : Int) = ((items.size - 1 - i : Nat) : Int) := by omega
    rw [e] at hit
    have hx : items[items.size - 1 - i]? = some (items[items.size - 1 - i]'(by omega)) := Array.getElem?_eq_getElem (by omega)
    refine next_item hit ht hx hz hne fun h' tk hit' hs' => hQ _ h' tk hx ⟨by omega, ?_, tup_keep ht fun o eo => (hs'.2 a hne).trans eo⟩ fun b o hb eo => hs'.extBut b o (fun z => hb (by simp [z])) eo
    have e2 : ((items.size - 1 - i : Nat) : Int) - 1 = (items.size : Int) - 1 - ((i + 1 : Nat) : Int) := by omega
    rw [← e2]
    exact hit'
  done := fun s Q E x hQ => by
    obtain ⟨_, hit, ht⟩ := x
    have e : (items.size : Int) - 1 - (items.size : Int) = -1 := by omega
    rw [e] at hit
    exact next_end hh hit fun h' he' => hQ h' s.toks fun b o hb eo => he' b o (fun z => hb (by simp [z])) eo
  self := fun _ _ _ _ x hQ => iter_self x.2.1 hQ

section
variable {prog : Program} {w : World} {A : Around} {E : Value → Shared → Prop} {s : Shared}
theorem asInt_int (k : Int) (u : Tok) : asInt? (.int k u) = pure (some k) := rfl
/-- its length hint -/
theorem call_hint {it a : Addr} {items : Array Value} {Q : Value → Shared → Prop} (hit : RvO s.heap it a ((items.size : Int) - 1)) (ht : IsTup s.heap a items) (hz : items.size ≤ sizeLine)
    (hQ : ∀ t tk, s.toks ≤ tk → Q (.int (items.size : Int) t) { s with toks := tk }) : wpAny (model prog w) A (call (.builtin "reversed.__length_hint__") [.ref it]) Q E s := by
  obtain ⟨o, ho, hc, hd⟩ := id hit
  have hl : sizeLine = 16777216 := sizeLine_eq
  refine wpAny_call_entry sl_hint hit.typeIs en_hint ?_ (ar_hint _)
  unfold Builtin.«reversed.__length_hint__»
  refine wpAny_bind (wpAny_of_eq (a := Value.ref it) rfl ?_)
  refine wpAny_bind (wpAny_field ho hd (x := .ref a) rfl ?_)
  rw [if_neg (show ¬ ((Value.ref a == Value.none) = true) from Bool.false_ne_true)]
  refine wpAny_bind (len_tuple ht (by omega) ?_)
  refine wpAny_bind (m := asInt? (.int (items.size : Int) (s.toks + 1))) (wpAny_pure ?_)
  dsimp only
  refine wpAny_bind (wpAny_field ho hd (x := rawInt ((items.size : Int) - 1)) rfl ?_)
  show wpAny _ _ (if (items.size : Int) < ((items.size : Int) - 1) + 1 then _ else retInt (((items.size : Int) - 1) + 1)) _ _ _
  rw [if_neg (by omega), show ((items.size : Int) - 1) + 1 = (items.size : Int) by omega]
  unfold retInt
  refine wpAny_bind (wpAny_mkInt (wpAny_pure ⟨_, rfl, hQ _ _ ?_⟩))
  show s.toks ≤ s.toks + 1 + 1 + 1
  omega

theorem rev_extend {it a S : Addr} {items : Array Value} {c₀ : Nat} {R : Result → Shared → Prop} (hh : A.handled = none) (hit : RvO s.heap it a ((items.size : Int) - 1)) (ht : IsTup s.heap a items) (hz : items.size ≤ sizeLine)
    (hai : a ≠ it) (hSi : S ≠ it) (hSa : S ≠ a) (hS : s.heap.get? S = some { cls := .type "list", data := .seq #[] c₀ })
    (hR : ∀ h' tk acc' c', (∀ b o, b ≠ S → b ≠ it → s.heap.get? b = some o → h'.get? b = some o) → h'.get? S = some { cls := .type "list", dict := none, data := .seq acc' c', slots := #[] } →
      ItemsOf (fun i v => items[items.size - 1 - i]? = some v) acc' items.size → R (.ok (.ret .none)) { s with heap := h', toks := tk }) :
    wpAny (model prog w) A.in1 (Builtin.List.listExtendWith (.ref S) (.ref it) .none)
      (fun fin s' => match fin with | .done f => R (.ok f) s' | .again c' => c'.quiet = true ∧ codeAny (model prog w) A c' R s') (fun e s' => R (.error e) s') s := by
  have hl : sizeLine = 16777216 := sizeLine_eq
  have h1 : Builtin.List.listSameRef (.ref S) (.ref it) = false := by simp [Builtin.List.listSameRef, hSi]
  unfold Builtin.List.listExtendWith
  refine wpAny_bind (wpAny_typeOf hit.typeIs ?_)
  rw [if_neg (by rw [h1]; decide)]
  refine wpAny_bind (iter_self hit ?_)
  refine wpAny_bind (wpAny_holding ?_)
  unfold Builtin.List.listLengthHint
  refine wpAny_bind (wpAny_specialOf hit.typeIs no_len ?_)
  show wpAny _ A.in1 (specialOf (Value.ref it) (Str.ofString "__length_hint__") >>= _) _ _ _
  refine wpAny_bind (wpAny_specialOf hit.typeIs sl_hint.lookup ?_)
  (generalize hid : ("reversed.__length_hint__" : String) = id0; (fail_if_success (clear hid id0)); wp_delta; rw [show splitId id0 = some ("reversed", "__length_hint__") from by subst hid; decide +kernel]; subst hid)
  refine wpAny_bind (wpAny_isInstance (b := true) hit.typeIs (by rw [isSubtype_type]; kernel_rfl) ?_)
  rw [if_neg (by decide)]
  dsimp only
  rw [if_neg (by decide)]
  refine wpAny_bind (wpAny_rule ?_)
  refine wpAny_bind (wpAny_of_eq (sl_hint.bind _) ?_)
  dsimp only
  refine wpAny_bind (wpAny_attempt (call_hint hit ht hz fun t tk htk => ?_))
  dsimp only
  rw [asInt_int, pure_bind]
  dsimp only
  have hf : Builtin.List.listFitsIndex (items.size : Int) = true := by
    unfold Builtin.List.listFitsIndex
    simp only [Bool.and_eq_true, decide_eq_true_eq]
    omega
  have htl : Builtin.List.listTooLong (Int.toNat (items.size : Int)) = false := by
    rw [Int.toNat_natCast]
    exact notLongL hz
  rw [if_neg (by rw [hf]; decide), if_neg (by omega), if_neg (by rw [htl]; decide)]
  refine wpAny_pure ?_
  have hSf : S ∉ [it, a] := by simp [hSi, hSa]
  have W := walks_rev (prog := prog) (w := w) (A := A.in1) hh it a hai items hz
  -- the loop, wherever it starts
  have loop : ∀ (s2 : Shared) (c₂ : Nat), (∀ b o, b ≠ S → s.heap.get? b = some o → s2.heap.get? b = some o) → s2.heap.get? S = some { cls := .type "list", data := .seq #[] c₂ } → s2.gens = s.gens → s2.drawn = s.drawn → s2.os = s.os →
      codeAny (model prog w) A (.builtin "list.extend.loop" ⟨[.ref S, .ref it, .none], []⟩) R s2 := fun s2 c₂ hk hS2 g1 g2 g3 => by
    have st : 0 ≤ items.size ∧ RvO s2.heap it a ((items.size : Int) - 1 - ((0 : Nat) : Int)) ∧ IsTup s2.heap a items := by
      refine ⟨Nat.zero_le _, ?_, tup_keep ht fun o e => hk a o (Ne.symm hSa) e⟩
      have : (items.size : Int) - 1 - ((0 : Nat) : Int) = (items.size : Int) - 1 := by omega
      rw [this]
      exact hit.keep fun o e => hk it o (Ne.symm hSi) e
    refine codeAny_extend_loopS W.toS hz S hSf .none items.size 0 s2 #[] c₂ rfl (Nat.zero_le _) st hS2 (ItemsOf.nil _) fun s' acc' c' hm hS' hacc => ?_
    have hs' := Moved.eq_with hm
    rw [g1, g2, g3] at hs'
    rw [hs']
    exact hR s'.heap s'.toks acc' c' (fun b o hbS hbi e => hm.heap b o (by simp [hbS, hbi]) (hk b o hbS e)) hS' hacc
  split
  · refine wpAny_bind (wpAny_rule ?_)
    unfold Builtin.List.listTouch
    have e1 := Heap.get?_update_self (Obj.mapSeq (·.push Value.none)) hS rfl
    have e2 := Heap.get?_update_self (Obj.mapSeq (·.pop)) e1 rfl
    refine wpAny_bind (wpAny_bind (m := Builtin.List.listUpdate (.ref S) (·.push Value.none)) (wpAny_updateSeq hS rfl ?_ (hz := Nat.zero_le _) (_hz' := Nat.succ_le_succ (Nat.zero_le _))))
    refine wpAny_updateSeq e1 rfl ?_ (hz := (by show 1 ≤ sizeLine; decide)) (_hz' := Nat.zero_le _)
    refine wpAny_pure ⟨plainId_quiet F.plain_extend_loop _, loop _ _ (fun b o hb e => ?_) (by simpa [Obj.mapSeq] using e2) rfl rfl rfl⟩
    exact (Heap.get?_update_other _ _ (Ne.symm hb)).trans ((Heap.get?_update_other _ _ (Ne.symm hb)).trans e)
  · exact wpAny_pure ⟨plainId_quiet F.plain_extend_loop _, loop _ c₀ (fun b o _ e => e) hS rfl rfl rfl⟩

theorem call_list_rev {it a : Addr} {items : Array Value} {Q : Value → Shared → Prop} (hh : A.handled = none) (hit : RvO s.heap it a ((items.size : Int) - 1)) (ht : IsTup s.heap a items) (hz : items.size ≤ sizeLine) (hai : a ≠ it)
    (hQ : ∀ h' tk acc' c', (∀ b o, b ≠ it → s.heap.get? b = some o → h'.get? b = some o) → h'.get? s.heap.objs.size = some { cls := .type "list", dict := none, data := .seq acc' c', slots := #[] } →
      acc'.toList = items.toList.reverse → Q (.ref s.heap.objs.size) { s with heap := h', toks := tk }) : wpAny (model prog w) A (call (.type "list") [.ref it]) Q E s := by
  have lit : it < s.heap.objs.size := let ⟨_, ho, _⟩ := hit; Heap.lt_size ho
  have la : a < s.heap.objs.size := let ⟨_, ho, _⟩ := ht; Heap.lt_size ho
  refine callType_codes (Q₁ := fun obj s₁ => obj = .ref s.heap.objs.size ∧ s₁ = { s with heap := s.heap.push { cls := .type "list", data := .seq #[] } }) F.called_list (F.typeCall_list_1 _) F.entry_list_init (code_list_new _ ⟨rfl, rfl⟩) fun obj s1 h1 => ?_
  obtain ⟨e1, e2⟩ := h1
  subst e1 e2
  have hS : (s.heap.push { cls := .type "list", data := .seq #[] }).get? s.heap.objs.size = some { cls := .type "list", data := .seq #[] } := Heap.get?_push_size _ rfl
  refine ⟨⟨_, hS, rfl⟩, F.args_list_init_2 _ _, ?_⟩
  show wpAny _ _ (Builtin.List.listItems (.ref s.heap.objs.size) >>= fun old => Builtin.List.listUpdate (.ref s.heap.objs.size) (fun _ => #[]) >>= fun _ => letGo old.toList.reverse >>= fun _ => Builtin.List.listExtendWith (.ref s.heap.objs.size) (.ref it) .none) _ _ _
  refine wpAny_bind ?_
  unfold Builtin.List.listItems
  refine wpAny_bind (wpAny_seqItems hS rfl (wpAny_pure ?_))
  refine wpAny_bind (m := Builtin.List.listUpdate (.ref s.heap.objs.size) (fun _ => #[])) (wpAny_updateSeq hS rfl ?_)
  have hS2 := Heap.get?_update_self (Obj.mapSeq (fun _ => (#[] : Array Value))) hS rfl
  have oth : ∀ b o, b ≠ s.heap.objs.size → s.heap.get? b = some o → ((s.heap.push { cls := .type "list", data := .seq #[] }).update s.heap.objs.size (Obj.mapSeq (fun _ => (#[] : Array Value)))).get? b = some o :=
    fun b o hb e => (Heap.get?_update_other _ _ (Ne.symm hb)).trans (Heap.get?_push_of_some _ e)
  refine wpAny_bind (wpAny_letGo ?_)
  refine rev_extend (A := A.in1) hh (hit.keep fun o e => oth it o (Nat.ne_of_lt lit) e) (tup_keep ht fun o e => oth a o (Nat.ne_of_lt la) e) hz hai (Nat.ne_of_gt lit) (Nat.ne_of_gt la) hS2 fun h' tk acc' c' hk hS' hacc => ?_
  refine ⟨rfl, hQ h' tk acc' c' (fun b o hb e => hk b o (Nat.ne_of_lt (Heap.lt_size e)) hb (oth b o (Nat.ne_of_lt (Heap.lt_size e)) e)) hS' ?_⟩
  obtain ⟨hsz, hat⟩ := hacc
  refine List.ext_getElem? fun i => ?_
  by_cases hi : i < items.size
  · have h1 := hat i (acc'[i]'(by omega)) (Array.getElem?_eq_getElem (by omega))
    rw [List.getElem?_reverse (by rw [Array.length_toList]; exact hi), Array.length_toList, Array.getElem?_toList, Array.getElem?_toList, h1, Array.getElem?_eq_getElem (by omega)]
  · rw [List.getElem?_eq_none (by rw [Array.length_toList]; omega), List.getElem?_eq_none (by rw [List.length_reverse, Array.length_toList]; omega)]
end

section
variable {prog : Program} {w : World} {A : Around} {E : Value → Shared → Prop} {s : Shared}
theorem rev_new_meets (a : Addr) (items : Array Value) (n : Nat) (dd : Option Addr) (sl : Array (Option Value)) (hz : items.size ≤ sizeLine) :
    Meets (Builtin.«reversed.__new__» ⟨[.type "reversed", .ref a], []⟩) (fun _ R s => s.heap.get? a = some { cls := .type "tuple", dict := dd, data := .seq items n, slots := sl } ∧
      ∀ tk, R (.ok (.ret (.ref s.heap.objs.size))) { s with heap := s.heap.push { cls := .type "reversed", data := .fields #[.ref a, rawInt ((items.size : Int) - 1)] }, toks := tk }) :=
  .of_wp fun prog w A R s h => by
    obtain ⟨ht, h⟩ := h
    have hl : sizeLine = 16777216 := sizeLine_eq
    have hT : s.TypeIs (.ref a) "tuple" := ⟨_, ht, rfl⟩
    have hI : IsTup s.heap a items := ⟨_, ht, rfl, n, rfl⟩
    unfold Builtin.«reversed.__new__»
    refine wpAny_bind (wpAny_of_eq (newClass_reversed _) ?_)
    dsimp only
    refine wpAny_bind (wpAny_of_eq (a := ()) (by first | rfl | kernel_rfl) ?_); refine wpAny_bind (wpAny_of_eq (a := ()) (by first | rfl | kernel_rfl) ?_)
    refine wpAny_bind (wpAny_specialOf hT tup_norev ?_)
    dsimp only
    refine wpAny_bind ?_
    refine wpAny_bind (wpAny_isInstance (b := false) hT (by rw [isSubtype_type]; kernel_rfl) ?_)
    rw [if_neg (by decide)]
    refine wpAny_bind (wpAny_specialOf hT PyProof.Rows.slot_tuple_getitem.lookup ?_)
    dsimp only
    rw [if_pos (by decide)]
    refine wpAny_pure ?_
    rw [if_neg (by decide)]
    refine wpAny_bind (len_tuple hI (by omega) ?_)
    rw [asInt_int, pure_bind]
    dsimp only
    show wpAny _ _ (newObj (.type "reversed") (.fields #[.ref a, rawInt ((items.size : Int) - 1)]) >>= _) _ _ _
    refine wpAny_bind (wpAny_newObj_type ?_)
    exact wpAny_pure ⟨_, rfl, h _⟩
theorem call_rev {a : Addr} {items : Array Value} {Q : Value → Shared → Prop} (ht : IsTup s.heap a items) (hz : items.size ≤ sizeLine)
    (h : ∀ tk, Q (.ref s.heap.objs.size) { s with heap := s.heap.push { cls := .type "reversed", data := .fields #[.ref a, rawInt ((items.size : Int) - 1)] }, toks := tk }) : wpAny (model prog w) A (call (.type "reversed") [.ref a]) Q E s := by
  obtain ⟨⟨c, d, dt, sl⟩, ho, hc, n, hd⟩ := id ht
  simp only at hc hd
  subst hc hd
  refine callType_new called_rev (by decide) (F.typeCall_reversed_1 _) (F.newCall_reversed_1 _) (fun obj => F.args_object_init_2 obj _) F.entry_reversed_new (rev_new_meets a items n d sl hz) ⟨ho, fun tk => ?_⟩
  exact ⟨⟨_, Heap.get?_push_size _ rfl, rfl⟩, h tk⟩
end

theorem bt_reversed : bootBuiltins "reversed" = some (.type "reversed") := by decide +kernel
theorem bt_list' : bootBuiltins "list" = some (.type "list") := by decide +kernel
/-- list(reversed(e)), e a tuple -/
def tLR (K : PySem.W.Frag) (te : TE) : TE := fun σ H Q => te σ H fun x H1 => ∃ a ys, x = .ref a ∧ SqT K H1 a ys ∧ ∀ l, H1 l = none → Q (.ref l) (upd H1 l (.lst ys.reverse))
theorem pe_listRev {X : Cx} {e : Expr} {te : TE} {p1 p2 pos pos2 : Pos} (hgl : Gl X "list") (hgr : Gl X "reversed") (ml : X.mg "list" = none) (mr : X.mg "reversed" = none) (hc : X.calm = true) (he : PE X e te)
    (hs1 : starEach [.Call (.Name "reversed" p2) [e] [] pos2] X.env = [(false, eval (.Call (.Name "reversed" p2) [e] [] pos2) X.env)] := by rfl) (hs2 : starEach [e] X.env = [(false, eval e X.env)] := by rfl) :
    PE X (.Call (.Name "list" p1) [.Call (.Name "reversed" p2) [e] [] pos2] [] pos) (tLR X.K te) := by
  intro pins s σ H Q I h
  refine wpAny_Call_Name_kw (ld_blt I hgl ml bt_list' ?_)
  refine PyProof.Rows.callWith_type1 ?_ (by rw [hs1]; rfl) (by rfl)
  rw [hs1]
  refine Calls.spliced_cons ?_
  refine wpAny_Call_Name_kw (ld_blt I hgr mr bt_reversed ?_)
  refine PyProof.Rows.callWith_type1 ?_ (by rw [hs2]; rfl) (by rfl)
  rw [hs2]
  refine Calls.spliced_cons (thn (he pins s σ H _ I h) fun v s1 ⟨x, H1, I1, r1, q1⟩ => Calls.spliced_nil ?_)
  obtain ⟨a, ys, e1, hq, q⟩ := q1
  subst e1
  cases r1
  obtain ⟨its, rv, ht, hz⟩ := I1.tuple hq
  have hlen := rv.length
  have hz' : its.toArray.size ≤ sizeLine := by rw [List.size_toArray]; omega
  refine call_rev ht hz' fun tk => Calls.spliced_nil ?_
  generalize hs2' : ({ s1 with heap := s1.heap.push { cls := .type "reversed", data := .fields #[.ref a, rawInt ((its.toArray.size : Int) - 1)] }, toks := tk } : Shared) = s2
  have I2 : Inv X pins σ H1 s2 := by rw [← hs2']; exact I1.kept fun b o e => Heap.get?_push_of_some _ e
  have la : a < s1.heap.objs.size := let ⟨_, ho, _⟩ := ht; Heap.lt_size ho
  have sz2 : s2.heap.objs.size = s1.heap.objs.size + 1 := by rw [← hs2']; exact Heap.size_push ..
  have hit : RvO s2.heap s1.heap.objs.size a ((its.toArray.size : Int) - 1) := by rw [← hs2']; exact ⟨_, Heap.get?_push_size _ rfl, rfl, rfl⟩
  have ht2 : IsTup s2.heap a its.toArray := by rw [← hs2']; exact ht.push _
  have fp : FpOk X pins H1 s1.heap.objs.size := I1.fpOk (Nat.le_refl _) (I1.hok.fresh (Nat.le_refl _))
  refine call_list_rev (I2.ok.hd hc) hit ht2 hz' (Nat.ne_of_lt la) fun h' tk' acc' c' hk hS' hacc => ?_
  have hfree : H1 s2.heap.objs.size = none := I2.hok.fresh (Nat.le_refl _)
  have hp0 : H1 s1.heap.objs.size = none := fp.1
  have oks : ObjOk X.prog X.w (upd H1 s2.heap.objs.size (.lst ys.reverse)) h' s2.heap.objs.size (.lst ys.reverse) := by
    refine ⟨by rw [List.length_reverse]; exact hz, its.reverse, c', rv.reverse, ?_⟩
    rw [hS', show acc' = its.reverse.toArray from Array.toList_inj.mp (by simpa using hacc)]
  have nS : ∀ b o, s2.heap.get? b = some o → b ≠ s2.heap.objs.size := fun b o e => Nat.ne_of_lt (Heap.lt_size e)
  have np : ∀ b u, H1 b = some u → b ≠ s1.heap.objs.size := fun b u e => ne_of_none e hp0
  have nh : ∀ b u, H1 b = some u → upd H1 s2.heap.objs.size (.lst ys.reverse) b = some u := fun b u e => by rw [upd_ne (ne_of_none e hfree)]; exact e
  have hok : HOk X.prog X.w (upd H1 s2.heap.objs.size (.lst ys.reverse)) h' := fun b u e => by
    by_cases hb : b = s2.heap.objs.size
    · subst hb
      rw [upd_same] at e
      cases e
      exact oks
    · rw [upd_ne hb] at e
      refine (I2.hok b u e).stay (fun c v hc' q' => hk c v ?_ q') (fun x q' => nh _ _ q') fun c v q' => nh _ _ q'
      rcases hc' with z | z
      · rw [z]; exact np b u e
      · exact np c _ z
  have I3 : Inv X pins σ (upd H1 s2.heap.objs.size (.lst ys.reverse)) { s2 with heap := h', toks := tk' } := by
    refine I2.step (g' := s2.gens) (d' := s2.drawn) (t' := tk') (ch := [s1.heap.objs.size]) (fun b hb => ?_) (fun b o _ _ hb e _ => hk b o (fun z => hb (by simp [z])) e) (fun b o _ _ hb e _ => ⟨o.slots, hk b o (fun z => hb (by simp [z])) e⟩)
      (fun b o _ e n => by rw [upd_ne (nS b o e)]; exact n) (fun b o hb e => ⟨o, hk b o (fun z => hb (by simp [z])) e⟩) (fun b xs e => nh _ _ e) (fun b o u e => nh _ _ e) (fun b ps e => ⟨#[], by rw [nh _ _ e]; simp⟩) (fun m hm => ?_) hok I2.bare
    · have e : b = s1.heap.objs.size := by simpa using hb
      subst e
      exact ⟨fp.2.2.2.1, fp.2.1, fp.2.2.2.2.1, fp.2.2.2.2.2⟩
    · obtain ⟨o, es, ep, ho, r⟩ := hm
      exact ⟨o, es, ep, hk _ o (Ne.symm fp.2.1) ho, r⟩
  exact ⟨.ref s2.heap.objs.size, _, I3, rfl, q _ hfree⟩
end SwR

/-! ## texts by their codes -/
namespace Sw
open PySem PySem.Spec PyProof.Rows L2
/-- the text of these codes -/
def tx (l : List Nat) : Str := ⟨l.toArray⟩
theorem tx_append (a b : List Nat) : tx a ++ tx b = tx (a ++ b) := by
  show Str.mk (a.toArray ++ b.toArray) = Str.mk (a ++ b).toArray
  simp
theorem tx_len (a : List Nat) : (tx a).length = a.length := rfl
theorem tx_inj {a b : List Nat} : tx a = tx b ↔ a = b := by
  constructor
  · intro h
    have h1 : a.toArray = b.toArray := congrArg Str.cps h
    simpa using congrArg Array.toList h1
  · intro h
    rw [h]
theorem tx_lp : Str.ofString "(" = tx [40] := by decide +kernel
theorem tx_rp : Str.ofString ")" = tx [41] := by decide +kernel
theorem tx_nil : Str.ofString "" = tx [] := by decide +kernel
theorem tx_leaf : Str.ofString "()" = tx [40, 41] := by decide +kernel
theorem tx_cps (a : List Nat) : (tx a).cps = a.toArray := rfl
theorem dec_tx (a b : List Nat) : decide (V.str (tx a) = V.str (tx b)) = decide (a = b) := by
  by_cases h : a = b
  · subst h; simp
  · rw [decide_eq_false h, decide_eq_false]
    intro e
    exact h (tx_inj.mp (V.str.inj e))

theorem strsAre_of : ∀ {ss : List Str} {us : List Value}, Vals (ss.map V.str) us → StrsAre us ss
  | [], us, r => by rw [List.map_nil] at r; cases r; exact .nil
  | z :: ss, us, r => by
    rw [List.map_cons] at r
    cases r with
    | cons r1 r2 =>
      obtain ⟨t, rfl⟩ := r1
      exact .cons z t (strsAre_of r2)
theorem join_tx (ls : List (List Nat)) : Txt.join (tx []) (ls.map tx) = tx ls.flatten := by
  have key : ∀ (ls : List (List Nat)) (acc : List Nat), (ls.map tx).foldl (fun acc p => acc ++ (tx []).cps ++ p.cps) acc.toArray = (acc ++ ls.flatten).toArray := by
    intro ls
    induction ls with
    | nil => intro acc; simp
    | cons l ls ih =>
      intro acc
      rw [List.map_cons, List.foldl_cons]
      have e : acc.toArray ++ (tx []).cps ++ (tx l).cps = (acc ++ l).toArray := by simp [tx]
      rw [e, ih, List.flatten_cons, List.append_assoc]
  show Str.mk _ = _
  cases ls with
  | nil => rfl
  | cons l ls =>
    have := key ls l
    show Str.mk (((l :: ls).map tx).drop 1 |>.foldl (fun acc p => acc ++ (tx []).cps ++ p.cps) (((l :: ls).map tx).headD Str.empty).cps) = tx (l :: ls).flatten
    rw [List.map_cons, List.drop_one, List.tail_cons, List.headD_cons, List.flatten_cons]
    exact congrArg Str.mk this

section
variable {X : Cx}
/-- ''.join(l) -/
def rJoin (K : PySem.W.Frag) : V → List V → Hp → VK → Prop := fun x vs H Q => ∃ (l : Addr) (ls : List (List Nat)), x = .str (tx []) ∧ vs = [.ref l] ∧ SqL K H l (ls.map fun c => V.str (tx c)) ∧ ls.flatten.length ≤ 16777216 ∧ Q (.str (tx ls.flatten)) H
theorem sum_len : ∀ ls : List (List Nat), ((ls.map tx).map (·.length)).sum = ls.flatten.length
  | [] => rfl
  | l :: ls => by rw [List.map_cons, List.map_cons, List.sum_cons, sum_len ls, List.flatten_cons, List.length_append, tx_len]
theorem mt_join : MtM X "str.join" (rJoin X.K) := by
  intro pins s σ H x vs v us Q I rx rv h
  obtain ⟨l, ls, rfl, rfl, hq, hz, q⟩ := h
  obtain ⟨t, rfl⟩ := rx
  obtain ⟨u, rfl, ru⟩ := rv.one
  cases ru
  obtain ⟨its, r, pl, _⟩ := I.list hq
  have hs : StrsAre its (ls.map tx) := strsAre_of (by rw [List.map_map]; exact r)
  refine join_list (ys := ls.map tx) pl.isList (by simpa using hs) ?_ fun t' k => ?_
  · rw [sum_len, tx_len]
    simp only [List.length_nil, Nat.mul_zero, Nat.add_zero]
    exact hz
  · rw [join_tx]
    exact ⟨.str (tx ls.flatten), H, I.tok _, ⟨_, rfl⟩, q⟩

/-- '(' * n -/
theorem mul_tx (c : Nat) (n : Nat) : Txt.mul (tx [c]) (n : Int) = tx (List.replicate n c) := by
  unfold Txt.mul
  by_cases h1 : (n : Int) < 1
  · have : n = 0 := by omega
    subst this
    rw [if_pos (by decide)]
    rfl
  · rw [if_neg h1]
    by_cases h2 : n = 1
    · subst h2
      rw [if_pos (show ((((1 : Nat) : Int) == 1) || (tx [c]).length == 0) = true from rfl)]
      rfl
    · rw [if_neg (by
        have e1 : ((n : Int) == 1) = false := by simp; omega
        have e2 : ((tx [c]).length == 0) = false := rfl
        rw [e1, e2]; decide)]
      show Str.mk _ = Str.mk _
      rw [Int.toNat_natCast]
      have key : ∀ (k : Nat) (acc : List Nat), (List.replicate k (tx [c]).cps).foldl (· ++ ·) acc.toArray = (acc ++ List.replicate k c).toArray := by
        intro k
        induction k with
        | zero => intro acc; simp
        | succ k ih =>
          intro acc
          rw [List.replicate_succ, List.foldl_cons]
          have e : acc.toArray ++ (tx [c]).cps = (acc ++ [c]).toArray := by simp [tx]
          rw [e, ih, List.append_assoc]
          rfl
      have := key n []
      exact congrArg Str.mk (by simpa using this)
def rRepS : R2 := fun x y H Q => ∃ (c n : Nat), x = .str (tx [c]) ∧ y = .int (n : Int) ∧ n ≤ 1000000 ∧ Q (.str (tx (List.replicate n c))) H
theorem op_repS : OpR X (binaryOp .Mult) rRepS := by
  intro pins s σ H x y v u Q I rx ry h
  obtain ⟨c, n, rfl, rfl, hn, q⟩ := h
  obtain ⟨t, rfl⟩ := rx
  obtain ⟨t', rfl⟩ := ry
  refine SB.mul (mulOk_of 1 1000000 (Nat.le_refl _) (by omega) (by omega) (by decide) (by decide)) fun t'' k => ?_
  rw [mul_tx]
  exact ⟨.str _, H, I.tok _, ⟨_, rfl⟩, q⟩

/-! ### for c in text -/
def Its (z : Str) : It := ⟨fun i _ => i < z.cps.size, fun i H v H' => H' = H ∧ ∃ c, z.cps[i]? = some c ∧ v = .str (tx [c]), fun i _ => z.cps.size ≤ i⟩
theorem turn_str {P : Program} {w : World} {K : PySem.W.Frag} {x : Str} {px : Pos} {ty : String} (hty : ty = "str_ascii_iterator" ∨ ty = "str_iterator") (z : Str) (t : Tok) (it : Addr) :
    Turn P w K (.Name x px) (Its z) [it] it (fun i h => h.IsStrIter it ty z t i) where
  mem := by simp
  obj := fun i h st b hb => by
    have e : b = it := by simpa using hb
    subst e
    obtain ⟨o, e, c, d⟩ := st
    exact ⟨o, e, fun v z => by rw [d] at z; cases z⟩
  keep := fun i h h' st k => by
    obtain ⟨o, e, r⟩ := st
    exact ⟨o, k it (by simp) o e, r⟩
  item := by
    intro X hP hw hK hc i pins s σ H E I hf st hg
    subst hP hw hK
    obtain ⟨f0, f1, f2, f3, f4, f5⟩ := hf it (by simp)
    have hi : z.cps[i]? = some (z.cps[i]'hg) := Array.getElem?_eq_getElem hg
    rcases hty with rfl | rfl
    · refine wpAny_pyNext_ascii_item st hi fun h' st' sb => ?_
      exact ⟨_, rfl, wpAny_pure ⟨.str (tx [z.cps[i]'hg]), H, I.turned (fun b o hb e => (sb.2 b hb).trans e) f0 f1 f3 f4 f5, ⟨_, rfl⟩, ⟨rfl, _, hi, rfl⟩, st', fun b hb => (hf b hb).1⟩⟩
    · refine wpAny_pyNext_wide_item st hi fun h' st' sb => ?_
      exact ⟨_, rfl, wpAny_pure ⟨.str (tx [z.cps[i]'hg]), H, I.turned (fun b o hb e => (sb.2 b hb).trans e) f0 f1 f3 f4 f5, ⟨_, rfl⟩, ⟨rfl, _, hi, rfl⟩, st', fun b hb => (hf b hb).1⟩⟩
  done := by
    intro X hP hw hK hc i pins s σ H E I hf st hg
    subst hP hw hK
    obtain ⟨f0, f1, f2, f3, f4, f5⟩ := hf it (by simp)
    have hi : z.cps[i]? = none := Array.getElem?_eq_none hg
    rcases hty with rfl | rfl
    · exact wpAny_pyNext_ascii_end (I.ok.hd hc) st hi fun h' eb => ⟨rfl, I.turned (t' := s.toks) (fun b o hb e => eb b o hb e) f0 f1 f3 f4 f5⟩
    · exact wpAny_pyNext_wide_end (I.ok.hd hc) st hi fun h' eb => ⟨rfl, I.turned (t' := s.toks) (fun b o hb e => eb b o hb e) f0 f1 f3 f4 f5⟩
  self := fun _ _ _ _ _ st h => by
    rcases hty with rfl | rfl
    · exact wpAny_pyIter_striter_ascii st h
    · exact wpAny_pyIter_striter_wide st h
def iStr (tl : TE) : TI := fun σ H R => tl σ H fun x H1 => ∃ z, x = .str z ∧ R (Its z) H1
theorem pi_str {x : Str} {px : Pos} {l : Expr} {tl : TE} (hl : PE X l tl) : PI X (.Name x px) l (iStr tl) := by
  intro pins s σ H R I h
  refine thn (hl pins s σ H _ I h) fun v s1 ⟨y, H1, I1, r1, q1⟩ => ?_
  obtain ⟨z, rfl, q⟩ := q1
  obtain ⟨t, rfl⟩ := r1
  have fp : ∀ b ∈ [s1.heap.objs.size], FpOk X pins H1 b := fun b hb => by
    have e : b = s1.heap.objs.size := by simpa using hb
    subst e
    exact I1.fpOk (Nat.le_refl _) (I1.hok.fresh (Nat.le_refl _))
  cases ha : z.cps.all (· < 128)
  · refine wpAny_pyIter_wide ha ?_
    exact ⟨s1.heap.objs.size, [s1.heap.objs.size], _, _, H1, rfl, I1.kept (t' := s1.toks) fun b o e => Heap.get?_push_of_some _ e, turn_str (.inr rfl) z t _, ⟨_, Heap.get?_push_size _ rfl, rfl, rfl⟩, fp, q⟩
  · refine wpAny_pyIter_ascii ha ?_
    exact ⟨s1.heap.objs.size, [s1.heap.objs.size], _, _, H1, rfl, I1.kept (t' := s1.toks) fun b o e => Heap.get?_push_of_some _ e, turn_str (.inl rfl) z t _, ⟨_, Heap.get?_push_size _ rfl, rfl, rfl⟩, fp, q⟩
/-- over a text, sign by sign -/
theorem for_str {l : List Nat} {g : TG} {tb : TS} {D : Ends} {σ : Sg} {H : Hp} (Pv : Nat → Sg → Hp → Prop) (h0 : Pv 0 σ H)
    (hs : ∀ i c σ H, l[i]? = some c → Pv i σ H → g (.str (tx [c])) σ H fun σ2 H2 => tb { D with nx := Pv (i + 1), ct := Pv (i + 1), bk := D.nx } σ2 H2) (hd : ∀ σ H, Pv l.length σ H → D.nx σ H) :
    ∃ W : Nat → Nat → Sg → Hp → Prop, (∃ m, W 0 m σ H) ∧ ∀ i m σ H, W i m σ H →
      ((Its (tx l)).stop i H ∧ D.nx σ H) ∨ ((Its (tx l)).go i H ∧ ∃ N : Sg → Hp → Prop, (∀ σ' H', N σ' H' → ∃ m', m' < m ∧ W (i + 1) m' σ' H') ∧ ∀ x H', (Its (tx l)).yld i H x H' → g x σ H' fun σ2 H2 => tb { D with nx := N, ct := N, bk := D.nx } σ2 H2) := by
  refine ⟨fun i m σ H => m = l.length - i ∧ i ≤ l.length ∧ Pv i σ H, ⟨l.length, by simp, Nat.zero_le _, h0⟩, ?_⟩
  rintro i m σ H ⟨rfl, hi, p⟩
  have sz : (tx l).cps.size = l.length := by simp [tx]
  by_cases hlt : i < l.length
  · refine .inr ⟨by show i < (tx l).cps.size; omega, Pv (i + 1), fun σ' H' p' => ⟨l.length - (i + 1), by omega, rfl, hlt, p'⟩, fun x H' y => ?_⟩
    obtain ⟨e, c, hc, rfl⟩ := y
    subst e
    exact hs i c σ _ (by simpa [tx] using hc) p
  · have e : i = l.length := by omega
    subst e
    exact .inl ⟨by show (tx l).cps.size ≤ l.length; omega, hd σ H p⟩

/-! ### != of two trees -/
theorem eq_items {pins : List (Addr × Obj)} {σ : Sg} {H : Hp} {s : Shared} (I : Inv X pins σ H s) {ts us : List T} {xs ys : List V} {its its2 : List Value} (q2 : TRs X.K H ts xs) (r2 : TRs X.K H us ys) (rv : Vals xs its) (rv2 : Vals ys its2) {n : Nat} {A : Around}
    (hd : T.deepL ts ≤ n + 1) (hu : A.units + n < cLine) : ∀ j (h1 : j < its.toArray.size) (h2 : j < its2.toArray.size), SeqAt.EqAt A s its.toArray[j] its2.toArray[j] (eqsAt ts us j) := by
  intro j j1 j2
  have l1 := rv.length
  have l2 := rv2.length
  have j1' : j < xs.length := by rw [l1]; simpa using j1
  have j2' : j < ys.length := by rw [l2]; simpa using j2
  obtain ⟨u1, hu1, ru1⟩ := rv.get (List.getElem?_eq_getElem j1')
  obtain ⟨u2, hu2, ru2⟩ := rv2.get (List.getElem?_eq_getElem j2')
  obtain ⟨t1, ht1, tr1⟩ := q2.get (List.getElem?_eq_getElem j1')
  obtain ⟨t2, ht2', tr2⟩ := r2.get (List.getElem?_eq_getElem j2')
  have ee : eqsAt ts us j = T.beq t1 t2 := by unfold eqsAt; rw [ht1, ht2']
  have g1 : its.toArray[j] = u1 := by
    have : its[j]? = some u1 := hu1
    rw [List.getElem?_eq_some_iff] at this
    obtain ⟨_, e⟩ := this
    simpa using e
  have g2 : its2.toArray[j] = u2 := by
    have : its2[j]? = some u2 := hu2
    rw [List.getElem?_eq_some_iff] at this
    obtain ⟨_, e⟩ := this
    simpa using e
  rw [ee, g1, g2]
  obtain ⟨a1, zs1, e1, _⟩ := TR_of tr1
  obtain ⟨a2, zs2, e2, _⟩ := TR_of tr2
  rw [e1] at ru1 tr1
  rw [e2] at ru2 tr2
  obtain rfl : u1 = Value.ref a1 := ru1
  obtain rfl : u2 = Value.ref a2 := ru2
  by_cases hne : a1 = a2
  · subst hne
    have et : t1 = t2 := (tr_inj I t1.parts).1 t1 t2 _ (Nat.le_refl _) tr1 tr2
    rw [et, T.beq_self]
    exact SeqAt.EqAt.same _
  · have hd1 : t1.deep ≤ n := by
      have := T.mem_deep (List.mem_of_getElem? ht1)
      omega
    exact SeqAt.EqAt.of_refs hne (rc_tree I n t1 t2 A a1 a2 hd1 tr1 tr2 hu)
def rNeTr (K : PySem.W.Frag) (n : Nat) : R2 := fun x y H Q => ∃ t u, TR K H t x ∧ TR K H u y ∧ t.deep ≤ n ∧ Q (.bl (!T.beq t u)) H
theorem op_neTr {n : Nat} (hu : X.A.units + n + 1 < cLine) : OpR X (compareOp .NotEq) (rNeTr X.K n) := by
  intro pins s σ H x y v u Q I rx ry h
  obtain ⟨t, t', h1, h2, hd, q⟩ := h
  cases t with
  | node ts =>
    cases t' with
    | node us =>
      obtain ⟨a, xs, rfl, q1, q2⟩ := TR_node.mp h1
      obtain ⟨b, ys, rfl, r1, r2⟩ := TR_node.mp h2
      cases rx
      cases ry
      rw [T.deep_node] at hd
      obtain ⟨its, rv, ht, _⟩ := I.tuple q1
      obtain ⟨its2, rv2, ht2, _⟩ := I.tuple r1
      have key := SeqAt.RcNeAt.tuples (A := X.A) (e := eqsAt ts us) ht ht2 (by omega) (eq_items I q2 r2 rv rv2 (n := n) (by omega) (by rw [Around.in1_units]; omega))
      have ev : ((List.range (min its.toArray.size its2.toArray.size)).all (eqsAt ts us) && its.toArray.size == its2.toArray.size) = T.beq (.node ts) (.node us) := by
        rw [List.size_toArray, List.size_toArray, ← rv.length, ← rv2.length, q2.length, r2.length, T.beq, ← beqL_range]
      rw [ev] at key
      exact key _ _ _ _ ⟨.bl _, H, I, rfl, q⟩
end
end Sw

/-! ## trees as rows of brackets, apart from any heap -/
namespace Sw
namespace T
mutual
def wr : T → List Nat | .node ts => 40 :: (wrL ts ++ [41])
def wrL : List T → List Nat
  | [] => []
  | t :: ts => wr t ++ wrL ts
end
theorem wr_node (ts : List T) : wr (.node ts) = 40 :: (wrL ts ++ [41]) := by rw [wr]
theorem wrL_nil : wrL [] = [] := by rw [wrL]
theorem wrL_cons (t : T) (ts : List T) : wrL (t :: ts) = wr t ++ wrL ts := by rw [wrL]
theorem wr_kids (t : T) : wr t = 40 :: (wrL t.kids ++ [41]) := by cases t; rw [wr_node]; rfl
theorem wrL_append : ∀ a b : List T, wrL (a ++ b) = wrL a ++ wrL b
  | [], b => by rw [wrL_nil]; rfl
  | t :: a, b => by rw [List.cons_append, wrL_cons, wrL_cons, wrL_append a b, List.append_assoc]
mutual
theorem wr_len : ∀ t : T, (wr t).length = 2 * t.parts
  | .node ts => by
    rw [wr_node, parts_node, List.length_cons, List.length_append, wrL_len ts, List.length_singleton]
    omega
theorem wrL_len : ∀ ts : List T, (wrL ts).length = 2 * partsL ts
  | [] => by rw [wrL_nil, partsL_nil]; rfl
  | t :: ts => by
    rw [wrL_cons, partsL_cons, List.length_append, wr_len t, wrL_len ts]
    omega
end
theorem wrL_flat (ts : List T) : (ts.map wr).flatten = wrL ts := by
  induction ts with
  | nil => rw [wrL_nil]; rfl
  | cons t ts ih => rw [List.map_cons, List.flatten_cons, ih, wrL_cons]

/-! ### reading: the rows that are open, the innermost first -/
def rd1 : List (List T) → Nat → Option (List (List T))
  | r :: rs, c => if c = 40 then some ([] :: r :: rs) else if c = 41 then (match rs with | r' :: rs' => some ((r' ++ [.node r]) :: rs') | [] => none) else none
  | [], _ => none
def rd : List (List T) → List Nat → Option (List (List T))
  | st, [] => some st
  | st, c :: l => (rd1 st c).bind fun st' => rd st' l
theorem rd_nil (st : List (List T)) : rd st [] = some st := rfl
theorem rd_cons (st : List (List T)) (c : Nat) (l : List Nat) : rd st (c :: l) = (rd1 st c).bind fun st' => rd st' l := rfl
theorem rd_append : ∀ (a b : List Nat) (st : List (List T)), rd st (a ++ b) = (rd st a).bind fun st' => rd st' b
  | [], b, st => rfl
  | c :: a, b, st => by
    rw [List.cons_append, rd_cons, rd_cons]
    cases rd1 st c with
    | none => rfl
    | some st' => exact rd_append a b st'
theorem rd1_open (r : List T) (rs : List (List T)) : rd1 (r :: rs) 40 = some ([] :: r :: rs) := rfl
theorem rd1_shut (r r' : List T) (rs : List (List T)) : rd1 (r :: r' :: rs) 41 = some ((r' ++ [.node r]) :: rs) := rfl
mutual
theorem rd_wr : ∀ (t : T) (r : List T) (rs : List (List T)) (l : List Nat), rd (r :: rs) (wr t ++ l) = rd ((r ++ [t]) :: rs) l
  | .node ts, r, rs, l => by
    rw [wr_node, List.cons_append, rd_cons, rd1_open, Option.bind_some, List.append_assoc, rd_wrL ts [] (r :: rs) ([41] ++ l), List.nil_append, List.singleton_append, rd_cons, rd1_shut, Option.bind_some]
theorem rd_wrL : ∀ (ts : List T) (r : List T) (rs : List (List T)) (l : List Nat), rd (r :: rs) (wrL ts ++ l) = rd ((r ++ ts) :: rs) l
  | [], r, rs, l => by rw [wrL_nil, List.nil_append, List.append_nil]
  | t :: ts, r, rs, l => by
    rw [wrL_cons, List.append_assoc, rd_wr t r rs, rd_wrL ts (r ++ [t]) rs l, List.append_assoc, List.singleton_append]
end
theorem rd_whole (t : T) : rd [[]] (wr t) = some [[t]] := by
  have := rd_wr t [] [] []
  rw [List.append_nil] at this
  rw [this]
  rfl
/-- one sign on, where all goes well -/
theorem rd_take {l : List Nat} {st st' : List (List T)} {i c : Nat} (hl : rd [[]] l = some st') (hi : rd [[]] (l.take i) = some st) (hc : l[i]? = some c) :
    ∃ st2, rd1 st c = some st2 ∧ rd [[]] (l.take (i + 1)) = some st2 := by
  have hlt : i < l.length := (List.getElem?_eq_some_iff.mp hc).1
  have e1 : l.take (i + 1) = l.take i ++ [c] := by rw [List.take_add_one, hc]; rfl
  have e2 : l = l.take (i + 1) ++ l.drop (i + 1) := (List.take_append_drop _ _).symm
  have h3 : rd [[]] (l.take (i + 1)) = rd1 st c := by
    rw [e1, rd_append, hi, Option.bind_some, rd_cons]
    cases rd1 st c <;> rfl
  cases h : rd1 st c with
  | some st2 => exact ⟨st2, rfl, by rw [h3, h]⟩
  | none =>
    rw [h] at h3
    rw [e2, rd_append, h3] at hl
    cases hl
theorem rd1_cases {st st2 : List (List T)} {c : Nat} (h : rd1 st c = some st2) :
    (c = 40 ∧ ∃ r rs, st = r :: rs ∧ st2 = [] :: r :: rs) ∨ (c = 41 ∧ ∃ r r' rs, st = r :: r' :: rs ∧ st2 = (r' ++ [.node r]) :: rs) := by
  cases st with
  | nil => cases h
  | cons r rs =>
    unfold rd1 at h
    dsimp only at h
    by_cases h1 : c = 40
    · rw [if_pos h1] at h
      exact .inl ⟨h1, r, rs, rfl, (Option.some.inj h).symm⟩
    · rw [if_neg h1] at h
      by_cases h2 : c = 41
      · rw [if_pos h2] at h
        cases rs with
        | nil => cases h
        | cons r' rs => exact .inr ⟨h2, r, r', rs, rfl, (Option.some.inj h).symm⟩
      · rw [if_neg h2] at h
        cases h
/-! ### writing: what still waits, the next one last; none is a bracket to be closed -/
def outO : Option T → List Nat
  | none => [41]
  | some t => wr t
def out (os : List (Option T)) : List Nat := (os.reverse.map outO).flatten
theorem out_nil : out [] = [] := rfl
theorem out_append (a b : List (Option T)) : out (a ++ b) = out b ++ out a := by
  unfold out
  rw [List.reverse_append, List.map_append, List.flatten_append]
theorem out_one (o : Option T) : out [o] = outO o := by simp [out]
theorem out_kids (ts : List T) : out (ts.reverse.map some) = wrL ts := by
  unfold out
  rw [← List.map_reverse, List.reverse_reverse, List.map_map, ← wrL_flat]
  rfl
theorem outO_pos (o : Option T) : 1 ≤ (outO o).length := by
  cases o with
  | none => exact Nat.le_refl _
  | some t =>
    show 1 ≤ (wr t).length
    rw [wr_kids]
    simp
theorem out_len (os : List (Option T)) : os.length ≤ (out os).length := by
  induction os with
  | nil => exact Nat.zero_le _
  | cons o os ih =>
    have : out (o :: os) = out os ++ outO o := by rw [← List.singleton_append, out_append, out_one]
    rw [this, List.length_append, List.length_cons]
    have := outO_pos o
    omega
/-! ### a chain -/
def chain : Nat → T
  | 0 => .node []
  | n + 1 => .node [chain n]
theorem chain_wr : ∀ n : Nat, wr (chain n) = List.replicate (n + 1) 40 ++ List.replicate (n + 1) 41
  | 0 => by rw [chain, wr_node, wrL_nil]; rfl
  | n + 1 => by
    rw [chain, wr_node, wrL_cons, wrL_nil, List.append_nil, chain_wr n, List.append_assoc, ← List.replicate_succ', List.replicate_succ (n := n + 1) (a := 40)]
    rfl
theorem chain_deep : ∀ n : Nat, (chain n).deep = n
  | 0 => by rw [chain, deep_node, deepL_nil]
  | n + 1 => by
    rw [chain, deep_node, deepL_cons, deepL_nil, chain_deep n]
    omega
theorem chain_parts : ∀ n : Nat, (chain n).parts = n + 1
  | 0 => by rw [chain, parts_node, partsL_nil]
  | n + 1 => by
    rw [chain, parts_node, partsL_cons, partsL_nil, chain_parts n]
    omega
end T
end Sw

/-! ## which rows of brackets write a tree -/
namespace Sw
namespace T
/-- the walk of a row of brackets by its depth alone; p: a sign is behind -/
def gd : Bool → Nat → List Nat → Option Nat
  | _, d, [] => some d
  | p, d, c :: l => if (c ≠ 40 ∧ c ≠ 41) ∨ (p = true ∧ d = 0) then none else if c = 40 then gd true (d + 1) l else if d = 0 then none else gd true (d - 1) l
def J (p : Bool) (d : Nat) (st : List (List T)) : Prop := ∃ (up : List (List T)) (b : List T), st = up ++ [b] ∧ up.length = d ∧ b.length = if p = true ∧ d = 0 then 1 else 0
theorem rd1_bad {st : List (List T)} {c : Nat} (h1 : c ≠ 40) (h2 : c ≠ 41) : rd1 st c = none := by
  cases st with
  | nil => rfl
  | cons r rs => unfold rd1; dsimp only; rw [if_neg h1, if_neg h2]
theorem rd1_open' (up : List (List T)) (b : List T) : rd1 (up ++ [b]) 40 = some (([] :: up) ++ [b]) := by
  cases up <;> rfl
theorem grow : ∀ (l : List Nat) (up : List (List T)) (b b' : List T), rd (up ++ [b]) l = some [b'] → b.length + (if up = [] ∧ l = [] then 0 else 1) ≤ b'.length
  | [], up, b, b', h => by
    rw [rd_nil] at h
    have h := Option.some.inj h
    cases up with
    | nil =>
      have : b = b' := by simpa using h
      subst this
      simp
    | cons r up => cases up <;> simp at h
  | c :: l, up, b, b', h => by
    rw [if_neg (by simp), rd_cons] at *
    by_cases h1 : c = 40
    · subst h1
      rw [rd1_open', Option.bind_some] at h
      have := grow l ([] :: up) b b' h
      rw [if_neg (by simp)] at this
      exact this
    · by_cases h2 : c = 41
      · subst h2
        cases up with
        | nil => cases h
        | cons r up =>
          cases up with
          | nil =>
            have h : rd ([] ++ [b ++ [.node r]]) l = some [b'] := h
            have := grow l [] (b ++ [.node r]) b' h
            rw [List.length_append, List.length_singleton] at this
            omega
          | cons r' up =>
            have h : rd (((r' ++ [.node r]) :: up) ++ [b]) l = some [b'] := h
            have := grow l _ b b' h
            rw [if_neg (by simp)] at this
            exact this
      · rw [rd1_bad h1 h2] at h
        cases h
theorem gd_rd : ∀ (l : List Nat) (p : Bool) (d : Nat) (st : List (List T)), J p d st →
    (∀ d', gd p d l = some d' → ∃ st', rd st l = some st' ∧ J (p || !l.isEmpty) d' st') ∧ (gd p d l = none → ∀ t, rd st l ≠ some [[t]])
  | [], p, d, st, j => by
    refine ⟨fun d' h => ⟨st, rfl, ?_⟩, fun h => by cases h⟩
    have h : d = d' := Option.some.inj h
    subst h
    simpa using j
  | c :: l, p, d, st, j => by
    obtain ⟨up, b, rfl, hu, hb⟩ := j
    unfold gd
    by_cases hbad : (c ≠ 40 ∧ c ≠ 41) ∨ (p = true ∧ d = 0)
    · rw [if_pos hbad]
      refine ⟨fun d' h => (by cases h), fun _ t ht => ?_⟩
      rcases hbad with ⟨h1, h2⟩ | hp
      · rw [rd_cons, rd1_bad h1 h2] at ht
        cases ht
      · rw [if_pos hp] at hb
        have := grow (c :: l) up b [t] ht
        rw [if_neg (by simp)] at this
        have h3 : b.length + 1 ≤ 1 := this
        omega
    · rw [if_neg hbad]
      have hnp : ¬(p = true ∧ d = 0) := fun z => hbad (.inr z)
      rw [if_neg hnp] at hb
      have e1 : (p || !(c :: l).isEmpty) = true := by simp
      rw [e1]
      by_cases h1 : c = 40
      · subst h1
        rw [if_pos rfl, rd_cons, rd1_open', Option.bind_some]
        have ih := gd_rd l true (d + 1) (([] :: up) ++ [b]) ⟨[] :: up, b, rfl, by simp [hu], by rw [if_neg (by omega)]; exact hb⟩
        simpa using ih
      · have h2 : c = 41 := by
          by_cases h2 : c = 41
          · exact h2
          · exact absurd (.inl ⟨h1, h2⟩) hbad
        subst h2
        rw [if_neg h1]
        cases up with
        | nil =>
          have : d = 0 := by simpa using hu.symm
          rw [if_pos this]
          exact ⟨fun d' h => (by cases h), fun _ t ht => (by cases ht)⟩
        | cons r up =>
          have hd : d = up.length + 1 := by simpa using hu.symm
          rw [if_neg (by omega), hd, Nat.add_sub_cancel]
          cases up with
          | nil =>
            have e : rd ([r] ++ [b]) (41 :: l) = rd ([] ++ [b ++ [.node r]]) l := rfl
            rw [e]
            have ih := gd_rd l true 0 ([] ++ [b ++ [.node r]]) ⟨[], b ++ [.node r], rfl, rfl, by rw [if_pos ⟨rfl, rfl⟩, List.length_append, hb]; rfl⟩
            simpa using ih
          | cons r' up =>
            have e : rd ((r :: r' :: up) ++ [b]) (41 :: l) = rd (((r' ++ [.node r]) :: up) ++ [b]) l := rfl
            rw [e]
            have ih := gd_rd l true (up.length + 1) (((r' ++ [.node r]) :: up) ++ [b]) ⟨(r' ++ [.node r]) :: up, b, rfl, by simp, by rw [if_neg (by omega)]; exact hb⟩
            simpa using ih
/-- a row of brackets that writes a tree -/
def good (l : List Nat) : Prop := gd false 0 l = some 0 ∧ l ≠ []
theorem good_iff (l : List Nat) : good l ↔ ∃ t, rd [[]] l = some [[t]] := by
  have k := gd_rd l false 0 [[]] ⟨[], [], rfl, rfl, by simp⟩
  constructor
  · rintro ⟨h, hne⟩
    obtain ⟨st, h1, up, b, rfl, hu, hb⟩ := k.1 0 h
    have e : (false || !l.isEmpty) = true := by cases l with | nil => exact absurd rfl hne | cons _ _ => rfl
    rw [if_pos ⟨e, rfl⟩] at hb
    have : up = [] := List.length_eq_zero_iff.mp hu
    subst this
    cases b with
    | nil => simp at hb
    | cons t b =>
      have : b = [] := List.length_eq_zero_iff.mp (by simpa using hb)
      subst this
      exact ⟨t, h1⟩
  · rintro ⟨t, ht⟩
    have hne : l ≠ [] := by
      rintro rfl
      rw [rd_nil] at ht
      simp at ht
    cases h : gd false 0 l with
    | none => exact absurd ht (k.2 h t)
    | some d =>
      obtain ⟨st, h1, up, b, rfl, hu, hb⟩ := k.1 d h
      rw [ht] at h1
      have e := Option.some.inj h1
      have : up = [] := by
        have := congrArg List.length e
        simp at this
        exact this
      subst this
      have hd : d = 0 := by simpa using hu.symm
      subst hd
      exact ⟨h, hne⟩
/-- what is read is written so -/
theorem rd_back : ∀ (l : List Nat) (st st' : List (List T)), rd st l = some st' → ((st.reverse.map fun r => 40 :: wrL r).flatten) ++ l = (st'.reverse.map fun r => 40 :: wrL r).flatten
  | [], st, st', h => by rw [rd_nil] at h; rw [Option.some.inj h, List.append_nil]
  | c :: l, st, st', h => by
    rw [rd_cons] at h
    cases h1 : rd1 st c with
    | none => rw [h1] at h; cases h
    | some st2 =>
      rw [h1, Option.bind_some] at h
      have ih := rd_back l st2 st' h
      rw [← ih]
      rcases rd1_cases h1 with ⟨rfl, r, rs, rfl, rfl⟩ | ⟨rfl, r, r', rs, rfl, rfl⟩
      · simp [wrL_nil]
      · simp [wrL_append, wrL_cons, wrL_nil, wr_node]
theorem rd_wr_eq {l : List Nat} {t : T} (h : rd [[]] l = some [[t]]) : t.wr = l := by
  have := rd_back l [[]] [[t]] h
  simp [wrL_nil, wrL_cons] at this
  exact this.symm
end T
end Sw

/-! ## enumerate(text), xs[::-1], slices of texts -/
namespace Sw
open PySem PySem.Spec PyProof.Rows L2

/-! ### for k, c in enumerate(text) -/
def Ite (z : Str) : It := ⟨fun i _ => i < z.cps.size, fun i H v H' => ∃ p c, v = .ref p ∧ H p = none ∧ z.cps[i]? = some c ∧ H' = upd H p (.tup [.int i, .str (tx [c])]), fun i _ => z.cps.size ≤ i⟩
theorem two_inv {X : Cx} {pins : List (Addr × Obj)} {σ : Sg} {H : Hp} {s : Shared} {h2 : Heap} {tk : Nat} {e it : Addr} {xs : List V} (I : Inv X pins σ H s) (fe : FpOk X pins H e) (fi : FpOk X pins H it)
    (k : ∀ b o, b ≠ e → b ≠ it → s.heap.get? b = some o → h2.get? b = some o) (new : ObjOk X.prog X.w (upd H s.heap.objs.size (.tup xs)) h2 s.heap.objs.size (.tup xs)) :
    Inv X pins σ (upd H s.heap.objs.size (.tup xs)) { s with heap := h2, toks := tk } := by
  have hn : H s.heap.objs.size = none := I.hok.fresh (Nat.le_refl _)
  have nt : ∀ b u, H b = some u → b ≠ s.heap.objs.size := fun b u q => ne_of_none q hn
  have ne : ∀ b u, H b = some u → b ≠ e := fun b u q => ne_of_none q fe.1
  have ni : ∀ b u, H b = some u → b ≠ it := fun b u q => ne_of_none q fi.1
  have up : ∀ b u, H b = some u → upd H s.heap.objs.size (.tup xs) b = some u := fun b u q => by rw [upd_ne (nt b u q)]; exact q
  refine I.step (g' := s.gens) (d' := s.drawn) (t' := tk) (ch := [e, it]) (fun b hb => ?_) (fun b o _ _ hb q _ => k b o (fun z => hb (by simp [z])) (fun z => hb (by simp [z])) q)
    (fun b o _ _ hb q _ => ⟨o.slots, k b o (fun z => hb (by simp [z])) (fun z => hb (by simp [z])) q⟩) (fun b o _ q n => by rw [upd_ne (Nat.ne_of_lt (Heap.lt_size q))]; exact n)
    (fun b o hb q => ⟨o, k b o (fun z => hb (by simp [z])) (fun z => hb (by simp [z])) q⟩) (fun b ys q => up _ _ q) (fun b o u q => up _ _ q) (fun b ps q => ⟨#[], by rw [up _ _ q]; simp⟩) (fun m hm => ?_) (fun b u q => ?_) I.bare
  · rcases List.mem_cons.mp hb with z | z
    · rw [z]; exact ⟨fe.2.2.2.1, fe.2.1, fe.2.2.2.2.1, fe.2.2.2.2.2⟩
    · rw [List.mem_singleton.mp z]; exact ⟨fi.2.2.2.1, fi.2.1, fi.2.2.2.2.1, fi.2.2.2.2.2⟩
  · obtain ⟨o, es, ep, ho, r⟩ := hm
    exact ⟨o, es, ep, k _ o (Ne.symm fe.2.1) (Ne.symm fi.2.1) ho, r⟩
  · by_cases hb : b = s.heap.objs.size
    · subst hb
      rw [upd_same] at q
      cases q
      exact new
    · rw [upd_ne hb] at q
      refine (I.hok b u q).stay (fun c v hc q' => k c v ?_ ?_ q') (fun c q' => up _ _ q') fun c ys q' => up _ _ q'
      · rcases hc with z | z
        · rw [z]; exact ne b u q
        · exact ne c _ z
      · rcases hc with z | z
        · rw [z]; exact ni b u q
        · exact ni c _ z
theorem turn_enum {P : Program} {w : World} {K : PySem.W.Frag} {elts : List Expr} {x1 : Nat} {tp : Pos} {ty : String} (hty : ty = "str_ascii_iterator" ∨ ty = "str_iterator") (z : Str) (t : Tok) (e it : Addr) (hei : e ≠ it) :
    Turn P w K (.Tuple elts x1 tp) (Ite z) [e, it] e (fun i h => (∃ old, IsEnum h e it i old) ∧ h.IsStrIter it ty z t i) where
  mem := by simp
  obj := fun i h st b hb => by
    obtain ⟨⟨old, he⟩, o, ho, c, d⟩ := st
    rcases List.mem_cons.mp hb with q | q
    · rw [q]
      exact ⟨_, he, fun v z => by cases z⟩
    · rw [List.mem_singleton.mp q]
      exact ⟨o, ho, fun v z => by rw [d] at z; cases z⟩
  keep := fun i h h' st k => by
    obtain ⟨⟨old, he⟩, o, ho, r⟩ := st
    exact ⟨⟨old, k e (by simp) _ he⟩, o, k it (by simp) o ho, r⟩
  item := by
    intro X hP hw hK hc i pins s σ H E I hf st hg
    subst hP hw hK
    obtain ⟨⟨old, he⟩, hs⟩ := st
    have hh : X.A.in1.handled = none := I.ok.hd hc
    have D : Draws X.prog X.w X.A.in1 it [it] z.cps.size (fun i v => ∃ c u, z.cps[i]? = some c ∧ v = .str ⟨#[c]⟩ u) (fun i h => h.IsStrIter it ty z t i) := by
      rcases hty with rfl | rfl
      · exact Draws.strAscii hh it z t
      · exact Draws.strWide hh it z t
    have fe := hf e (by simp)
    have fi := hf it (by simp)
    refine wpAny_pyNext_enum_itemD D he hs hg hei (by simpa using hei) fun x h' tk hPx ho hs' hT hsz hk => ⟨_, rfl, ?_⟩
    obtain ⟨c, u, hc1, rfl⟩ := hPx
    refine wpAny_letOwnedTupleGo_enum ho fun h2 he2 sb2 => ?_
    have elt : e < s.heap.objs.size := Heap.lt_size he
    have T2 : h2.get? s.heap.objs.size = some { cls := .type "tuple", data := .seq #[.int i tk, .str ⟨#[c]⟩ u] } := (sb2.2 _ (Nat.ne_of_gt elt)).trans hT
    have hn : H s.heap.objs.size = none := I.hok.fresh (Nat.le_refl _)
    refine ⟨.ref s.heap.objs.size, upd H s.heap.objs.size (.tup [.int i, .str (tx [c])]), two_inv (s := s) (xs := [.int i, .str (tx [c])]) (h2 := h2) (tk := tk + 1) I fe fi (fun b o h1 h2' q => (sb2.2 b h1).trans (hk b o h1 h2' q)) ?_, rfl, ⟨_, c, rfl, hn, hc1, rfl⟩, ⟨⟨_, by simpa using he2⟩, ?_⟩, fun b hb => ?_⟩
    · exact ⟨(by show 2 ≤ sizeLine; decide), [.int i tk, .str ⟨#[c]⟩ u], .cons ⟨tk, rfl⟩ (.cons ⟨u, rfl⟩ .nil), ⟨_, T2, rfl, _, rfl⟩⟩
    · obtain ⟨o, q1, q2⟩ := hs'
      exact ⟨o, (sb2.2 it (Ne.symm hei)).trans q1, q2⟩
    · rcases List.mem_cons.mp hb with q | q
      · rw [q, upd_ne (Nat.ne_of_lt elt)]; exact fe.1
      · obtain ⟨o, q1, _⟩ := hs
        rw [List.mem_singleton.mp q, upd_ne (Nat.ne_of_lt (Heap.lt_size q1))]; exact fi.1
  done := by
    intro X hP hw hK hc i pins s σ H E I hf st hg
    subst hP hw hK
    obtain ⟨⟨old, he⟩, hs⟩ := st
    have hh : X.A.in1.handled = none := I.ok.hd hc
    have fi := hf it (by simp)
    have hi : z.cps[i]? = none := Array.getElem?_eq_none hg
    have fin : ∀ h', Heap.ExtBut it s.heap h' → (none : Option Value) = none ∧ Inv X pins σ H { s with heap := h' } := fun h' eb => ⟨rfl, I.turned (t' := s.toks) (fun b o hb q => eb b o hb q) fi.1 fi.2.1 fi.2.2.2.1 fi.2.2.2.2.1 fi.2.2.2.2.2⟩
    have hT : s.TypeIs (.ref e) "enumerate" := ⟨_, he, rfl⟩
    unfold pyNext
    refine wpAny_bind (wpAny_attempt (wpAny_callSpecial?_slot (name := Str.ofString "__next__") hT F.slot_enumerate_next (wpAny_call_entry F.slot_enumerate_next hT F.entry_enumerate_next ?_ (F.args_enumerate_next_1 _))))
    show wpAny _ _ (PySem.field (.ref e) 2 >>= _) _ _ _
    refine wpAny_bind (wpAny_field he rfl (x := .ref it) rfl ?_)
    rcases hty with rfl | rfl
    · refine wpAny_bind (wpAny_nextOf_ascii_end hh hs hi fun h' x eb hx => ?_)
      refine wpAny_bind (wpAny_isInstance (T := "StopIteration") (b := true) hx isSubtype_stop ?_)
      exact wpAny_pure (fin h' eb)
    · refine wpAny_bind (wpAny_nextOf_wide_end hh hs hi fun h' x eb hx => ?_)
      refine wpAny_bind (wpAny_isInstance (T := "StopIteration") (b := true) hx isSubtype_stop ?_)
      exact wpAny_pure (fin h' eb)
  self := fun _ _ _ _ _ st h => by
    obtain ⟨⟨old, he⟩, _⟩ := st
    exact wpAny_pyIter_enum he h
theorem bt_enumerate : bootBuiltins "enumerate" = some (.type "enumerate") := by decide +kernel
def iEnumS (ta : TE) : TI := fun σ H R => ta σ H fun x H1 => ∃ z, x = .str z ∧ R (Ite z) H1
theorem pi_enum {X : Cx} {elts : List Expr} {x1 : Nat} {tp p pos : Pos} {a : Expr} {ta : TE} (hg : Gl X "enumerate") (hm : X.mg "enumerate" = none) (ha : PE X a ta) (hs : starEach [a] X.env = [(false, eval a X.env)] := by rfl) :
    PI X (.Tuple elts x1 tp) (.Call (.Name "enumerate" p) [a] [] pos) (iEnumS ta) := by
  intro pins s σ H R I h
  refine wpAny_Call_Name_kw (ld_blt I hg hm bt_enumerate ?_)
  refine PyProof.Rows.callWith_type1 ?_ (by rw [hs]; rfl) (by rfl)
  rw [hs]
  refine Calls.spliced_cons (thn (ha pins s σ H _ I h) fun v s1 ⟨y, H1, I1, r1, q1⟩ => Calls.spliced_nil ?_)
  obtain ⟨z, rfl, q⟩ := q1
  obtain ⟨t, rfl⟩ := r1
  refine call_enumerate_str fun h' he hit hz hk => wpAny_pyIter_enum he ?_
  have I2 : Inv X pins σ H1 { s1 with heap := h' } := I1.kept (t' := s1.toks) hk
  refine ⟨s1.heap.objs.size + 1, [s1.heap.objs.size + 1, s1.heap.objs.size], _, Ite z, H1, rfl, I2, turn_enum (ty := strIterType z) ?_ z t _ _ (Nat.succ_ne_self _), ⟨⟨_, he⟩, hit⟩, fun b hb => ?_, q⟩
  · unfold strIterType
    split
    · exact .inl rfl
    · exact .inr rfl
  · have hb' : s1.heap.objs.size ≤ b := by
      rcases List.mem_cons.mp hb with e | e
      · rw [e]; exact Nat.le_succ _
      · rw [List.mem_singleton.mp e]; exact Nat.le_refl _
    exact I1.fpOk hb' (I1.hok.fresh hb')
theorem for_enum {l : List Nat} {g : TG} {tb : TS} {D : Ends} {σ : Sg} {H : Hp} (Pv : Nat → Sg → Hp → Prop) (h0 : Pv 0 σ H)
    (hs : ∀ i c σ H p, l[i]? = some c → Pv i σ H → H p = none → g (.ref p) σ (upd H p (.tup [.int i, .str (tx [c])])) fun σ2 H2 => tb { D with nx := Pv (i + 1), ct := Pv (i + 1), bk := D.nx } σ2 H2) (hd : ∀ σ H, Pv l.length σ H → D.nx σ H) :
    ∃ W : Nat → Nat → Sg → Hp → Prop, (∃ m, W 0 m σ H) ∧ ∀ i m σ H, W i m σ H →
      ((Ite (tx l)).stop i H ∧ D.nx σ H) ∨ ((Ite (tx l)).go i H ∧ ∃ N : Sg → Hp → Prop, (∀ σ' H', N σ' H' → ∃ m', m' < m ∧ W (i + 1) m' σ' H') ∧ ∀ x H', (Ite (tx l)).yld i H x H' → g x σ H' fun σ2 H2 => tb { D with nx := N, ct := N, bk := D.nx } σ2 H2) := by
  refine ⟨fun i m σ H => m = l.length - i ∧ i ≤ l.length ∧ Pv i σ H, ⟨l.length, by simp, Nat.zero_le _, h0⟩, ?_⟩
  rintro i m σ H ⟨rfl, hi, p⟩
  have sz : (tx l).cps.size = l.length := by simp [tx]
  by_cases hlt : i < l.length
  · refine .inr ⟨by show i < (tx l).cps.size; omega, Pv (i + 1), fun σ' H' p' => ⟨l.length - (i + 1), by omega, rfl, hlt, p'⟩, fun x H' y => ?_⟩
    obtain ⟨q, c, rfl, hq, hc, rfl⟩ := y
    exact hs i c σ _ q (by simpa [tx] using hc) p hq
  · have e : i = l.length := by omega
    subst e
    exact .inl ⟨by show (tx l).cps.size ≤ l.length; omega, hd σ H p⟩

/-! ### xs[::-1] -/
theorem pick_rev (its : List Value) : slicePick its.toArray none none (some (-1)) = its.reverse.toArray := by
  unfold slicePick
  have e1 : (sliceBounds none none (some (-1)) its.toArray.size) = ((its.length : Int) - 1, -1, -1) := by simp [sliceBounds]
  rw [e1]
  have e2 : sliceRange ((its.length : Int) - 1) (-1) (-1) = (List.range its.length).map fun k => its.length - 1 - k := by
    unfold sliceRange
    rw [if_neg (by decide)]
    have e3 : (if (its.length : Int) - 1 > -1 then ((its.length : Int) - 1 - -1 - -1 - 1) / (- -1) else 0).toNat = its.length := by
      split
      · simp
      · omega
    show List.map _ (List.range (if (its.length : Int) - 1 > -1 then ((its.length : Int) - 1 - -1 - -1 - 1) / (- -1) else 0).toNat) = _
    rw [e3]
    refine List.map_congr_left fun k hk => ?_
    have := List.mem_range.mp hk
    omega
  dsimp only
  rw [e2]
  congr 1
  rw [List.filterMap_map]
  refine List.ext_getElem? fun i => ?_
  have key : ∀ (n : Nat), n ≤ its.length → (List.range n).filterMap ((fun x => its.toArray[x]?) ∘ fun k => its.length - 1 - k) = (its.reverse).take n := by
    intro n
    induction n with
    | zero => intro _; simp
    | succ n ih =>
      intro hn
      rw [List.range_succ, List.filterMap_append, ih (by omega), List.take_add_one]
      congr 1
      have h1 : its.length - 1 - n < its.length := by omega
      simp [h1, List.getElem?_reverse (show n < its.length by omega)]
  rw [key its.length (Nat.le_refl _), List.take_of_length_le (by simp)]
def rRev (K : PySem.W.Frag) : V → Hp → VK → Prop := fun x H Q => ∃ a xs, x = .ref a ∧ SqL K H a xs ∧ ∀ p, H p = none → Q (.ref p) (upd H p (.lst xs.reverse))
def tRev (K : PySem.W.Frag) (te ts : TE) : TE := fun σ H Q => te σ H fun x H1 => ts σ H1 fun y H2 => y = .int (-1) ∧ rRev K x H2 Q
theorem pe_rev {X : Cx} {e st : Expr} {te ts : TE} {p2 pos : Pos} (he : PE X e te) (hst : PE X st ts) : PE X (.Subscript e (.Slice none none (some st) p2) pos) (tRev X.K te ts) := by
  intro pins s σ H Q I h
  refine Subscript_ (thn (he pins s σ H _ I h) fun v s1 ⟨x, H1, I1, r1, q1⟩ => ?_)
  refine wpAny_Slice ?_
  rw [evalPart_none]
  refine wpAny_pure (wpAny_pure ?_)
  rw [evalPart_some]
  refine thn (hst pins s1 σ H1 _ I1 q1) fun u s2 ⟨y, H2, I2, r2, q2⟩ => ?_
  obtain ⟨rfl, a, xs, rfl, hx, q⟩ := q2
  obtain ⟨t, rfl⟩ := r2
  cases r1
  have I4 : Inv X pins σ H2 { s2 with heap := s2.heap.push { cls := .type "slice", data := .fields #[.none, .none, .int (-1) t] } } := I2.kept (t' := s2.toks) fun b ob z => Heap.get?_push_of_some _ z
  obtain ⟨its, r, ht, hz⟩ := I4.list hx
  have hlen := r.length
  show wpAny (model X.prog X.w) X.A (subscriptTail e (.Slice none none (some st) p2) (.ref a) (.ref s2.heap.objs.size)) (EP X pins σ Q) X.xe { s2 with heap := s2.heap.push { cls := .type "slice", data := .fields #[.none, .none, .int (-1) t] } }
  refine tail_any (ops := [.ref a, .ref s2.heap.objs.size]) ht.isList.typeIs slot_list_getitem.lookup ?_ (by with_unfolding_all rfl)
  refine wpAny_getItem_list_slice ht.isList (Heap.IsSliceOf.new ..) .none .none (.int (-1) t) (by simp) ?_ (by rw [List.size_toArray] <;> omega)
  rw [pick_rev]
  refine ⟨.ref _, _, I4.laid (t' := s2.toks) (o := .lst xs.reverse) (fun b ob z => Heap.get?_push_of_some _ z) (Nat.le_refl _) ?_, rfl, q _ (I4.hok.fresh (Nat.le_refl _))⟩
  exact ⟨by rw [List.length_reverse]; exact hz, _, 0, r.reverse, Heap.get?_push_size _ rfl⟩
end Sw

/-! ## errors of one's own: raise C(), and try: f(e) except B as n -/
namespace Sw
open PySem PySem.Spec PyProof.Rows L2

theorem objOk_there {P : Program} {w : World} {H : Hp} {h : Heap} {a : Addr} {o : HO} (x : ObjOk P w H h a o) : ∃ ob, h.get? a = some ob := by
  cases o with
  | lst xs => obtain ⟨_, _, _, _, e⟩ := x; exact ⟨_, e⟩
  | tup xs => obtain ⟨_, _, _, ob, e, _⟩ := x; exact ⟨ob, e⟩
  | dK kvs => obtain ⟨_, _, _, _, ob, _, _, e, _⟩ := x; exact ⟨ob, e⟩
  | dT kvs => obtain ⟨_, _, _, _, ob, _, _, e, _⟩ := x; exact ⟨ob, e⟩
  | set S n => obtain ⟨ob, _, _, _, e, _⟩ := x; exact ⟨ob, e⟩
  | ins C dx fs => obtain ⟨_, _, _, e, _⟩ := x; exact ⟨_, e⟩
  | own y => exact x
  | xd fs => obtain ⟨_, ⟨ob, _, _, e, _⟩, _⟩ := x; exact ⟨ob, e⟩
  | rng lo hi => obtain ⟨_, _, _, e⟩ := x; exact ⟨_, e⟩
  | frz ob u => exact ⟨_, x.1⟩
  | tbl ps => exact ⟨_, (show h.get? a = some _ from x)⟩
  | met f y => exact ⟨_, (show h.get? a = some _ from x)⟩
  | ext φ => exact x.2.1

/-- the error at a, of the class at C, flies towards the frames outer; B: all that the frames are not, as it lay where it was raised -/
structure Fly (P : Program) (w : World) (outer : List Env) (H : Hp) (s : Shared) (H' : Hp) (B : Heap) (a C : Addr) (s' : Shared) : Prop where
  os : s'.os = s.os
  bare : AllBare s'.gens
  fl : ∃ t, Heap.FlyingW B outer a (.ref C) t s'.heap
  keep : ∀ b o, s.heap.get? b = some o → H b = none → b ∉ frs outer → B.get? b = some o
  slot : ∀ b o, s.heap.get? b = some o → b ∈ frs outer → ∃ sl, s'.heap.get? b = some { o with slots := sl }
  free : ∀ b o, s.heap.get? b = some o → H b = none → H' b = none
  there : ∀ b o, s.heap.get? b = some o → b ∉ frs outer → ∃ o', B.get? b = some o'
  tups : ∀ b xs, H b = some (.tup xs) → H' b = some (.tup xs)
  frzs : ∀ b o u, H b = some (.frz o u) → H' b = some (.frz o u)
  tbls : ∀ b ps, H b = some (.tbl ps) → ∃ more, H' b = some (.tbl (ps ++ more))
  hok : HOk P w H' B
  new : H' a = none
  fresh : s.heap.get? a = none
/-- how an error of one's own lies behind a call -/
def CXE (P : Program) (w : World) : CXT := fun outer H s E e s' => ∃ (a C : Addr) (H' : Hp) (B : Heap), e = .ref a ∧ E (.ref C) none H' ∧ Fly P w outer H s H' B a C s'

/-- how an error class of one's own lies there -/
def ExcAt (h : Heap) (C : Addr) (bmB : List Value) (newId : String) : Prop :=
  ∃ tl Nn nm qq bs hd sn sb ab cl dd k0 k1 k2 k3 k5 mN, h.get? C = some (excClassObj nm qq C Nn bs tl hd sn sb ab cl dd k0 k1 k2 k3 k5 newId) ∧ h.Ns Nn mN ∧ mN "__init__" = none ∧ OwnTail h bmB tl
theorem excAt_of {K : PySem.W.Frag} {h : Heap} {C : Addr} {bmB : List Value} {newId : String} (X : K.In h) (q : PySem.W.excIn K C bmB newId = true) : ExcAt h C bmB newId := by
  unfold PySem.W.excIn at q
  split at q
  · rename_i dd cd sl ho
    split at q
    · rename_i C2 tl k0 k1 k2 k3 nn k5 hmro hsl
      simp only [Bool.and_eq_true, beq_iff_eq, Bool.not_eq_true'] at q
      obtain ⟨⟨⟨⟨⟨e1, e2⟩, e3⟩, e4⟩, e5⟩, e6⟩ := q
      subst e1 e2
      have hs2 : sl = #[k0, k1, k2, k3, some (.builtin nn), k5] := by
        cases sl
        simp only at hsl
        rw [hsl]
      subst hs2
      have ho' := X _ _ ho
      cases cd with
      | mk nm bs mro ns qn hd sn sb ab cl del =>
        dsimp only at hmro e3 e4 e5 e6
        subst hmro e3
        exact ⟨tl, ns, nm, qn, bs, hd, sn, sb, ab, cl, dd, k0, k1, k2, k3, k5, _, ho', .of_isNs (PySem.W.isNs_of_in X e5), PySem.W.nsMap_none_of_in X e5 e6, PySem.W.tail_of_in X e4⟩
    · cases q
  · cases q

section
variable {P : Program} {w : World} {K : PySem.W.Frag} {mg : Str → Option Value} {base : Heap} {N : List Str} {qual : Str} {scope : Scope} {f : Addr} {cd : Value} {A : Around} {outer : List Env} {s₀ : Shared} {H₀ : Hp} {E : XK}

theorem fly_raise {pins : List (Addr × Obj)} {σ : Sg} {H : Hp} {s : Shared} {h' : Heap} {e C : Addr} (I : Inv (cxOf (CXE P w) P w K mg base N qual scope f cd A outer s₀ H₀ E) pins σ H s)
    (hx : Heap.MadeExcOf s.heap h' e (.ref C) []) (hE : E (.ref C) none H) : (cxOf (CXE P w) P w K mg base N qual scope f cd A outer s₀ H₀ E).xe (.ref e) { s with heap := h' } := by
  generalize hX : cxOf (CXE P w) P w K mg base N qual scope f cd A outer s₀ H₀ E = X at I ⊢
  have eS : X.stack = X.env :: outer := by rw [← hX]; rfl
  have eF : X.env.frame = some X.env.locals := by rw [← hX]; rfl
  have e0 : X.s₀ = s₀ := by rw [← hX]; rfl
  have eH : X.H₀ = H₀ := by rw [← hX]; rfl
  have eO : X.outer = outer := by rw [← hX]; rfl
  have eX : X.ex = [] := by rw [← hX]; rfl
  have eP : X.prog = P := by rw [← hX]; rfl
  have eW : X.w = w := by rw [← hX]; rfl
  have exe : X.xe = fun e s' => wpAny (model P w) X.A (leaving X.env e) (fun _ s'' => CXE P w outer H₀ s₀ E e s'') (fun e' s'' => CXE P w outer H₀ s₀ E e' s'') s' := by rw [← hX]; rfl
  rw [exe]
  have notin : ∀ b o, s₀.heap.get? b = some o → b ∉ frs outer → b ∉ frs X.stack := fun b o e1 hb z => by
    rcases List.mem_cons.mp (I.stkSub b z) with e2 | e2
    · have := Nat.lt_of_lt_of_le (Heap.lt_size (e0 ▸ e1)) I.ok.above
      rw [e2] at this
      exact absurd this (Nat.lt_irrefl _)
    · exact hb (by rw [← eO]; exact e2)
  have nex : ∀ b : Addr, b ∉ X.ex := fun b z => by rw [eX] at z; simp at z
  have ub : Un (frs outer) X.ex H₀ H s₀.heap s.heap := by
    have := I.base
    rw [e0, eH] at this
    unfold Cx.fs at this
    rw [eO] at this
    exact this
  have tf : ∀ b u, H b = some u → b ∉ frs X.stack := fun b u e1 z => by
    rw [I.stkFree b z] at e1; cases e1
  refine wpAny_leaves_madeW (base := PySem.W.hideAll s.heap (frs X.stack)) (L := X.env.locals) (outer := outer) (by rw [I.ok.frames, eS]) eF (fun b o z => PySem.W.of_hideAll _ z) ?_ hx fun h'' t F1 _ _ F4 => ?_
  · rw [← eS]
    exact PySem.W.funFrames_hide I.stack fun ev hev a ha => List.mem_filterMap.mpr ⟨ev, hev, ha⟩
  refine ⟨e, C, H, _, rfl, hE, ⟨I.os.trans (by rw [e0]), I.bare, ⟨_, F1⟩, fun b o e1 n hb => ?_, fun b o e1 hb => ?_, fun b o e1 n => ub.free b o e1 n (nex b), fun b o e1 hb => ?_, ub.tups, ub.frzs, ub.tbls, fun b u e1 => ?_, ?_, ?_⟩⟩
  · exact PySem.W.hideAll_get _ (ub.keep b o e1 n hb (nex b)) (notin b o e1 hb)
  · have hb' : b ∈ X.fs := by unfold Cx.fs; rw [eO]; exact hb
    have n : H₀ b = none := by rw [← eH]; exact I.ok.frf b hb'
    obtain ⟨s1, q1⟩ := ub.slot b o e1 n hb (nex b)
    obtain ⟨_, o2, q2, nf⟩ := I.ok.funs.mem hb'
    rw [e0, e1] at q2
    cases q2
    have q3 := hx.keeps b _ q1
    obtain ⟨s2, q4⟩ := F4 b _ q3 nf
    exact ⟨s2, q4⟩
  · obtain ⟨o', q1⟩ := ub.there b o e1 (nex b)
    exact ⟨o', PySem.W.hideAll_get _ q1 (notin b o e1 hb)⟩
  · have q := I.hok b u e1
    rw [eP, eW] at q
    refine q.stay (fun c v hc q1 => PySem.W.hideAll_get _ q1 ?_) (fun _ z => z) fun _ _ z => z
    rcases hc with z | z
    · rw [z]; exact tf b u e1
    · exact tf c _ z
  · cases e1 : H e with
    | none => rfl
    | some u =>
      obtain ⟨ob, q1⟩ := objOk_there (I.hok e u e1)
      rw [hx.new] at q1; cases q1
  · cases e1 : s₀.heap.get? e with
    | none => rfl
    | some o =>
      obtain ⟨o', q1⟩ := ub.there e o e1 (nex e)
      rw [hx.new] at q1; cases q1

/-- raise C() -/
def tRaise (C : Addr) (E : XK) : TS := fun _ _ H => E (.ref C) none H
theorem ps_raise {x : Str} {C : Addr} {B newId initId : String} {bmB : List Value} {np cpos pos : Pos} (FB : ExcBaseFacts B newId initId bmB) (q : PySem.W.excIn K C bmB newId = true)
    (hg : Gl (cxOf (CXE P w) P w K mg base N qual scope f cd A outer s₀ H₀ E) x) (hm : mg x = some (.ref C)) (hd : (x == ("__debug__" : Str)) = false := by decide) :
    PS (cxOf (CXE P w) P w K mg base N qual scope f cd A outer s₀ H₀ E) (.Raise (some (.Call (.Name x np) [] [] cpos)) none pos) (tRaise C E) := by
  intro pins s σ H D I h
  obtain ⟨tl, Nn, nm, qq, bs, hdc, sn, sb, ab, cl, dd, k0, k1, k2, k3, k5, mN, hC, hN, hni, T⟩ := excAt_of I.kIn q
  refine wpAny_Raise_call_subT (C := C) (N := Nn) (nm := nm) (q := qq) (bs := bs) (bm := tl) (sn := sn) (hdct := hdc) (sub := sb) (col := cl) (ab := ab) (dd := dd) (k5 := k5) (k3 := k3) (k2 := k2) (k1 := k1) (k0 := k0) FB (mN := mN) (T.hasType FB.hasBase) (I.ok.hd rfl) rfl hni (ld_glob I hg hm ⟨rfl, ?_⟩ hd)
  exact evalArgs_empty ⟨rfl, Nat.zero_le _, hC, hN, T, fun h' e hx => fly_raise I hx h⟩
end

/-- a def that raises: its body as a term of rules, and the reading of that term; its loops take PassesOwn.leaving -/
theorem okX {P : Program} {w : World} {K : PySem.W.Frag} {mg : Str → Option Value} {base : Heap} {x qual : Str} {st : Stmt} {f : Addr} {fd : FuncData} {N ps : List Str} {k : Nat} {sp : Sp} (F : Fun K x qual st f fd) (S : FnScope N ps (defScope st)) (len : ∀ vs H Q E, sp vs H Q E → vs.length = ps.length)
    (hb : ∀ (cdv : Value) (A : Around) (outer : List Env) (s : Shared) (H : Hp) (vs : List V) (Q : VK) (E : XK), Room k (A.deeper (envOfC qual (defScope st) s.heap.objs.size f cdv)) → sp vs H Q E →
      ∃ t, PSs (cxOf (CXE P w) P w K mg base N qual (defScope st) f cdv A outer s H E) (defBody st) t ∧ t { nx := fun _ H' => Q .non H', rt := Q } (start N vs) H) : FnOk P w K mg base (CXE P w) (k + 1) f fd ps sp := by
  obtain ⟨oc, od, kV, doc, pm, an, cdv, ct, osl, e, lk, hcd⟩ := F.ex
  subst e
  exact fn_of lk hcd S len fun A outer s H vs Q E hr hsp => hb cdv A outer s H vs Q E hr hsp
theorem passE {P : Program} {w : World} {X : Cx} : Passes (CXE P w) X E0 := fun _ _ _ _ _ _ _ ⟨_, _, _, _, _, h, _⟩ => h.elim

/-! ### a handler's suite -/
def hX (X : Cx) (a : Addr) : Cx := { X with A := X.A.mark (some (.ref a)), calm := false, xe := fun _ _ => False }
/-- the error at a, of the class at C -/
def XO (a C : Addr) : HO := .ext fun h => ∃ o vs, h.get? a = some o ∧ o.cls = .ref C ∧ o.data = .fields vs
section
variable {X : Cx} {pins : List (Addr × Obj)} {σ : Sg} {H : Hp} {s : Shared}
theorem hX_ok (ok : X.Ok) (a : Addr) : (hX X a).Ok :=
  ⟨ok.mod, ok.kind, ok.glob, ok.blt, ok.above, ok.inj, ok.has, ok.cab, fun z => absurd (show false = true from z) Bool.false_ne_true, ok.frames, ok.stk, ok.exf, ok.bs, ok.bsz, ok.noex, ok.exfs, ok.funs, ok.frf⟩
theorem inv_hx (I : Inv X pins σ H s) (a : Addr) : Inv (hX X a) pins σ H s := ⟨hX_ok I.ok a, I.os, I.bare, I.base, I.loc, I.cell, I.free, I.freeC, I.pin, I.hok, I.len⟩
theorem inv_unhx {a : Addr} (ok : X.Ok) (I : Inv (hX X a) pins σ H s) : Inv X pins σ H s := ⟨ok, I.os, I.bare, I.base, I.loc, I.cell, I.free, I.freeC, I.pin, I.hok, I.len⟩

/-- the error is held here: the state as the caller sees it -/
theorem Fly.inv {H' : Hp} {B h5 : Heap} {a C : Addr} {t : Value} {s' : Shared} (I : Inv X pins σ H s) (F : Fly X.prog X.w X.stack H s H' B a C s') (fl : Heap.FlyingW B X.stack a (.ref C) t h5) (sl : s'.heap.UpToSlots h5) :
    Inv X pins σ (upd H' a (XO a C)) { s' with heap := h5 } := by
  have st : ∀ b o, B.get? b = some o → h5.get? b = some o := fl.1
  have fr : ∀ b o, s.heap.get? b = some o → b ∈ frs X.stack → ∃ sl, h5.get? b = some { o with slots := sl } := fun b o e hb => by
    obtain ⟨s1, e1⟩ := F.slot b o e hb
    obtain ⟨_, o2, e2, nf⟩ := I.stack.mem hb
    rw [e] at e2
    cases e2
    obtain ⟨s2, e3⟩ := sl b _ e1 nf
    exact ⟨s2, e3⟩
  have na : ∀ b u, H' b = some u → b ≠ a := fun b u e z => by rw [z, F.new] at e; cases e
  have ns : ∀ b o, s.heap.get? b = some o → b ≠ a := fun b o e z => by rw [z, F.fresh] at e; cases e
  refine I.call' (ch := []) F.os ⟨fun b o e n hb _ => st b o (F.keep b o e n hb), fun b o e _ hb _ => fr b o e hb, fun b o e n _ => ?_, fun b o e _ => ?_, fun b xs e => ?_, fun b o u e => ?_, fun b ps e => ?_⟩ (fun b u e => ?_) F.bare (fun b z => absurd z (by simp))
  · rw [upd_ne (ns b o e)]; exact F.free b o e n
  · by_cases hb : b ∈ frs X.stack
    · obtain ⟨s2, e3⟩ := fr b o e hb
      exact ⟨_, e3⟩
    · obtain ⟨o', e'⟩ := F.there b o e hb
      exact ⟨o', st b o' e'⟩
  · have := F.tups b xs e
    rw [upd_ne (na _ _ this)]; exact this
  · have := F.frzs b o u e
    rw [upd_ne (na _ _ this)]; exact this
  · obtain ⟨more, this⟩ := F.tbls b ps e
    exact ⟨more, by rw [upd_ne (na _ _ this)]; exact this⟩
  · by_cases hb : b = a
    · subst hb
      rw [upd_same] at e
      cases e
      obtain ⟨oe, vs, g1, g2, g3, _⟩ := fl.first
      refine ⟨⟨oe, vs, g1, g2, g3⟩, ⟨oe, g1⟩, fun h1 h2 p k => ?_⟩
      obtain ⟨o, vs', q1, q2⟩ := p
      exact ⟨o, vs', k o q1, q2⟩
    · rw [upd_ne hb] at e
      refine (F.hok b u e).stay (fun c v _ q => st c v q) (fun c q => ?_) fun c xs q => ?_
      · rw [upd_ne (na _ _ q)]; exact q
      · rw [upd_ne (na _ _ q)]; exact q

/-- a handler's name goes -/
theorem name_goes {M : Model} {A : Around} {E : Value → Shared → Prop} {i : Nat} {n : Str} {pos : Pos} {Q : Unit → Shared → Prop} (I : Inv X pins σ H s) (hN : X.N.Nodup) (hi : X.N[i]? = some n) (hl : X.env.scope.names.lookup n = some .local)
    (h : ∀ s', Inv X pins (σ.set i none) H s' → Q () s') : wpAny M A (do bindName X.env n .none; unbindBehindTheSuite X.env n pos) Q E s := by
  have hcls : (X.env.scope.kind == .class || (X.env.scope.kind == .module && X.env.locals != X.env.globals)) = false := by rw [I.ok.kind]; rfl
  have hk : X.env.kindOf n = some .local := hl
  refine wpAny_bind (wpAny_bindName (store_ok (v := .non) I hN hi (.inl hl) rfl (fun s1 I1 => ?_) (.inr hl)))
  obtain ⟨m, hn, hlk⟩ := I1.loc
  have hiσ : i < σ.length := by rw [I.len]; exact (List.getElem?_eq_some_iff.mp hi).1
  have hmn : (m n).isSome = true := by
    obtain ⟨u, _, lk⟩ := hlk i n .non hi (by rw [List.getElem?_set_self hiσ]) (.inl hl)
    rcases lk with ⟨_, e⟩ | ⟨k, _⟩
    · rw [e]; rfl
    · rw [hk] at k
      rcases k with k | k <;> cases k
  unfold unbindBehindTheSuite
  refine wpAny_onRaise ?_
  unfold unbindName
  refine wpAny_bind (wpAny_point (wpAny_bind ?_))
  unfold deleteName
  simp only [hk, hcls]
  rw [if_neg (by decide)]
  refine wpAny_bind (wpAny_nsDel_keeps hn fun h2 v hn2 hs => ?_)
  rw [hmn]
  simp only [if_true, Bool.not_true, Bool.false_eq_true, if_false]
  have I2 : Inv X pins (σ.set i none) H { s1 with heap := h2 } := by
    obtain ⟨oL, _, _, hoL, _⟩ := id hn
    refine ⟨I1.ok, I1.os, I1.bare, ⟨fun b o e n hb hx => ?_, fun b o e n hb hx => ?_, I1.base.free, fun b o e hx => ?_, I1.base.tups, I1.base.frzs, I1.base.tbls⟩, ⟨_, hn2, fun j y v' e1 e2 e3 => ?_⟩, fun y c e => ?_, I1.free, I1.freeC, fun p hp => ?_, fun b ob e => ?_, by simpa using I.len⟩
    · exact (hs.2 b (Nat.ne_of_lt (Nat.lt_of_lt_of_le (Heap.lt_size e) I1.ok.above))).trans (I1.base.keep b o e n hb hx)
    · obtain ⟨sl, e1⟩ := I1.base.slot b o e n hb hx
      exact ⟨sl, (hs.2 b (Nat.ne_of_lt (Nat.lt_of_lt_of_le (Heap.lt_size e) I1.ok.above))).trans e1⟩
    · obtain ⟨o', e1⟩ := I1.base.there b o e hx
      exact ⟨o', (hs.2 b (Nat.ne_of_lt (Nat.lt_of_lt_of_le (Heap.lt_size e) I1.ok.above))).trans e1⟩
    · by_cases hj : j = i
      · subst hj
        rw [List.getElem?_set_self hiσ] at e2
        cases e2
      · rw [List.getElem?_set_ne (Ne.symm hj)] at e2
        obtain ⟨u', r', q⟩ := hlk j y v' e1 (by rw [List.getElem?_set_ne (Ne.symm hj)]; exact e2) e3
        refine ⟨u', r', ?_⟩
        rcases q with ⟨k, e⟩ | ⟨k, c, e, z⟩
        · refine .inl ⟨k, ?_⟩
          have : y ≠ n := fun e => hj (nodup_ix hN e1 (e ▸ hi))
          simp [this, e]
        · exact .inr ⟨k, c, e, z.sameBut hs (I1.cne y c e)⟩
    · obtain ⟨w', z⟩ := I1.cell y c e
      exact ⟨w', z.sameBut hs (I1.cne y c e)⟩
    · obtain ⟨e, n, ne, nf, d⟩ := I1.pin p hp
      exact ⟨(hs.2 p.1 ne).trans e, n, ne, nf, d⟩
    · refine (I1.hok b ob e).stay (fun c w' hc q => (hs.2 c ?_).trans q) (fun _ q => q) fun _ _ q => q
      rintro rfl
      have hf := I1.free
      rcases hc with rfl | hc
      · rw [hf] at e; cases e
      · rw [hf] at hc; cases hc
  exact wpAny_pure (wpAny_point (h _ I2))

/-- the error's class stands beneath the handler's -/
theorem exc_match {M : Model} {A : Around} {E : Value → Shared → Prop} {e C D : Addr} {oe : Obj} {Q : Bool → Shared → Prop} {K : PySem.W.Frag} (XI : K.In s.heap) (he : s.heap.get? e = some oe) (hcls : oe.cls = .ref C)
    (h1 : PySem.W.typeIn K (.ref D) = some (.type "type")) (h2 : PySem.W.subIn K (.ref D) (.type "BaseException") = some true) (h3 : PySem.W.subIn K (.ref C) (.ref D) = some true) (hD : ∃ cd, PySem.W.clsIn K D = some cd)
    (hq : Q true s) : wpAny M A (excMatches (.ref e) (.ref D)) Q E s := by
  obtain ⟨hh, g, d, t, os⟩ := s
  have L1 := PySem.W.looks_typeIn (M := M) XI h1
  have L2 := PySem.W.looks_subIn (M := M) XI h2
  have L3 := PySem.W.looks_subIn (M := M) XI h3
  have f := tc_notTuple
  obtain ⟨cd, hcd⟩ := hD
  unfold PySem.W.clsIn at hcd
  split at hcd
  · rename_i c' d' cd' sl' ho
    have hoD := XI _ _ ho
    unfold excMatches
    repeat (first | (with_reducible refine wpAny_loadPart_at he ?_; rw [hcls]) | with_reducible refine wpAny_loadPart_at hoD ?_ | refine L1.at ?_ | refine L2.at ?_ | refine L3.at ?_ | wp_step)
    exact hq
  · cases hcd

/-! ### try: f(e, ..) except B as n: .. -/
def tTryCall (i : Nat) (sp : Sp) (t : TA) (sub : Addr → Prop) (ts : TS) : TS := fun D σ H => t σ H fun vs H1 => sp vs H1 (fun _ H2 => D.nx σ H2)
  (fun cls _ H2 => ∃ C, cls = .ref C ∧ sub C ∧ ∀ a, H2 a = none → ts { nx := fun σ3 H3 => D.nx (σ3.set i none) H3, rt := fun _ _ => False } (σ.set i (some (.ref a))) (upd H2 a (XO a C)))
theorem ps_tryCall {k i : Nat} {g D0 : Addr} {gd : FuncData} {ps : List Str} {sp : Sp} {x xB n : Str} {e : Expr} {es : List Expr} {t : TA} {ts : TS} {b0 : Stmt} {suite : List Stmt} {p pos pos' np hp pos3 : Pos}
    (hfr : X.stack = X.env :: X.outer) (hf : X.env.frame = some X.env.locals)
    (F : FnOk X.prog X.w X.K X.mg X.base (CXE X.prog X.w) k g gd ps sp) (hr : Room k X.A) (hg : Gl X x) (hm : X.mg x = some (.ref g)) (hk : PySem.W.keepIn X.K (.ref g) = true) (hb : Binds X.K gd ps [])
    (ha : ∀ E, PA (X.wish E) (e :: es) t)
    (hgB : Gl X xB) (hmB : X.mg xB = some (.ref D0)) (h1 : PySem.W.typeIn X.K (.ref D0) = some (.type "type")) (h2 : PySem.W.subIn X.K (.ref D0) (.type "BaseException") = some true) (hD : ∃ cd, PySem.W.clsIn X.K D0 = some cd)
    (hN : X.N.Nodup) (hi : X.N[i]? = some n) (hl : X.env.scope.names.lookup n = some .local)
    (hs : ∀ a, PSs (hX X a) (b0 :: suite) ts)
    (hdb : (x == ("__debug__" : Str)) = false := by decide) (hdB : (xB == ("__debug__" : Str)) = false := by decide)
    (he : starEach (e :: es) X.env = (false, eval e X.env) :: starEach es X.env := by rfl) (hpl : (backTo pos (starEach es X.env)).any (·.1) = false := by rfl)
    (hsw : swapsWith (.Call (.Name x p) (e :: es) [] pos) none pos'.line X.env = pure false := by rfl) :
    PS X (.Try [.Expr (.Call (.Name x p) (e :: es) [] pos) pos'] [.ExceptHandler (some (.Name xB np)) (some n) (b0 :: suite) hp] [] [] pos3)
      (tTryCall i sp t (fun C => PySem.W.subIn X.K (.ref C) (.ref D0) = some true) ts) := by
  intro pins s σ H D I h
  refine wpAny_Try_except (wpAny_execs_cons (wpAny_Expr_any (wpAny_Call_Name_kw (ld_glob I hg hm ?_ hdb)) I.quiet hsw))
  generalize hEE : (fun (ev : Value) (s₁ : Shared) => wpAny (model X.prog X.w) X.A (noteFrame ev X.env) (fun _ s₂ => wpAny (model X.prog X.w) X.A (setFlight ev none) (fun _ s₃ => wpAny (model X.prog X.w) X.A (handleBy ev X.env [.ExceptHandler (some (.Name xB np)) (some n) (b0 :: suite) hp]) (SP X pins D) X.xe s₃) X.xe s₂) X.xe s₁) = EE
  refine PySem.W.callWith_K (h₀ := X.base) I.ok.mod.kin hk (thn (ha EE pos pins s σ H _ (I.wish EE) h) fun us s1 ⟨vs, H1, I1, r, q⟩ => ⟨I1.unwish.kIn, ?_⟩) he hpl
  have I1 := I1.unwish
  have hlen : (us ++ []).length = ps.length := by rw [List.append_nil, ← r.length]; exact F.len _ _ _ _ q
  have bd := hb s1 us I1.kIn hlen
  rw [List.append_nil] at bd
  refine wpAny_call (codeAny_mono (F.run X.A X.stack s1 H1 ⟨us, []⟩ us vs _ _ hr I1.env0 bd r q) fun r s' hq => ?_)
  cases r with
  | ok fl =>
    cases fl with
    | ret u =>
      obtain ⟨v, H2, I2, rv, q2⟩ := I1.after hq
      exact wpAny_execs_nil (wpAny_execs_nil ⟨σ, H2, I2, q2⟩)
    | next => exact False.elim hq
    | brk => exact False.elim hq
    | cont => exact False.elim hq
  | error ev =>
    rw [← hEE]
    obtain ⟨a, C, H2, B, rfl, ⟨C', eC, hsub, ht⟩, Fl⟩ := hq
    cases eC
    obtain ⟨t0, fl⟩ := Fl.fl
    have fl' : Heap.FlyingW B (X.env :: X.outer) a (.ref C) t0 s'.heap := hfr ▸ fl
    refine wpAny_looks_onW (by rw [I.ok.frames, hfr]) hf fl' fun h4 held4 up4 => ?_
    refine wpAny_landsW held4 fun h5 fl5 up5 => ?_
    have fl5' : Heap.FlyingW B X.stack a (.ref C) t0 h5 := hfr ▸ fl5
    have I5 := Fl.inv I1 fl5' (up4.trans up5)
    obtain ⟨oe, q1, q2⟩ := fl5.there
    refine wpAny_handleBy_cons (codeAny_handlers_test (ld_glob (X := hX X a) (inv_hx I5 a) hgB hmB ?_ hdB)) (by intro z; cases z)
    refine exc_match I5.kIn q1 q2 h1 h2 hsub hD (codeAny_handlers_suite_as ?_)
    refine lands_againW fl5 fun h6 fl6 up6 => ?_
    have fl6' : Heap.FlyingW B X.stack a (.ref C) t0 h6 := hfr ▸ fl6
    have I6 := Fl.inv I1 fl6' (up4.trans (up5.trans up6))
    refine store_ok (v := .ref a) I6 hN hi (.inl hl) rfl (fun s7 I7 => ?_) (.inr hl)
    refine wpAny_mono (hs a pins s7 _ _ _ (inv_hx I7 a) (ht a Fl.new)) (fun fw s8 q8 => ?_) (fun _ _ z => z.elim)
    cases fw with
    | next =>
      obtain ⟨σ8, H8, I8, q8⟩ := q8
      exact name_goes (inv_unhx I.ok I8) hN hi hl fun s9 I9 => ⟨_, _, I9, q8⟩
    | ret u =>
      obtain ⟨_, _, _, _, _, z⟩ := q8
      exact z.elim
    | brk =>
      obtain ⟨_, _, _, z⟩ := q8
      exact z.elim
    | cont =>
      obtain ⟨_, _, _, z⟩ := q8
      exact z.elim
end
end Sw

namespace Sw
open PySem PySem.Spec PyProof.Rows L2
/-! ### text[lo:hi] -/
def cutL (l : List Nat) (lo hi : Option Int) : List Nat := (l.drop (HT.sIx l.length 0 lo)).take (HT.sIx l.length l.length hi - HT.sIx l.length 0 lo)
theorem cutL_len (l : List Nat) (lo hi : Option Int) : (cutL l lo hi).length ≤ l.length := by
  unfold cutL
  rw [List.length_take, List.length_drop]
  omega
theorem idx_eq (lo hi : Option Int) (n : Nat) : Builtin.Str.strSliceIndices lo hi 1 n = (List.range (HT.sIx n n hi - HT.sIx n 0 lo)).map (fun k => HT.sIx n 0 lo + k) := by
  obtain ⟨e1, e2, e3⟩ := slice_bounds lo hi n
  have e : Builtin.Str.strSliceIndices lo hi 1 n = sliceRange (sliceBounds lo hi none n).1 (sliceBounds lo hi none n).2.1 1 := rfl
  rw [e, e1, e2]
  generalize HT.sIx n 0 lo = a
  generalize HT.sIx n n hi = b
  have e4 : (if (a : Int) < b then ((b : Int) - a + 1 - 1) / 1 else 0).toNat = b - a := by
    split
    · simp
    · omega
  show List.map _ (List.range (if (a : Int) < b then ((b : Int) - a + 1 - 1) / 1 else 0).toNat) = _
  rw [e4]
  refine List.map_congr_left fun k _ => ?_
  omega
theorem pick_eq (l : List Nat) (lo hi : Option Int) : (Builtin.Str.strSliceIndices lo hi 1 (tx l).length).filterMap ((tx l).cps[·]?) = cutL l lo hi := by
  have hl : (tx l).length = l.length := tx_len l
  rw [hl, idx_eq]
  unfold cutL
  have h2 := HT.sIx_le l.length l.length (Nat.le_refl _) hi
  generalize HT.sIx l.length 0 lo = a
  generalize HT.sIx l.length l.length hi = b at h2
  have key : ∀ n, a + n ≤ l.length ∨ n = 0 → ((List.range n).map fun k => a + k).filterMap ((tx l).cps[·]?) = (l.drop a).take n := by
    intro n
    induction n with
    | zero => intro _; simp
    | succ n ih =>
      intro h
      have h' : a + n < l.length := by omega
      rw [List.range_succ, List.map_append, List.filterMap_append, ih (by omega), List.take_add_one, List.getElem?_drop]
      congr 1
      simp [tx, h']
  exact key (b - a) (by omega)
theorem get_strSlice {prog : Program} {w : World} {A : Around} {E : Value → Shared → Prop} {s : Shared} {l : List Nat} {t : Tok} {sl : Addr} {vl vu : Value} {lo hi : Option Int} {Q : Value → Shared → Prop}
    (hs : s.heap.IsSliceOf sl vl vu .none) (pl : IsPart vl lo) (pu : IsPart vu hi) (hz : l.length ≤ sizeLine) (h : ∀ t' k, Q (.str (tx (cutL l lo hi)) t') { s with toks := k }) : wpAny (model prog w) A (getItem (.str (tx l) t) (.ref sl)) Q E s := by
  have hT := typeIs_str s (tx l) t
  obtain ⟨pl', el, fl⟩ : ∃ p : Option (Int × Tok), partValue p = vl ∧ p.map (·.1) = lo := by
    cases pl with
    | none => exact ⟨none, rfl, rfl⟩
    | int i t => exact ⟨some (i, t), rfl, rfl⟩
  obtain ⟨pu', eu, fu⟩ : ∃ p : Option (Int × Tok), partValue p = vu ∧ p.map (·.1) = hi := by
    cases pu with
    | none => exact ⟨none, rfl, rfl⟩
    | int i t => exact ⟨some (i, t), rfl, rfl⟩
  have hs' : s.heap.IsSlice sl pl' pu' none := by
    obtain ⟨o, h1, h2, h3⟩ := hs
    exact ⟨o, h1, h2, by rw [el, eu]; exact h3⟩
  have ep : slicePicked (tx l) pl' pu' none = Builtin.Str.strSliceIndices lo hi 1 (tx l).length := by
    unfold slicePicked
    rw [fl, fu]
    rfl
  have m := meets_str_getitem_slice (tx l) t sl pl' pu' none rfl
  unfold getItem
  try with_reducible refine wpAny_holding ?_
  first | refine wpAny_bind (wpAny_pure ?_) | skip
  refine wpAny_bind (wpAny_callSpecial?_slot (name := Str.ofString "__getitem__") hT PyProof.Rows.slot_str_getitem ?_)
  refine call_meets PyProof.Rows.slot_str_getitem hT PyProof.Rows.entry_str_getitem (PyProof.Rows.args_str_getitem _ _) m ⟨hs', ?_⟩
  unfold sliceMade
  rw [ep]
  split
  · rename_i hc
    have hlen : (Builtin.Str.strSliceIndices lo hi 1 (tx l).length).length = l.length := by
      simp at hc
      rw [hc]
      exact tx_len l
    have ecut : cutL l lo hi = l := by
      have h2 := HT.sIx_le l.length l.length (Nat.le_refl _) hi
      rw [tx_len, idx_eq, List.length_map, List.length_range] at hlen
      unfold cutL
      by_cases h0 : l.length = 0
      · have : l = [] := List.length_eq_zero_iff.mp h0
        subst this
        simp
      · have e0 : HT.sIx l.length 0 lo = 0 := by omega
        rw [e0, List.drop_zero, List.take_of_length_le (by omega)]
    have := h t s.toks
    rw [ecut] at this
    exact wpAny_pure this
  · rw [pick_eq]
    refine ⟨?_, ?_⟩
    · show (tx (cutL l lo hi)).length ≤ sizeLine
      rw [tx_len]
      exact Nat.le_trans (cutL_len l lo hi) hz
    · exact wpAny_pure (h _ _)
def rSlS : V → Option Int → Option Int → Hp → VK → Prop := fun x lo hi H Q => ∃ l, x = .str (tx l) ∧ l.length ≤ sizeLine ∧ Q (.str (tx (cutL l lo hi))) H
theorem sl_str {X : Cx} : SlR X rSlS := by
  intro pins s σ H x v vl vu lo hi sl Q I rx hs pl pu h
  obtain ⟨l, rfl, hz, q⟩ := h
  obtain ⟨t, rfl⟩ := rx
  exact ⟨"str", _, PyProof.Rows.slot_str_getitem.lookup, typeIs_str _ _ _, get_strSlice hs pl pu hz fun t' k => ⟨.str _, H, I.tok _, ⟨_, rfl⟩, q⟩⟩
end Sw

/-! ## errors of one's own as values -/
namespace Sw
open PySem PySem.Spec PyProof.Rows L2
theorem made_inv {X : Cx} {pins : List (Addr × Obj)} {σ : Sg} {H : Hp} {s : Shared} {h' : Heap} {e C : Addr} {args : List Value} (I : Inv X pins σ H s) (hm : Heap.MadeExcOf s.heap h' e (.ref C) args) : H e = none ∧ Inv X pins σ (upd H e (XO e C)) { s with heap := h' } := by
  have hn : H e = none := by
    cases q : H e with
    | none => rfl
    | some u =>
      obtain ⟨ob, z⟩ := objOk_there (I.hok e u q)
      rw [hm.new] at z
      cases z
  have na : ∀ b u, H b = some u → b ≠ e := fun b u q => ne_of_none q hn
  have ns : ∀ b o, s.heap.get? b = some o → b ≠ e := fun b o q z => by rw [z, hm.new] at q; cases q
  have up : ∀ b u, H b = some u → upd H e (XO e C) b = some u := fun b u q => by rw [upd_ne (na b u q)]; exact q
  refine ⟨hn, I.call' (ch := []) rfl ⟨fun b o q _ _ _ => hm.keeps b o q, fun b o q _ _ _ => ⟨o.slots, hm.keeps b o q⟩, fun b o q n _ => by rw [upd_ne (ns b o q)]; exact n, fun b o q _ => ⟨o, hm.keeps b o q⟩, fun b xs q => up _ _ q, fun b o u q => up _ _ q, fun b ps q => ⟨#[], by rw [up _ _ q]; simp⟩⟩ (fun b u q => ?_) I.bare (fun b z => absurd z (by simp))⟩
  by_cases hb : b = e
  · subst hb
    rw [upd_same] at q
    cases q
    obtain ⟨t, g1, _⟩ := hm.there
    refine ⟨⟨_, _, g1, rfl, rfl⟩, ⟨_, g1⟩, fun h1 h2 p k => ?_⟩
    obtain ⟨o, vs', q1, q2⟩ := p
    exact ⟨o, vs', k o q1, q2⟩
  · rw [upd_ne hb] at q
    exact (I.hok b u q).stay (fun c v _ z => hm.keeps c v z) (fun c z => up _ _ z) fun c xs z => up _ _ z
/-- C() -/
def tNewX (C : Addr) : TE := fun _ H Q => ∀ e, H e = none → Q (.ref e) (upd H e (XO e C))
theorem pe_newX {X : Cx} {x : Str} {C : Addr} {B newId initId : String} {bmB : List Value} {p pos : Pos} (FB : ExcBaseFacts B newId initId bmB) (q : PySem.W.excIn X.K C bmB newId = true) (hk : PySem.W.keepIn X.K (.ref C) = true)
    (hg : Gl X x) (hm : X.mg x = some (.ref C)) (hd : (x == ("__debug__" : Str)) = false := by decide) : PE X (.Call (.Name x p) [] [] pos) (tNewX C) := by
  intro pins s σ H Q I h
  refine wpAny_Call_Name_kw (ld_glob I hg hm ?_ hd)
  refine PySem.W.callWith_K0 I.kIn hk ?_
  obtain ⟨tl, Nn, nm, qq, bs, hdc, sn, sb, ab, cl, dd, k0, k1, k2, k3, k5, mN, hC, hN, hni, T⟩ := excAt_of I.kIn q
  obtain ⟨hp, g, d, tk, os⟩ := s
  refine wpAny_call_exc_subT FB T hC hN hni fun h' e hx => ?_
  obtain ⟨hn, I2⟩ := made_inv I hx
  exact ⟨.ref e, _, I2, rfl, h e hn⟩

/-! ### isinstance of an error -/
/-- what an error class of one's own is found to have -/
structure XCls (K : PySem.W.Frag) (C : Addr) : Prop where
  cls : ∃ cd, PySem.W.clsIn K C = some cd
  ga : PySem.W.findIn K (.ref C) "__getattribute__" = some (some (.builtin "BaseException.__getattribute__"))
  gt : PySem.W.findIn K (.ref C) "__getattr__" = some none
  cl : PySem.W.findIn K (.ref C) "__class__" = some (some (.builtin "object.__class__"))
  ob : PySem.W.mroIn K C (.type "object") = some true
  be : PySem.W.subIn K (.ref C) (.type "BaseException") = some true
section
variable {K : PySem.W.Frag} {C a : Addr} {prog : Program} {w : World} {A : Around}
theorem x_class {R : Result → Shared → Prop} {s : Shared} {tp : Value} (X : K.In s.heap) (L0 : PySem.W.Looks (model prog w) s.heap (typeOf (.ref a)) (.ref C)) (hm : PySem.W.mroIn K C (.type "object") = some true) (h : R (.ok (.ret (.ref C))) s) :
    codeAny (model prog w) A (.call (.builtin "getset_descriptor.__get__") ⟨[.builtin "object.__class__", .ref a, tp], []⟩) R s := by
  obtain ⟨hh, g, dr, t, os⟩ := s
  have L1 := PySem.W.looks_mroIn (M := model prog w) X hm
  refine codeAny_call_builtin PySem.W.KF.slot_gs.plain PySem.W.KF.entry_gs
    (PySem.W.KF.slot_gs.check _ _ _ _ _ _ _ _ PySem.W.KF.type_class (PySem.W.KF.args_gs _ _ _) ?_)
  unfold Builtin.«getset_descriptor.__get__» Builtin.Getset_descriptor.descrGet
  rw [PySem.W.dga_obj]
  refine wpAny_bind (wpAny_pure ?_)
  unfold Builtin.Getset_descriptor.descrGetter Builtin.Getset_descriptor.descrCheckInstance Builtin.Getset_descriptor.descrNameAndClass isInstance
  simp only [PySem.W.KF.owner_class]
  repeat lk
  refine ⟨Code.quiet_builtin _ (by decide +kernel), codeAny_builtin PySem.W.KF.entry_class ?_⟩
  unfold Builtin.«object.__class__» PySem.shownTypeOf
  repeat lk
  exact h
end
theorem xca {K : PySem.W.Frag} {C a : Addr} (Z : XCls K C) {prog : Program} {w : World} {A : Around} {E : Value → Shared → Prop} {Q : Option Value → Shared → Prop} {s : Shared} (X : K.In s.heap)
    (p : ∃ o vs, s.heap.get? a = some o ∧ o.cls = .ref C ∧ o.data = .fields vs) (k : Q (some (.ref C)) { s with toks := s.toks + 1 }) : wpAny (model prog w) A (getAttr? (.ref a) "__class__") Q E s := by
  obtain ⟨hh, g, d, t, os⟩ := s
  obtain ⟨o, vs, h1, h2, h3⟩ := p
  have L0 : PySem.W.Looks (model prog w) hh (typeOf (.ref a)) (.ref C) := h2 ▸ (PySem.W.Looks.ld h1).andThen .now
  have L1 := PySem.W.looks_findIn (M := model prog w) X Z.ga
  unfold getAttr? getAttrBy? getAttrBy
  refine wpAny_bind (wpAny_mkText (wpAny_bind (wpAny_attempt (wpAny_holding (wpAny_bind (L0.at (wpAny_bind (L1.at ?_))))))))
  have L2 := PySem.W.looks_findIn (M := model prog w) X Z.gt
  have L3 := PySem.W.looks_findIn (M := model prog w) X Z.cl
  have L4 := PySem.W.looks_subIn (M := model prog w) X Z.be
  have hx2 : (Value.builtin "BaseException.__getattribute__" == Value.builtin "object.__getattribute__") = false := by decide +kernel
  dsimp only
  rw [if_neg (by rw [hx2, Bool.and_false]; decide)]
  unfold getAttrByItsOwn hookBefore callGetattribute boundAndCalled
  refine wpAny_bind (L2.at (wpAny_bind (wpAny_attempt (wpAny_holding ?_))))
  rw [if_neg (by decide)]
  refine wpAny_bind (wpAny_of_eq (F.attr_ValueError.ga.bind (.ref a)) ?_)
  refine wpAny_call (codeAny_call_builtin F.attr_ValueError.ga.plain F.entry_bexc_ga ?_)
  have hk : builtinKind "BaseException.__getattribute__" = some .slot := by decide +kernel
  have hsp : splitId "BaseException.__getattribute__" = some ("BaseException", "__getattribute__") := by decide +kernel
  have hargs := F.args_bexc_ga (.ref a) (.str (Str.ofString "__class__") t)
  simp only [checkBuiltinCall, hk, hsp]
  refine wpAny_bind ?_
  unfold isInstance
  have f5 := PySem.W.KF.type_class
  have f6 := F.slot_gs_get.lookup
  have f7 := F.slot_gs_set.lookup
  repeat (any_goals (first | assumption | with_reducible refine L0.at ?_ | with_reducible refine L4.at ?_ | with_reducible refine L3.at ?_ | wp_step))
  refine x_class X L0 Z.ob ?_
  exact wpAny_pure (PySem.W.handed_on rfl (wpAny_pure k))
theorem kitx_exc {K : PySem.W.Frag} {C a : Addr} (Z : XCls K C) : PySem.W.KitX K (.ref a) (.ref C) (fun h => ∃ o vs, h.get? a = some o ∧ o.cls = .ref C ∧ o.data = .fields vs) where
  ty := fun M h _ p => by
    obtain ⟨o, vs, h1, h2, _⟩ := p
    exact h2 ▸ (PySem.W.Looks.ld h1).andThen .now
  it := fun M h X _ => by
    obtain ⟨cd, hcd⟩ := Z.cls
    unfold PySem.W.clsIn at hcd
    split at hcd
    · rename_i c1 d1 cd1 sl1 hol
      intro A1 Q1 E1 s1 k1 q1
      unfold isType loadHead
      exact wpAny_bind (wpAny_loadPart (k1 _ _ (X _ _ hol)) (wpAny_pure q1))
    · cases hcd
  ne := fun h tp dd its n sl X htp => by
    obtain ⟨cd, hcd⟩ := Z.cls
    refine Bool.eq_false_iff.mpr fun z => ?_
    have e : C = tp := Value.ref.inj (beq_iff_eq.mp z)
    subst e
    unfold PySem.W.clsIn at hcd
    split at hcd
    · rename_i c1 d1 cd1 sl1 hol
      have z2 := (X _ _ hol).symm.trans htp
      cases z2
    · cases hcd
  ca := fun X p k => xca Z X p k
def clsV : V → Value
  | .ref D => .ref D
  | .ty T => .type T
  | _ => .none
theorem call_isinstX {X : Cx} : CallR X (.builtin "isinstance") (fun xs H Q => ∃ a C y b, xs = [.ref a, y] ∧ ((∃ D, y = .ref D) ∨ ∃ T, y = .ty T) ∧ H a = some (XO a C) ∧ XCls X.K C ∧ PySem.W.kitOne X.K (.ref C) (clsV y) = some b ∧ Q (.bl b) H) := by
  intro pins s σ H xs us Q I r h
  obtain ⟨a, C, y, b, rfl, hy, ha, Z, e, q⟩ := h
  obtain ⟨u, w', rfl, r1, r2⟩ := vals2 r
  cases r1
  have ew : w' = clsV y := by
    rcases hy with ⟨D, rfl⟩ | ⟨T, rfl⟩
    · exact r2
    · exact r2
  subst ew
  obtain ⟨p, _⟩ := (show ObjOk X.prog X.w H s.heap a (XO a C) from I.hok a _ ha)
  exact PySem.W.kia_one (kitx_exc Z) I.kIn p e (fun z => nomatch z) fun tk => ⟨.bl b, H, I.tok tk, rfl, q⟩
end Sw

/-! ## the judgements, shut: their rules under other names -/
namespace Sw
open PySem PySem.Spec PyProof.Rows L2
structure QE (X : Cx) (e : Expr) (t : TE) : Prop where
  run : PE X e t
structure QT (X : Cx) (e : Expr) (t : TT) : Prop where
  run : PT X e t
structure QW (X : Cx) (e : Expr) (t : TT) : Prop where
  run : PW X e t
structure QA (X : Cx) (es : List Expr) (t : TA) : Prop where
  run : PA X es t
structure QS (X : Cx) (st : Stmt) (t : TS) : Prop where
  run : PS X st t
structure QSs (X : Cx) (st : List Stmt) (t : TS) : Prop where
  run : PSs X st t
structure QI (X : Cx) (tg iter : Expr) (wi : TI) : Prop where
  run : PI X tg iter wi
structure QG (X : Cx) (tg : Expr) (t : TG) : Prop where
  run : PG X tg t
structure QGs (X : Cx) (ts : List Expr) (t : TGs) : Prop where
  run : PGs X ts t
structure QO (X : Cx) (o : Option Expr) (t : TO) : Prop where
  run : PO X o t
theorem QW.pt {X : Cx} {e : Expr} {t : TT} (h : QW X e t) : QT X e t := ⟨h.run.pt⟩
theorem qv {X : Cx} (i : Nat) {x : Str} {pos : Pos} (hN : X.N[i]? = some x := by rfl) (hv : Vis X.env.scope x := by first | exact Or.inl rfl | exact Or.inr (Or.inl rfl) | exact Or.inr (Or.inr rfl)) (hd : (x == ("__debug__" : Str)) = false := by decide) (hcd : (x == ("__classdict__" : Str)) = false := by decide) : QE X (.Name x pos) (tVar i) := ⟨L2.pv (i := i) (hN := hN) (hv := hv) (hd := hd) (hcd := hcd)⟩
theorem qe_int {X : Cx} {i j pos} : QE X (.Constant (.int i) j pos) (tC (.int i)) := ⟨L2.pe_int ⟩
theorem qe_bl {X : Cx} {b j pos} : QE X (.Constant (.bool b) j pos) (tC (.bl b)) := ⟨L2.pe_bl ⟩
theorem qe_non {X : Cx} {j pos} : QE X (.Constant .none j pos) (tC .non) := ⟨L2.pe_non ⟩
theorem qe_str {X : Cx} {x j pos} : QE X (.Constant (.str x) j pos) (tC (.str x)) := ⟨L2.pe_str ⟩
theorem qe_bltn {X : Cx} {x : Str} {v : V} {u : Value} {pos : Pos} (hg : Gl X x) (hm : X.mg x = none) (hv : bootBuiltins x = some u) (r : RelV v u) (hn : x ≠ "__name__" := by decide) (hd : (x == ("__debug__" : Str)) = false := by decide) : QE X (.Name x pos) (tC v) := ⟨L2.pe_bltn (hg := hg) (hm := hm) (hv := hv) (r := r) (hn := hn) (hd := hd)⟩
theorem qe_glob {X : Cx} {x : Str} {v : V} {u : Value} {pos : Pos} (hg : Gl X x) (hm : X.mg x = some u) (r : RelV v u) (hd : (x == ("__debug__" : Str)) = false := by decide) : QE X (.Name x pos) (tC v) := ⟨L2.pe_glob (hg := hg) (hm := hm) (r := r) (hd := hd)⟩
theorem qe_op {X : Cx} {a b : Expr} {ta tb : TE} {pos : Pos} {op : Operator} {r : R2} (ho : OpR X (binaryOp op) r) (ha : QE X a ta) (hb : QE X b tb) : QE X (.BinOp a op b pos) (tOp r ta tb) := ⟨L2.pe_op (ho := ho) (ha := ha.run) (hb := hb.run)⟩
theorem qe_un {X : Cx} {a : Expr} {ta : TE} {pos : Pos} {op : UnaryOp} {r : V → Hp → VK → Prop} (ho : UnR X (unaryOp op) r) (ha : QE X a ta) : QE X (.UnaryOp op a pos) (tUn r ta) := ⟨L2.pe_un (ho := ho) (ha := ha.run)⟩
theorem qe_not {X : Cx} {a : Expr} {ta : TE} {pos : Pos} (ha : QE X a ta) : QE X (.UnaryOp .Not a pos) (tNotV ta) := ⟨L2.pe_not (ha := ha.run)⟩
theorem qe_cmpR {X : Cx} {a b : Expr} {ta tb : TE} {pos : Pos} {op : CmpOp} {r : R2} (ho : OpR X (compareOp op) r) (ha : QE X a ta) (hb : QE X b tb) (hm : behindInMarks op b = false) : QE X (.Compare a [op] [b] pos) (tOp r ta tb) := ⟨L2.pe_cmpR (ho := ho) (ha := ha.run) (hb := hb.run) (hm := hm)⟩
theorem qe_and {X : Cx} {a b : Expr} {ta tb : TE} {pos : Pos} {rest : List Expr} (ha : QE X a ta) (hb : QE X (.BoolOp .And (b :: rest) pos) tb) : QE X (.BoolOp .And (a :: b :: rest) pos) (tAndV ta tb) := ⟨L2.pe_and (ha := ha.run) (hb := hb.run)⟩
theorem qe_or {X : Cx} {a b : Expr} {ta tb : TE} {pos : Pos} {rest : List Expr} (ha : QE X a ta) (hb : QE X (.BoolOp .Or (b :: rest) pos) tb) : QE X (.BoolOp .Or (a :: b :: rest) pos) (tOrV ta tb) := ⟨L2.pe_or (ha := ha.run) (hb := hb.run)⟩
theorem qe_one {X : Cx} {a : Expr} {pos : Pos} {op} {t : TE} (h : QE X a t) : QE X (.BoolOp op [a] pos) t := ⟨L2.pe_one (h := h.run)⟩
theorem qe_lst {X : Cx} {es : List Expr} {t : TA} {pos : Pos} (h : QA X es t) : QE X (.List es pos) (tLst t) := ⟨L2.pe_lst (h := h.run)⟩
theorem qe_tup {X : Cx} {es : List Expr} {t : TA} {pos : Pos} {x1} (h : QA X es t) : QE X (.Tuple es x1 pos) (tTup t) := ⟨L2.pe_tup (h := h.run)⟩
theorem qe_ifExp {X : Cx} {a b : Expr} {ta tb : TE} {pos : Pos} {tA : TT} {c : Expr} (hc : QT X c tA) (ha : QE X a ta) (hb : QE X b tb) : QE X (.IfExp c a b pos) (tIf tA ta tb) := ⟨L2.pe_ifExp (hc := hc.run) (ha := ha.run) (hb := hb.run)⟩
theorem qe_slice {X : Cx} {e : Expr} {te : TE} {lo hi : Option Expr} {tl th : TO} {pos p2 : Pos} {r : V → Option Int → Option Int → Hp → VK → Prop} (hr : SlR X r) (he : QE X e te) (hl : QO X lo tl) (hu : QO X hi th) : QE X (.Subscript e (.Slice lo hi none p2) pos) (tSl r te tl th) := ⟨L2.pe_slice (hr := hr) (he := he.run) (hl := hl.run) (hu := hu.run)⟩
theorem qe_ix {X : Cx} {a b : Expr} {ta tb : TE} {pos : Pos} {r : R2} (hr : IxR X r) (ha : QE X a ta) (hb : QE X b tb) (hs : PlainIx b) : QE X (.Subscript a b pos) (tOp r ta tb) := ⟨L2.pe_ix (hr := hr) (ha := ha.run) (hb := hb.run) (hs := hs)⟩
theorem qe_lc {X : Cx} {scope : Scope} {cl : List (Str × Addr)} {x : Str} {fr : List Str} {js : List Nat} {elt iter : Expr} {px pos : Pos} {wi : TI} {te : TE} (hc : X.calm = true) (L : LcOk X scope x fr js cl) (hi : QI X (.Name x px) iter wi) (he : ∀ C s H fp pins, QE (blk X scope cl C (x :: fr) s H fp pins) elt te) (hs : ∀ v, foldedSetIterable iter X.env v = pure v := by intro _; rfl) : QE X (.ListComp elt [⟨.Name x px, iter, [], 0⟩] scope pos) (tLC wi js te) := ⟨Sw.pe_lc (hc := hc) (L := L) (hi := hi.run) (he := fun C s H fp pins => (he C s H fp pins).run) (hs := hs)⟩
theorem qe_call {X : Cx} {CX : CXT} {k : Nat} {f : Addr} {fd : FuncData} {ps : List Str} {sp : Sp} {dvs : List V} {ds : List Value} {E : XK} {x : Str} {p pos : Pos} {e : Expr} {es : List Expr} {t : TA} (F : FnOk X.prog X.w X.K X.mg X.base CX k f fd ps sp) (hr : Room k X.A) (hg : Gl X x) (hm : X.mg x = some (.ref f)) (hk : PySem.W.keepIn X.K (.ref f) = true) (hb : Binds X.K fd ps ds) (hd : Vals dvs ds) (hx : Passes CX X E) (ha : QA X (e :: es) t) (hdb : (x == ("__debug__" : Str)) = false := by decide) (he : starEach (e :: es) X.env = (false, eval e X.env) :: starEach es X.env := by rfl) (hpl : (backTo pos (starEach es X.env)).any (·.1) = false := by rfl) : QE X (.Call (.Name x p) (e :: es) [] pos) (tCall sp dvs E t) := ⟨L2.pe_call (F := F) (hr := hr) (hg := hg) (hm := hm) (hk := hk) (hb := hb) (hd := hd) (hx := hx) (ha := ha.run) (hdb := hdb) (he := he) (hpl := hpl)⟩
theorem qe_call0 {X : Cx} {CX : CXT} {k : Nat} {f : Addr} {fd : FuncData} {ps : List Str} {sp : Sp} {dvs : List V} {ds : List Value} {E : XK} {x : Str} {p pos : Pos} (F : FnOk X.prog X.w X.K X.mg X.base CX k f fd ps sp) (hr : Room k X.A) (hg : Gl X x) (hm : X.mg x = some (.ref f)) (hk : PySem.W.keepIn X.K (.ref f) = true) (hb : Binds X.K fd ps ds) (hd : Vals dvs ds) (hx : Passes CX X E) (hdb : (x == ("__debug__" : Str)) = false := by decide) : QE X (.Call (.Name x p) [] [] pos) (tCall sp dvs E tNil) := ⟨L2.pe_call0 (F := F) (hr := hr) (hg := hg) (hm := hm) (hk := hk) (hb := hb) (hd := hd) (hx := hx) (hdb := hdb)⟩
theorem qe_callTy {X : Cx} {x : Str} {p pos : Pos} {e : Expr} {es : List Expr} {t : TA} {T : String} {r : List V → Hp → VK → Prop} (hc : CallR X (.type T) r) (hg : Gl X x) (hm : X.mg x = none) (hv : bootBuiltins x = some (.type T)) (ha : QA X (e :: es) t) (hn : x ≠ "__name__" := by decide) (hdb : (x == ("__debug__" : Str)) = false := by decide) (he : starEach (e :: es) X.env = (false, eval e X.env) :: starEach es X.env := by rfl) (hpl : (backTo pos (starEach es X.env)).any (·.1) = false := by rfl) : QE X (.Call (.Name x p) (e :: es) [] pos) (tCB r t) := ⟨L2.pe_callTy (hc := hc) (hg := hg) (hm := hm) (hv := hv) (ha := ha.run) (hn := hn) (hdb := hdb) (he := he) (hpl := hpl)⟩
theorem qe_callTy0 {X : Cx} {x : Str} {p pos : Pos} {T : String} {r : List V → Hp → VK → Prop} (hc : CallR X (.type T) r) (hg : Gl X x) (hm : X.mg x = none) (hv : bootBuiltins x = some (.type T)) (hn : x ≠ "__name__" := by decide) (hdb : (x == ("__debug__" : Str)) = false := by decide) : QE X (.Call (.Name x p) [] [] pos) (tCB r tNil) := ⟨L2.pe_callTy0 (hc := hc) (hg := hg) (hm := hm) (hv := hv) (hn := hn) (hdb := hdb)⟩
theorem qe_callB {X : Cx} {x : Str} {p pos : Pos} {e : Expr} {es : List Expr} {t : TA} {id : String} {r : List V → Hp → VK → Prop} (hc : CallR X (.builtin id) r) (hg : Gl X x) (hm : X.mg x = none) (hv : bootBuiltins x = some (.builtin id)) (ha : QA X (e :: es) t) (hn : x ≠ "__name__" := by decide) (hdb : (x == ("__debug__" : Str)) = false := by decide) (he : starEach (e :: es) X.env = (false, eval e X.env) :: starEach es X.env := by rfl) (hpl : (backTo pos (starEach es X.env)).any (·.1) = false := by rfl) : QE X (.Call (.Name x p) (e :: es) [] pos) (tCB r t) := ⟨L2.pe_callB (hc := hc) (hg := hg) (hm := hm) (hv := hv) (ha := ha.run) (hn := hn) (hdb := hdb) (he := he) (hpl := hpl)⟩
theorem qe_bm {X : Cx} {o e : Expr} {es : List Expr} {to : TE} {t : TA} {name : Str} {apos cpos : Pos} {T id : String} {r : V → List V → Hp → VK → Prop} (pa : PlainAttrs T) (slot : Slot T name id) (hty : typeOf (.builtin id) = pure (.type "method_descriptor")) (hm : MtR X id r) (ho : QE X o to) (ha : QA X (e :: es) t) (hbase : attributeBase o name X.env (eval o X.env) = eval o X.env := by rfl) (hfew : ((backTo cpos (starEach (e :: es) X.env)).all (fun x => !x.1) && (backToKw cpos (keywordEach [] X.env)).all (fun x => x.1.isSome)
      && decide ((e :: es).length + ([] : List Keyword).length + (if ([] : List Keyword).isEmpty then 0 else 1) < 30)) = true := by rfl) (hline : (apos.endLine == cpos.line) = true := by rfl) (hs : starEach (e :: es) X.env = (false, eval e X.env) :: starEach es X.env := by rfl) (hplain : (backTo cpos (starEach es X.env)).any (·.1) = false := by rfl) : QE X (.Call (.Attribute o name apos) (e :: es) [] cpos) (tBM X.K T r to t) := ⟨L2.pe_bm (pa := pa) (slot := slot) (hty := hty) (hm := hm) (ho := ho.run) (ha := ha.run) (hbase := hbase) (hfew := hfew) (hline := hline) (hs := hs) (hplain := hplain)⟩
theorem qe_bm0 {X : Cx} {o : Expr} {to : TE} {name : Str} {apos cpos : Pos} {T id : String} {r : V → List V → Hp → VK → Prop} (pa : PlainAttrs T) (slot : Slot T name id) (hty : typeOf (.builtin id) = pure (.type "method_descriptor")) (hm : MtR X id r) (ho : QE X o to) (hbase : attributeBase o name X.env (eval o X.env) = eval o X.env := by rfl) (hline : (apos.endLine == cpos.line) = true := by rfl) : QE X (.Call (.Attribute o name apos) [] [] cpos) (tBM0 X.K T r to) := ⟨L2.pe_bm0 (pa := pa) (slot := slot) (hty := hty) (hm := hm) (ho := ho.run) (hbase := hbase) (hline := hline)⟩
theorem qe_rev {X : Cx} {e st : Expr} {te ts : TE} {p2 pos : Pos} (he : QE X e te) (hst : QE X st ts) : QE X (.Subscript e (.Slice none none (some st) p2) pos) (tRev X.K te ts) := ⟨Sw.pe_rev (he := he.run) (hst := hst.run)⟩
theorem qe_newX {X : Cx} {x : Str} {C : Addr} {B newId initId : String} {bmB : List Value} {p pos : Pos} (FB : ExcBaseFacts B newId initId bmB) (q : PySem.W.excIn X.K C bmB newId = true) (hk : PySem.W.keepIn X.K (.ref C) = true) (hg : Gl X x) (hm : X.mg x = some (.ref C)) (hd : (x == ("__debug__" : Str)) = false := by decide) : QE X (.Call (.Name x p) [] [] pos) (tNewX C) := ⟨Sw.pe_newX (FB := FB) (q := q) (hk := hk) (hg := hg) (hm := hm) (hd := hd)⟩
theorem qe_listRev {X : Cx} {e : Expr} {te : TE} {p1 p2 pos pos2 : Pos} (hgl : Gl X "list") (hgr : Gl X "reversed") (ml : X.mg "list" = none) (mr : X.mg "reversed" = none) (hc : X.calm = true) (he : QE X e te) (hs1 : starEach [.Call (.Name "reversed" p2) [e] [] pos2] X.env = [(false, eval (.Call (.Name "reversed" p2) [e] [] pos2) X.env)] := by rfl) (hs2 : starEach [e] X.env = [(false, eval e X.env)] := by rfl) : QE X (.Call (.Name "list" p1) [.Call (.Name "reversed" p2) [e] [] pos2] [] pos) (SwR.tLR X.K te) := ⟨SwR.pe_listRev (hgl := hgl) (hgr := hgr) (ml := ml) (mr := mr) (hc := hc) (he := he.run) (hs1 := hs1) (hs2 := hs2)⟩
theorem qe_chain {X : Cx} {a b c : Expr} {ta tb tc : TE} {pos : Pos} {op op' : CmpOp} {r r' : R2} (ho : OpR X (compareOp op) r) (ho' : OpR X (compareOp op') r') (ha : QE X a ta) (hb : QE X b tb) (hc : QE X c tc) (hm : lastMarks [op, op'] [b, c] = false := by with_unfolding_all rfl) : QE X (.Compare a [op, op'] [b, c] pos) (tChain r r' ta tb tc) := ⟨L2.pe_chain (ho := ho) (ho' := ho') (ha := ha.run) (hb := hb.run) (hc := hc.run) (hm := hm)⟩
theorem qt_val {X : Cx} {e : Expr} {t : TE} (h : QE X e t) (he : ∀ whole, isTrue e X.env whole = (do let v ← whole; standAt e.pos; holding [v] (truthy v)) := by intro _; rfl) : QT X e (tB t) := ⟨L2.pt_val (h := h.run) (he := he)⟩
theorem qt_truth {X : Cx} {a : Expr} {ta : TE} (ha : QE X a ta) (he : ∀ whole, isTrue a X.env whole = (do let v ← whole; standAt a.pos; holding [v] (truthy v))) : QT X a (fun σ H Q => ta σ H fun x H' => ∃ k, TruV X.K x H' k ∧ Q k H') := ⟨L2.pt_truth (ha := ha.run) (he := he)⟩
theorem qt_cmpR {X : Cx} {a b : Expr} {ta tb : TE} {pos : Pos} {op : CmpOp} {r : R2} (ho : OpR X (compareOp op) r) (ha : QE X a ta) (hb : QE X b tb) (hm : behindInMarks op b = false) : QT X (.Compare a [op] [b] pos) (tTest (tOp r ta tb)) := ⟨L2.pt_cmpR (ho := ho) (ha := ha.run) (hb := hb.run) (hm := hm)⟩
theorem qt_not {X : Cx} {a : Expr} {pos : Pos} {tA : TT} (ha : QT X a tA) : QT X (.UnaryOp .Not a pos) (tNot tA) := ⟨L2.pt_not (ha := ha.run)⟩
theorem qt_chain {X : Cx} {a b c : Expr} {ta tb tc : TE} {pos : Pos} {op op' : CmpOp} {r r' : R2} (ho : OpR X (compareOp op) r) (ho' : OpR X (compareOp op') r') (ha : QE X a ta) (hb : QE X b tb) (hc : QE X c tc) (hm : lastMarks [op, op'] [b, c] = false := by with_unfolding_all rfl) : QT X (.Compare a [op, op'] [b, c] pos) (tTest (tChain r r' ta tb tc)) := ⟨L2.pt_chain (ho := ho) (ho' := ho') (ha := ha.run) (hb := hb.run) (hc := hc.run) (hm := hm)⟩
theorem qw_and {X : Cx} {a b : Expr} {pos : Pos} {tA tB' : TT} {rest : List Expr} (ha : QT X a tA) (hb : QW X (.BoolOp .And (b :: rest) pos) tB') : QW X (.BoolOp .And (a :: b :: rest) pos) (tAnd tA tB') := ⟨L2.pw_and (ha := ha.run) (hb := hb.run)⟩
theorem qw_and1 {X : Cx} {a : Expr} {pos : Pos} {tA : TT} (ha : QT X a tA) : QW X (.BoolOp .And [a] pos) tA := ⟨L2.pw_and1 (ha := ha.run)⟩
theorem qw_or {X : Cx} {a b : Expr} {pos : Pos} {tA tB' : TT} {rest : List Expr} (ha : QT X a tA) (hb : QW X (.BoolOp .Or (b :: rest) pos) tB') : QW X (.BoolOp .Or (a :: b :: rest) pos) (tOr tA tB') := ⟨L2.pw_or (ha := ha.run) (hb := hb.run)⟩
theorem qw_or1 {X : Cx} {a : Expr} {pos : Pos} {tA : TT} (ha : QT X a tA) : QW X (.BoolOp .Or [a] pos) tA := ⟨L2.pw_or1 (ha := ha.run)⟩
theorem qa_nil {X : Cx} : QA X [] tNil := ⟨L2.pa_nil ⟩
theorem qa_cons {X : Cx} {e : Expr} {es : List Expr} {te : TE} {t : TA} (ha : QE X e te) (hr : QA X es t) (hs : starEach (e :: es) X.env = (false, eval e X.env) :: starEach es X.env := by rfl) : QA X (e :: es) (tCons te t) := ⟨L2.pa_cons (ha := ha.run) (hr := hr.run) (hs := hs)⟩
theorem qs_ret {X : Cx} {e : Expr} {te : TE} {pos : Pos} (he : QE X e te) : QS X (.Return (some e) pos) (tRet te) := ⟨L2.ps_ret (he := he.run)⟩
theorem qs_retN {X : Cx} {pos : Pos} : QS X (.Return none pos) tRetN := ⟨L2.ps_retN ⟩
theorem qs_set {X : Cx} {pos : Pos} {i : Nat} {x : Str} {e : Expr} {te : TE} {pos' : Pos} (hN : X.N.Nodup) (hi : X.N[i]? = some x) (hx : Loc X.env.scope x) (he : QE X e te) (hs : swapsWith e (some (.Name x pos')) pos.line X.env = pure false := by rfl) (hf : X.fn x = true ∨ X.env.scope.names.lookup x = some .local := by first | exact .inl rfl | exact .inr rfl | assumption) : QS X (.Assign [.Name x pos'] e pos) (tAsg te (gName i)) := ⟨L2.ps_set (hN := hN) (hi := hi) (hx := hx) (he := he.run) (hs := hs) (hf := hf)⟩
theorem qs_aug {X : Cx} {pos : Pos} {i : Nat} {x : Str} {e : Expr} {te : TE} {op : Operator} {ti : TIp} {pos' : Pos} (hN : X.N.Nodup) (hi : X.N[i]? = some x) (hx : Loc X.env.scope x) (he : QE X e te) (ho : PIp X op ti) (hf : X.fn x = true ∨ X.env.scope.names.lookup x = some .local := by first | exact .inl rfl | exact .inr rfl | assumption) : QS X (.AugAssign (.Name x pos') op e pos) (tAug i te ti) := ⟨L2.ps_aug (hN := hN) (hi := hi) (hx := hx) (he := he.run) (ho := ho) (hf := hf)⟩
theorem qs_if {X : Cx} {t u : TS} {pos : Pos} {c : Expr} {a b : List Stmt} {tc : TT} (hc : QT X c tc) (ha : QSs X a t) (hb : QSs X b u) : QS X (.If c a b pos) (tIfS tc t u) := ⟨L2.ps_if (hc := hc.run) (ha := ha.run) (hb := hb.run)⟩
theorem qs_while {X : Cx} {pos : Pos} {c : Expr} {body : List Stmt} {tc : TT} {tb : TS} (hp : PassesOwn (model X.prog X.w) X.A X.env X.xe) (hc : QT X c tc) (hb : QSs X body tb) : QS X (.While c body [] pos) (tWhile tc tb) := ⟨L2.ps_while (hp := hp) (hc := hc.run) (hb := hb.run)⟩
theorem qs_for {X : Cx} {tg : Expr} {iter : Expr} {body : List Stmt} {wi : TI} {g : TG} {tb : TS} {pos : Pos} (hp : PassesOwn (model X.prog X.w) X.A X.env X.xe) (hc : X.calm = true) (hi : QI X tg iter wi) (hg : QG X tg g) (hb : QSs X body tb) (hs : ∀ x, foldedSetIterable iter X.env x = pure x := by intro _; rfl) : QS X (.For tg iter body [] pos) (tFor wi g tb) := ⟨L2.ps_for (hp := hp) (hc := hc) (hi := hi.run) (hg := hg.run) (hb := hb.run) (hs := hs)⟩
theorem qs_expr {X : Cx} {e : Expr} {te : TE} {pos : Pos} (he : QE X e te) (hs : swapsWith e none pos.line X.env = pure false := by rfl) : QS X (.Expr e pos) (tDrop te) := ⟨L2.ps_expr (he := he.run) (hs := hs)⟩
theorem qs_break {X : Cx} {pos : Pos} : QS X (.Break pos) tBreak := ⟨L2.ps_break ⟩
theorem qs_continue {X : Cx} {pos : Pos} : QS X (.Continue pos) tCont := ⟨L2.ps_continue ⟩
theorem qs_pass {X : Cx} {pos : Pos} : QS X (.Pass pos) tNext := ⟨L2.ps_pass ⟩
theorem qs_raise {P : Program} {w : World} {K : PySem.W.Frag} {mg : Str → Option Value} {base : Heap} {N : List Str} {qual : Str} {scope : Scope} {f : Addr} {cd : Value} {A : Around} {outer : List Env} {s₀ : Shared} {H₀ : Hp} {E : XK} {x : Str} {C : Addr} {B newId initId : String} {bmB : List Value} {np cpos pos : Pos} (FB : ExcBaseFacts B newId initId bmB) (q : PySem.W.excIn K C bmB newId = true) (hg : Gl (cxOf (CXE P w) P w K mg base N qual scope f cd A outer s₀ H₀ E) x) (hm : mg x = some (.ref C)) (hd : (x == ("__debug__" : Str)) = false := by decide) : QS (cxOf (CXE P w) P w K mg base N qual scope f cd A outer s₀ H₀ E) (.Raise (some (.Call (.Name x np) [] [] cpos)) none pos) (tRaise C E) := ⟨Sw.ps_raise (FB := FB) (q := q) (hg := hg) (hm := hm) (hd := hd)⟩
theorem qs_tryCall {X : Cx} {k i : Nat} {g D0 : Addr} {gd : FuncData} {ps : List Str} {sp : Sp} {x xB n : Str} {e : Expr} {es : List Expr} {t : TA} {ts : TS} {b0 : Stmt} {suite : List Stmt} {p pos pos' np hp pos3 : Pos} (hfr : X.stack = X.env :: X.outer) (hf : X.env.frame = some X.env.locals) (F : FnOk X.prog X.w X.K X.mg X.base (CXE X.prog X.w) k g gd ps sp) (hr : Room k X.A) (hg : Gl X x) (hm : X.mg x = some (.ref g)) (hk : PySem.W.keepIn X.K (.ref g) = true) (hb : Binds X.K gd ps []) (ha : ∀ E, QA (X.wish E) (e :: es) t) (hgB : Gl X xB) (hmB : X.mg xB = some (.ref D0)) (h1 : PySem.W.typeIn X.K (.ref D0) = some (.type "type")) (h2 : PySem.W.subIn X.K (.ref D0) (.type "BaseException") = some true) (hD : ∃ cd, PySem.W.clsIn X.K D0 = some cd) (hN : X.N.Nodup) (hi : X.N[i]? = some n) (hl : X.env.scope.names.lookup n = some .local) (hs : ∀ a, QSs (hX X a) (b0 :: suite) ts) (hdb : (x == ("__debug__" : Str)) = false := by decide) (hdB : (xB == ("__debug__" : Str)) = false := by decide) (he : starEach (e :: es) X.env = (false, eval e X.env) :: starEach es X.env := by rfl) (hpl : (backTo pos (starEach es X.env)).any (·.1) = false := by rfl) (hsw : swapsWith (.Call (.Name x p) (e :: es) [] pos) none pos'.line X.env = pure false := by rfl) : QS X (.Try [.Expr (.Call (.Name x p) (e :: es) [] pos) pos'] [.ExceptHandler (some (.Name xB np)) (some n) (b0 :: suite) hp] [] [] pos3)
      (tTryCall i sp t (fun C => PySem.W.subIn X.K (.ref C) (.ref D0) = some true) ts) := ⟨Sw.ps_tryCall (hfr := hfr) (hf := hf) (F := F) (hr := hr) (hg := hg) (hm := hm) (hk := hk) (hb := hb) (ha := fun E => (ha E).run) (hgB := hgB) (hmB := hmB) (h1 := h1) (h2 := h2) (hD := hD) (hN := hN) (hi := hi) (hl := hl) (hs := fun a => (hs a).run) (hdb := hdb) (hdB := hdB) (he := he) (hpl := hpl) (hsw := hsw)⟩
theorem qs_never {X : Cx} {st : Stmt} : QS X st tNever := ⟨L2.ps_never ⟩
theorem qs_asg {X : Cx} {pos : Pos} {tg e : Expr} {te : TE} {g : TG} (he : QE X e te) (hg : QG X tg g) (hs : swapsWithSole [tg] e pos.line X.env = pure false := by rfl) (hw : swappedStores [tg] e X.env = pure none := by rfl) (h1 : (assignEach [tg] X.env).map (·.2) = [assign tg X.env] := by rfl) : QS X (.Assign [tg] e pos) (tAsg te g) := ⟨L2.ps_asg (he := he.run) (hg := hg.run) (hs := hs) (hw := hw) (h1 := h1)⟩
theorem qss_nil {X : Cx} : QSs X [] tNext := ⟨L2.pss_nil ⟩
theorem qss_cons {X : Cx} {st : Stmt} {rest : List Stmt} {t u : TS} (h1 : QS X st t) (h2 : QSs X rest u) : QSs X (st :: rest) (tSeq t u) := ⟨L2.pss_cons (h1 := h1.run) (h2 := h2.run)⟩
theorem qss_one {X : Cx} {st : Stmt} {t : TS} (h1 : QS X st t) : QSs X [st] t := ⟨L2.pss_one (h1 := h1.run)⟩
theorem qi_range1 {X : Cx} {tg : Expr} {a : Expr} {ta : TA} {p pos : Pos} (hg : Gl X "range") (hm : X.mg "range" = none) (ha : QA X [a] ta) (hs : starEach [a] X.env = [(false, eval a X.env)] := by rfl) : QI X tg (.Call (.Name "range" p) [a] [] pos) (iRng1 ta) := ⟨L2.pi_range1 (hg := hg) (hm := hm) (ha := ha.run) (hs := hs)⟩
theorem qi_range2 {X : Cx} {tg : Expr} {a b : Expr} {ta : TA} {p pos : Pos} (hg : Gl X "range") (hm : X.mg "range" = none) (ha : QA X [a, b] ta) (hs : starEach [a, b] X.env = [(false, eval a X.env), (false, eval b X.env)] := by rfl) (hs2 : starEach [b] X.env = [(false, eval b X.env)] := by rfl) : QI X tg (.Call (.Name "range" p) [a, b] [] pos) (iRng2 ta) := ⟨L2.pi_range2 (hg := hg) (hm := hm) (ha := ha.run) (hs := hs) (hs2 := hs2)⟩
theorem qi_list {X : Cx} {tg : Expr} {l : Expr} {tl : TE} (hl : QE X l tl) : QI X tg l (iList X.K tl) := ⟨L2.pi_list (hl := hl.run)⟩
theorem qi_tup {X : Cx} {tg : Expr} {l : Expr} {tl : TE} (hl : QE X l tl) : QI X tg l (iTup X.K tl) := ⟨L2.pi_tup (hl := hl.run)⟩
theorem qi_str {X : Cx} {x : Str} {px : Pos} {l : Expr} {tl : TE} (hl : QE X l tl) : QI X (.Name x px) l (iStr tl) := ⟨Sw.pi_str (hl := hl.run)⟩
theorem qi_enum {X : Cx} {elts : List Expr} {x1 : Nat} {tp p pos : Pos} {a : Expr} {ta : TE} (hg : Gl X "enumerate") (hm : X.mg "enumerate" = none) (ha : QE X a ta) (hs : starEach [a] X.env = [(false, eval a X.env)] := by rfl) : QI X (.Tuple elts x1 tp) (.Call (.Name "enumerate" p) [a] [] pos) (iEnumS ta) := ⟨Sw.pi_enum (hg := hg) (hm := hm) (ha := ha.run) (hs := hs)⟩
theorem qg_name {X : Cx} {pos : Pos} {i : Nat} {x : Str} (hN : X.N.Nodup) (hi : X.N[i]? = some x) (hx : Loc X.env.scope x) (hf : X.fn x = true ∨ X.env.scope.names.lookup x = some .local := by first | exact .inl rfl | exact .inr rfl | assumption) : QG X (.Name x pos) (gName i) := ⟨L2.pg_name (hN := hN) (hi := hi) (hx := hx) (hf := hf)⟩
theorem qg_tup {X : Cx} {pos : Pos} {es : List Expr} {k : Nat} {t : TGs} {n : Nat} (hc : X.calm = true) (h : QGs X es t) (hn : (assignEach es X.env).length = n := by rfl) (hst : (assignEach es X.env).findIdx? (·.1) = none := by rfl) : QG X (.Tuple es k pos) (gTup X.K n t) := ⟨L2.pg_tup (hc := hc) (h := h.run) (hn := hn) (hst := hst)⟩
theorem qgs_nil {X : Cx} : QGs X [] gNil := ⟨L2.pgs_nil ⟩
theorem qgs_cons {X : Cx} {e : Expr} {es : List Expr} {t : TG} {u : TGs} (h1 : QG X e t) (h2 : QGs X es u) (hs : (assignEach (e :: es) X.env).map (·.2) = assign e X.env :: (assignEach es X.env).map (·.2) := by rfl) : QGs X (e :: es) (gCons t u) := ⟨L2.pgs_cons (h1 := h1.run) (h2 := h2.run) (hs := hs)⟩
theorem qo_none {X : Cx} : QO X none tNoPart := ⟨L2.po_none ⟩
theorem qo_some {X : Cx} {e : Expr} {te : TE} (h : QE X e te) : QO X (some e) (tPart te) := ⟨L2.po_some (h := h.run)⟩
/-- a def's body, shut -/
theorem okQ {P : Program} {w : World} {K : PySem.W.Frag} {mg : Str → Option Value} {base : Heap} {x qual : Str} {st : Stmt} {f : Addr} {fd : FuncData} {N ps : List Str} {k : Nat} {sp : Sp} (F : Fun K x qual st f fd) (S : FnScope N ps (defScope st)) (len : ∀ vs H Q E, sp vs H Q E → vs.length = ps.length)
    (hb : ∀ (cdv : Value) (A : Around) (outer : List Env) (s : Shared) (H : Hp) (vs : List V) (Q : VK) (E : XK), Room k (A.deeper (envOfC qual (defScope st) s.heap.objs.size f cdv)) → sp vs H Q E →
      ∃ t, QSs (cxOf CX0 P w K mg base N qual (defScope st) f cdv A outer s H E).nox (defBody st) t ∧ t { nx := fun _ H' => Q .non H', rt := Q } (start N vs) H) : FnOk P w K mg base CX0 (k + 1) f fd ps sp :=
  F.ok S len fun cdv A outer s H vs Q E hr h => let ⟨t, q, r⟩ := hb cdv A outer s H vs Q E hr h; ⟨t, q.run, r⟩
theorem okXQ {P : Program} {w : World} {K : PySem.W.Frag} {mg : Str → Option Value} {base : Heap} {x qual : Str} {st : Stmt} {f : Addr} {fd : FuncData} {N ps : List Str} {k : Nat} {sp : Sp} (F : Fun K x qual st f fd) (S : FnScope N ps (defScope st)) (len : ∀ vs H Q E, sp vs H Q E → vs.length = ps.length)
    (hb : ∀ (cdv : Value) (A : Around) (outer : List Env) (s : Shared) (H : Hp) (vs : List V) (Q : VK) (E : XK), Room k (A.deeper (envOfC qual (defScope st) s.heap.objs.size f cdv)) → sp vs H Q E →
      ∃ t, QSs (cxOf (CXE P w) P w K mg base N qual (defScope st) f cdv A outer s H E) (defBody st) t ∧ t { nx := fun _ H' => Q .non H', rt := Q } (start N vs) H) : FnOk P w K mg base (CXE P w) (k + 1) f fd ps sp :=
  okX F S len fun cdv A outer s H vs Q E hr h => let ⟨t, q, r⟩ := hb cdv A outer s H vs Q E hr h; ⟨t, q.run, r⟩
end Sw

/-! ## small things in use by many laws -/
namespace Sw
open PySem PySem.Spec PyProof.Rows L2
theorem bt_len : bootBuiltins "len" = some (.builtin "len") := by decide +kernel
theorem bt_sum : bootBuiltins "sum" = some (.builtin "sum") := by decide +kernel
theorem bt_max : bootBuiltins "max" = some (.builtin "max") := by decide +kernel
theorem bt_min : bootBuiltins "min" = some (.builtin "min") := by decide +kernel
theorem bt_isinstance : bootBuiltins "isinstance" = some (.builtin "isinstance") := by decide +kernel
theorem bt_int : bootBuiltins "int" = some (.type "int") := by decide +kernel
theorem bt_str : bootBuiltins "str" = some (.type "str") := by decide +kernel
theorem bt_bool : bootBuiltins "bool" = some (.type "bool") := by decide +kernel
theorem bt_tuple : bootBuiltins "tuple" = some (.type "tuple") := by decide +kernel
theorem bt_list : bootBuiltins "list" = some (.type "list") := by decide +kernel
theorem small {n : Nat} (h : n ≤ 1000000) : n ≤ sizeLine := Nat.le_trans h (by decide)
theorem smallL {n : Nat} (h : n ≤ 1000000) : n < sizeLine := Nat.lt_of_le_of_lt h (by decide)
theorem last_of {α : Type} {ys : List α} (h : ys ≠ []) : ∃ y, ys[ys.length - 1]? = some y := by
  have : ys.length - 1 < ys.length := by
    have := List.length_pos_iff.mpr h
    omega
  exact ⟨ys[ys.length - 1], List.getElem?_eq_getElem this⟩
theorem single_flat {α : Type} : ∀ l : List α, (l.map fun c => [c]).flatten = l
  | [] => rfl
  | c :: l => by rw [List.map_cons, List.flatten_cons, single_flat l]; rfl
theorem All2.dropLast {α β : Type} {R : α → β → Prop} {as : List α} {bs : List β} (h : All2 R as bs) : All2 R as.dropLast bs.dropLast := by
  rw [List.dropLast_eq_take, List.dropLast_eq_take, h.length]
  exact h.take _
theorem drop_last {α : Type} {ys : List α} {y : α} (h : ys[ys.length - 1]? = some y) : ys = ys.dropLast ++ [y] := by
  have hne : ys ≠ [] := by rintro rfl; simp at h
  have h2 := List.dropLast_concat_getLast hne
  have h3 : ys.getLast hne = y := by
    rw [← List.getLast?_eq_getElem?, List.getLast?_eq_some_getLast hne] at h
    exact Option.some.inj h
  rw [h3] at h2
  exact h2.symm
theorem cut_from (xs : List V) (k : Nat) : cutV xs (some (k : Int)) none = xs.drop k := by
  unfold cutV
  rw [HT.sIx_nat, HT.sIx_none]
  by_cases h : k ≤ xs.length
  · rw [Nat.min_eq_left h, List.take_of_length_le (by rw [List.length_drop]; omega)]
  · rw [Nat.min_eq_right (by omega), List.drop_eq_nil_of_le (by omega), List.drop_eq_nil_of_le (by omega), List.take_nil]
theorem cut_to (xs : List V) (k : Nat) : cutV xs none (some (k : Int)) = xs.take k := by
  unfold cutV
  rw [HT.sIx_nat, HT.sIx_none, List.drop_zero, Nat.sub_zero]
  by_cases h : k ≤ xs.length
  · rw [Nat.min_eq_left h]
  · rw [Nat.min_eq_right (by omega), List.take_of_length_le (Nat.le_refl _), List.take_of_length_le (by omega)]
section
variable {K : PySem.W.Frag}
theorem All2.rev {α β : Type} {R : α → β → Prop} {as : List α} {bs : List β} (h : All2 R as bs) : All2 R as.reverse bs.reverse := by
  induction h with
  | nil => exact .nil
  | cons r _ ih => rw [List.reverse_cons, List.reverse_cons]; exact ih.append (All2.one r)
/-- an open row: a list of its own that holds these trees -/
def RowAt (K : PySem.W.Frag) (H₀ H : Hp) (ts : List T) (x : V) : Prop := ∃ a xs, x = .ref a ∧ H₀ a = none ∧ H a = some (.lst xs) ∧ TRs K H ts xs
/-- the rows at p, the innermost last -/
structure RowsR (K : PySem.W.Frag) (H₀ H : Hp) (p : Addr) (st : List (List T)) (ys : List V) : Prop where
  new : H₀ p = none
  same : Same H₀ H
  at_ : H p = some (.lst ys)
  rows : All2 (RowAt K H₀ H) st.reverse ys
  nd : ((.ref p : V) :: ys).Nodup
theorem RowAt.upd {H₀ H : Hp} {p : Addr} {o : HO} {ts : List T} {x : V} (h : RowAt K H₀ H ts x) (hne : x ≠ .ref p) (k : Kt H (upd H p o)) : RowAt K H₀ (upd H p o) ts x := by
  obtain ⟨a, xs, rfl, h1, h2, h3⟩ := h
  exact ⟨a, xs, rfl, h1, by rw [upd_ne (fun z => hne (by rw [z]))]; exact h2, h3.mono k⟩
theorem rows_upd {H₀ H : Hp} {p : Addr} {o : HO} (k : Kt H (upd H p o)) : ∀ {ss : List (List T)} {ys : List V}, All2 (RowAt K H₀ H) ss ys → (.ref p : V) ∉ ys → All2 (RowAt K H₀ (upd H p o)) ss ys := by
  intro ss ys h
  induction h with
  | nil => intro _; exact .nil
  | cons r _ ih => intro hn; exact .cons (r.upd (fun z => hn (by rw [z]; exact List.mem_cons_self)) k) (ih fun z => hn (List.mem_cons_of_mem _ z))
theorem rows_open {H₀ H : Hp} {p q : Addr} {st : List (List T)} {ys : List V} (R : RowsR K H₀ H p st ys) (hq : H q = none) : RowsR K H₀ (upd (upd H q (.lst [])) p (.lst (ys ++ [.ref q]))) p ([] :: st) (ys ++ [.ref q]) := by
  have npq : p ≠ q := ne_of_none R.at_ hq
  have hq0 : H₀ q = none := R.same.free hq
  have nin : (.ref q : V) ∉ ys := fun hm => by
    obtain ⟨i, hi⟩ := List.mem_iff_getElem?.mp hm
    obtain ⟨ts, _, a, xs, e, _, h2, _⟩ := R.rows.get hi
    cases e
    rw [hq] at h2
    cases h2
  have nd := List.nodup_cons.mp R.nd
  have k1 : Kt H (upd H q (.lst [])) := Kt.new hq
  have h1 : upd H q (.lst []) p = some (.lst ys) := by rw [upd_ne npq]; exact R.at_
  have k2 : Kt (upd H q (.lst [])) (upd (upd H q (.lst [])) p (.lst (ys ++ [.ref q]))) := Kt.lst h1
  refine ⟨R.new, same_upd (same_upd R.same hq0) R.new, upd_same, ?_, ?_⟩
  · rw [List.reverse_cons]
    refine All2.append (rows_upd k2 (rows_upd k1 R.rows nin) nd.1) (All2.one ⟨q, [], rfl, hq0, ?_, TRs_nil.mpr rfl⟩)
    rw [upd_ne (Ne.symm npq)]
    exact upd_same
  · rw [← List.cons_append]
    refine List.nodup_append.mpr ⟨R.nd, by simp, fun x hx y hy e => ?_⟩
    have ey : y = .ref q := by simpa using hy
    rw [ey] at e
    subst e
    rcases List.mem_cons.mp hx with z | z
    · exact npq (V.ref.inj z).symm
    · exact nin z
theorem All2.snoc {α β : Type} {R : α → β → Prop} {as : List α} {a : α} {bs : List β} (h : All2 R (as ++ [a]) bs) : ∃ bs' b, bs = bs' ++ [b] ∧ All2 R as bs' ∧ R a b := by
  induction as generalizing bs with
  | nil =>
    cases h with
    | cons r h => cases h; exact ⟨[], _, rfl, .nil, r⟩
  | cons c as ih =>
    cases h with
    | cons r h =>
      obtain ⟨bs', b, rfl, h1, h2⟩ := ih h
      exact ⟨_ :: bs', b, rfl, .cons r h1, h2⟩
theorem rows_shut {H₀ H : Hp} {p : Addr} {r r' : List T} {rs : List (List T)} {ys : List V} (R : RowsR K H₀ H p (r :: r' :: rs) ys) :
    ∃ (ys0 : List V) (a' a : Addr) (xs' xs : List V), ys = ys0 ++ [.ref a'] ++ [.ref a] ∧ H a = some (.lst xs) ∧ H a' = some (.lst xs') ∧ p ≠ a ∧ p ≠ a' ∧ xs.length = r.length ∧ xs'.length = r'.length ∧
      ∀ b, upd H p (.lst (ys0 ++ [.ref a'])) b = none → RowsR K H₀ (upd (upd (upd H p (.lst (ys0 ++ [.ref a']))) b (.tup xs)) a' (.lst (xs' ++ [.ref b]))) p ((r' ++ [.node r]) :: rs) (ys0 ++ [.ref a']) := by
  have hr := R.rows
  rw [List.reverse_cons, List.reverse_cons] at hr
  obtain ⟨ys1, y, rfl, h1, a, xs, rfl, ha0, ha, hta⟩ := All2.snoc hr
  obtain ⟨ys0, y', rfl, h2, a', xs', rfl, ha0', ha', hta'⟩ := All2.snoc h1
  have nd := R.nd
  have ndp : (.ref p : V) ∉ ys0 ++ [.ref a'] ++ [.ref a] := (List.nodup_cons.mp nd).1
  have ndy := (List.nodup_cons.mp nd).2
  have npa : p ≠ a := fun z => ndp (by rw [z]; simp)
  have npa' : p ≠ a' := fun z => ndp (by rw [z]; simp)
  have nd1 : (ys0 ++ [V.ref a']).Nodup := (List.nodup_append.mp ndy).1
  have na' : (.ref a' : V) ∉ ys0 := fun z => (List.nodup_append.mp nd1).2.2 _ z _ (by simp) rfl
  refine ⟨ys0, a', a, xs', xs, rfl, ha, ha', npa, npa', hta.length, hta'.length, fun b hb => ?_⟩
  have k1 : Kt H (upd H p (.lst (ys0 ++ [.ref a']))) := Kt.lst R.at_
  have k2 : Kt (upd H p (.lst (ys0 ++ [.ref a']))) (upd (upd H p (.lst (ys0 ++ [.ref a']))) b (.tup xs)) := Kt.new hb
  have npb : p ≠ b := fun z => by rw [← z, upd_same] at hb; cases hb
  have nab : a' ≠ b := fun z => by
    rw [← z, upd_ne (Ne.symm npa'), ha'] at hb
    cases hb
  have hbH : H b = none := by rw [upd_ne (Ne.symm npb)] at hb; exact hb
  have hb0 : H₀ b = none := R.same.free hbH
  have h3 : upd (upd H p (.lst (ys0 ++ [.ref a']))) b (.tup xs) a' = some (.lst xs') := by rw [upd_ne nab, upd_ne (Ne.symm npa')]; exact ha'
  have k3 : Kt (upd (upd H p (.lst (ys0 ++ [.ref a']))) b (.tup xs)) (upd (upd (upd H p (.lst (ys0 ++ [.ref a']))) b (.tup xs)) a' (.lst (xs' ++ [.ref b]))) := Kt.lst h3
  have nb0 : (.ref b : V) ∉ ys0 := fun hm => by
    obtain ⟨i, hi⟩ := List.mem_iff_getElem?.mp hm
    obtain ⟨ts, _, c, zs, e, _, g2, _⟩ := h2.get hi
    cases e
    rw [hbH] at g2
    cases g2
  have np0 : (.ref p : V) ∉ ys0 := fun z => ndp (by simp [z])
  refine ⟨R.new, same_upd (same_upd (same_upd R.same R.new) hb0) ha0', ?_, ?_, ?_⟩
  · rw [upd_ne npa', upd_ne npb]
    exact upd_same
  · rw [List.reverse_cons]
    refine All2.append (rows_upd k3 (rows_upd k2 (rows_upd k1 h2 np0) nb0) na') (All2.one ⟨a', xs' ++ [.ref b], rfl, ha0', upd_same, ?_⟩)
    have kk := k1.trans (k2.trans k3)
    refine TRs.append (hta'.mono kk) (TRs_cons.mpr ⟨_, [], rfl, TR_mk (xs := xs) (SqT.of ?_) (hta.mono kk), TRs_nil.mpr rfl⟩)
    rw [upd_ne (Ne.symm nab)]
    exact upd_same
  · exact List.nodup_cons.mpr ⟨fun z => ndp (by rcases List.mem_append.mp z with z | z <;> simp [z] <;> simp_all), nd1⟩
theorem at_last {ys : List V} {v : V} : atI (ys ++ [v]) (-1) = some v := by
  unfold atI ixN
  have hl : (ys ++ [v]).length = ys.length + 1 := by simp
  rw [if_neg (by decide), if_pos (by rw [hl]; omega), hl, show ((-1 : Int) + ((ys.length + 1 : Nat) : Int)).toNat = ys.length by omega, Option.bind_some]
  simp
/-- the block of a comprehension that looks at its own name alone -/
theorem lc_own {X : Cx} {scope : Scope} {x : Str} (hk : scope.kind = .function) (hn : scope.names = [(Str.ofString ".0", NameKind.local), (x, NameKind.local)]) (hx : (x == (".0" : Str)) = false) : LcOk X scope x [] [] [] where
  kind := hk
  clos := closureFor_none fun y hy z => by
    rw [hn] at hy
    rcases List.mem_cons.mp hy with e | e
    · rw [e] at z; cases z
    · rw [List.mem_singleton.mp e] at z; cases z
  cell := fun y hy z => by
    rw [hn] at hy
    rcases List.mem_cons.mp hy with e | e
    · rw [e] at z; cases z
    · rw [List.mem_singleton.mp e] at z; cases z
  loc := fun y hy _ => by
    rw [hn] at hy ⊢
    rcases List.mem_cons.mp hy with e | e
    · rw [e]; rfl
    · rw [List.mem_singleton.mp e]
      simp [List.lookup_cons, hx]
  var := by rw [hn]; simp [List.lookup_cons, hx]
  sub := fun y c e => by simp at e
  has := fun y hy => by
    exfalso
    have key : ∀ k, (relabel scope X.env).names.lookup y = some k → k = .local := fun k e => by
      have hr : (relabel scope X.env).names = [(Str.ofString ".0", NameKind.local), (x, NameKind.local)] := by
        unfold relabel
        simp only [hn, List.map_cons, List.map_nil]
        rfl
      rw [hr] at e
      have := PySem.mem_of_lookup e
      rcases List.mem_cons.mp this with e | e
      · cases e; rfl
      · have := List.mem_singleton.mp e
        cases this; rfl
    rcases hy with h | h
    · exact absurd (key _ h) (by decide)
    · exact absurd (key _ h) (by decide)
  frk := trivial
  nd := by simp

theorem trs_of {K : PySem.W.Frag} {H : Hp} {ts : List T} {ys : List V} (h : All2 (fun t y => TR K H t y) ts ys) : TRs K H ts ys := by
  induction h with
  | nil => exact TRs_nil.mpr rfl
  | cons r _ ih => exact TRs_cons.mpr ⟨_, _, rfl, r, ih⟩
/-! ### tests, evaluated -/
theorem t_and {t u : TT} {σ : Sg} {H H1 H2 : Hp} {Q : Bool → Hp → Prop} {b1 b2 : Bool} (h1 : ∀ R : Bool → Hp → Prop, R b1 H1 → t σ H R) (h2 : ∀ R : Bool → Hp → Prop, R b2 H2 → u σ H1 R) (q1 : b1 = true → Q b2 H2) (q2 : b1 = false → Q false H1) : tAnd t u σ H Q := by
  refine h1 _ ?_
  cases b1 with
  | true => exact iteT (h2 _ (q1 rfl))
  | false => exact iteF (q2 rfl)
theorem t_or {t u : TT} {σ : Sg} {H H1 H2 : Hp} {Q : Bool → Hp → Prop} {b1 b2 : Bool} (h1 : ∀ R : Bool → Hp → Prop, R b1 H1 → t σ H R) (h2 : ∀ R : Bool → Hp → Prop, R b2 H2 → u σ H1 R) (q1 : b1 = true → Q true H1) (q2 : b1 = false → Q b2 H2) : tOr t u σ H Q := by
  refine h1 _ ?_
  cases b1 with
  | true => exact iteT (q1 rfl)
  | false => exact iteF (h2 _ (q2 rfl))
theorem t_and0 {t u : TT} {σ : Sg} {H : Hp} {Q : Bool → Hp → Prop} {b1 b2 : Bool} (h1 : ∀ R : Bool → Hp → Prop, R b1 H → t σ H R) (h2 : ∀ R : Bool → Hp → Prop, R b2 H → u σ H R) (q : Q (b1 && b2) H) : tAnd t u σ H Q :=
  t_and h1 h2 (fun e => by subst e; exact q) (fun e => by subst e; exact q)
theorem t_or0 {t u : TT} {σ : Sg} {H : Hp} {Q : Bool → Hp → Prop} {b1 b2 : Bool} (h1 : ∀ R : Bool → Hp → Prop, R b1 H → t σ H R) (h2 : ∀ R : Bool → Hp → Prop, R b2 H → u σ H R) (q : Q (b1 || b2) H) : tOr t u σ H Q :=
  t_or h1 h2 (fun e => by subst e; exact q) (fun e => by subst e; exact q)
end
end Sw

/-! ## tuples added and repeated, comprehensions whose elements change the heap, decks -/
namespace Sw
open PySem PySem.Spec PyProof.Rows L2
section
variable {X : Cx}
/-- t + u, any tuples -/
def rCatTA (K : PySem.W.Frag) : R2 := fun x y H Q => ∃ a b xs ys, x = .ref a ∧ y = .ref b ∧ SqT K H a xs ∧ SqT K H b ys ∧ xs.length + ys.length ≤ sizeLine ∧ ∀ p H', Same H H' → SqT K H' p (xs ++ ys) → Q (.ref p) H'
theorem op_catTA : OpR X (binaryOp .Add) (rCatTA X.K) := by
  intro pins s σ H x y v u Q I rx ry h
  obtain ⟨a, b, xs, ys, rfl, rfl, ha, hb, hz, q⟩ := h
  by_cases hx : xs = []
  · subst hx
    cases rx
    cases ry
    obtain ⟨its, r1, p1, _⟩ := I.tuple ha
    obtain ⟨its2, r2, p2, _⟩ := I.tuple hb
    have e1 : its = [] := r1.nil_iff.mpr rfl
    subst e1
    obtain ⟨⟨cls, dd, data, sl⟩, ho, hc, n, hd⟩ := id p1
    obtain ⟨⟨cls2, dd2, data2, sl2⟩, ho2, hc2, n2, hd2⟩ := id p2
    simp only at hc hd hc2 hd2
    subst hc hd hc2 hd2
    exact concat_meets ⟨_, ho, rfl⟩ ⟨_, ho2, rfl⟩ noFill_tuple_add seq_tuple_add PySem.F.slot_tuple_add PySem.F.entry_tuple_add (PySem.F.args_tuple_add_2 _ _)
      (tuple_addW0 a b ([] : List Value).toArray its2.toArray n n2 dd dd2 sl sl2 rfl) ⟨ho, ho2, ⟨.ref b, H, I, rfl, q b H (Same.refl H) hb⟩⟩
  · refine op_catT pins s σ H _ _ v u Q I rx ry ⟨a, b, xs, ys, rfl, rfl, ha, hb, hx, hz, fun e => ?_, fun _ p hp => q p _ (same_new hp _) (SqT.of upd_same)⟩
    subst e
    exact q a H (Same.refl H) (by rw [List.append_nil]; exact ha)

/-! ### t * n -/
theorem noFill_tuple_mul : fillsNumberSlot (.type "tuple") "mul" = pure false := by
  first | kernel_rfl | (unfold fillsNumberSlot; kernel_rfl)
theorem repeat_tuple : seqRepeat? (.type "tuple") = pure (some (.builtin "tuple.__mul__")) := by
  unfold seqRepeat?
  first | kernel_rfl | (simp only [typeLookup_type, builtinLookup_eq_fast]; kernel_rfl) | rfl
theorem rmul_tuple (a : Int) (t : Tok) (l : Addr) (items : Array Value) (n : Nat) (dd : Option Addr) (sl : Array (Option Value)) :
    Meets (Builtin.«int.__rmul__» ⟨[.int a t, .ref l], []⟩) (fun _ R s => s.heap.get? l = some { cls := .type "tuple", dict := dd, data := .seq items n, slots := sl } ∧ R (.ok (.ret Value.notImplemented)) s) :=
  .of_wp fun prog w A R s h => by
    obtain ⟨hp, g, d, tk, os⟩ := s
    obtain ⟨hl, h⟩ := h
    wp_walk
    exact ⟨_, rfl, h⟩
theorem tmul_same (l : Addr) (items : Array Value) (n : Nat) (dd : Option Addr) (sl : Array (Option Value)) (k : Int) (t : Tok) (h0 : (items.isEmpty || k == 1) = true) (h1 : ¬ (decide (k < -(2 ^ 63)) || decide (k ≥ 2 ^ 63)) = true) :
    Meets (Builtin.«tuple.__mul__» ⟨[.ref l, .int k t], []⟩) (fun _ R s => s.heap.get? l = some { cls := .type "tuple", dict := dd, data := .seq items n, slots := sl } ∧ R (.ok (.ret (.ref l))) s) :=
  .of_wp fun prog w A R s h => by
    obtain ⟨hp, g, d, tk, os⟩ := s
    obtain ⟨hl, h⟩ := h
    have f1 := AutoSeq1.idx_int
    have f2 := AutoSeq1.sub_tuple_tuple
    wp_walk using AutoSeq1.wpAny_loadPart' hl
    rw [if_neg h1]
    wp_walk using AutoSeq1.wpAny_loadPart' hl
    exact ⟨_, rfl, h⟩
theorem tmul_zero (l : Addr) (items : Array Value) (n : Nat) (dd : Option Addr) (sl : Array (Option Value)) (k : Int) (t : Tok) (h0 : ¬ (items.isEmpty || k == 1) = true) (h1 : ¬ (decide (k < -(2 ^ 63)) || decide (k ≥ 2 ^ 63)) = true) (h2 : (decide (k ≤ 0) || items.isEmpty) = true) :
    Meets (Builtin.«tuple.__mul__» ⟨[.ref l, .int k t], []⟩) (fun _ R s => s.heap.get? l = some { cls := .type "tuple", dict := dd, data := .seq items n, slots := sl } ∧ R (.ok (.ret (.ref s.heap.objs.size))) { s with heap := s.heap.push { cls := .type "tuple", data := .seq #[] } }) :=
  .of_wp fun prog w A R s h => by
    obtain ⟨hp, g, d, tk, os⟩ := s
    obtain ⟨hl, h⟩ := h
    have f1 := AutoSeq1.idx_int
    have f2 := AutoSeq1.sub_tuple_tuple
    wp_walk using AutoSeq1.wpAny_loadPart' hl
    rw [if_neg h1]
    wp_walk using AutoSeq1.wpAny_loadPart' hl
    exact ⟨_, rfl, h⟩
theorem tmul_more (l : Addr) (items : Array Value) (n : Nat) (dd : Option Addr) (sl : Array (Option Value)) (k : Int) (t : Tok) (h0 : ¬ (items.isEmpty || k == 1) = true) (h1 : ¬ (decide (k < -(2 ^ 63)) || decide (k ≥ 2 ^ 63)) = true) (h2 : ¬ (decide (k ≤ 0) || items.isEmpty) = true)
    (h3 : ¬ (items.size : Int) * k > (2 ^ 63 - 1) / 8) (h4 : ¬ Builtin.Tuple.tupleTooMany ((items.size : Int) * k) = true) (h5 : ((List.replicate k.toNat items).foldl (· ++ ·) #[]).size ≤ sizeLine) :
    Meets (Builtin.«tuple.__mul__» ⟨[.ref l, .int k t], []⟩) (fun _ R s => s.heap.get? l = some { cls := .type "tuple", dict := dd, data := .seq items n, slots := sl } ∧ R (.ok (.ret (.ref s.heap.objs.size))) { s with heap := s.heap.push { cls := .type "tuple", data := .seq ((List.replicate k.toNat items).foldl (· ++ ·) #[]) } }) :=
  .of_wp fun prog w A R s h => by
    obtain ⟨hp, g, d, tk, os⟩ := s
    obtain ⟨hl, h⟩ := h
    have f1 := AutoSeq1.idx_int
    have f2 := AutoSeq1.sub_tuple_tuple
    wp_walk using AutoSeq1.wpAny_loadPart' hl
    rw [if_neg h1]
    wp_walk using AutoSeq1.wpAny_loadPart' hl
    rw [if_neg h3]
    wp_walk using AutoSeq1.wpAny_loadPart' hl
    exact ⟨_, rfl, h⟩
def repV (xs : List V) (k : Int) : List V := (List.replicate k.toNat xs).flatten
/-- t * k -/
def rRepTA (K : PySem.W.Frag) : R2 := fun x y H Q => ∃ a k xs, x = .ref a ∧ y = .int k ∧ SqT K H a xs ∧ -(2 ^ 62) ≤ k ∧ k < 2 ^ 62 ∧ xs.length * k.toNat ≤ sizeLine ∧ ∀ p H', Same H H' → SqT K H' p (repV xs k) → Q (.ref p) H'
theorem op_repTA : OpR X (binaryOp .Mult) (rRepTA X.K) := by
  intro pins s σ H x y v u Q I rx ry h
  obtain ⟨a, k, xs, rfl, rfl, ha, h1, h2, hz, q⟩ := h
  cases rx
  obtain ⟨t, rfl⟩ := ry
  obtain ⟨its, r, p1, hzx⟩ := I.tuple ha
  have hlen := r.length
  obtain ⟨⟨cls, dd, data, sl⟩, ho, hc, n, hd⟩ := id p1
  simp only at hc hd
  subst hc hd
  have b1 : ¬ (decide (k < -(2 ^ 63)) || decide (k ≥ 2 ^ 63)) = true := by
    rw [decide_eq_false (by omega), decide_eq_false (by omega)]
    decide
  refine wpAny_binaryOp_repeat_ref (T := "tuple") (U := "int") (by decide) ⟨_, ho, rfl⟩ (fun s' => typeIs_int s' k t) noFill_tuple_mul F.fills_int_mul F.slot_int_rmul repeat_tuple F.slot_int_index.lookup
    (call_meets F.slot_int_rmul (typeIs_int s k t) F.entry_int_rmul (F.args_int_rmul_2 _ _) (rmul_tuple k t a its.toArray n dd sl) ⟨ho, rfl, ⟨_, ho, rfl⟩, ?_⟩)
  by_cases c0 : (its.toArray.isEmpty || k == 1) = true
  · refine call_meets F.slot_tuple_mul ⟨_, ho, rfl⟩ F.entry_tuple_mul (F.args_tuple_mul_2 _ _) (tmul_same a its.toArray n dd sl k t c0 b1) ⟨ho, ⟨.ref a, H, I, rfl, q a H (Same.refl H) ?_⟩⟩
    rcases Bool.or_eq_true_iff.mp c0 with z | z
    · have : its = [] := by simpa using z
      have hx : xs = [] := r.nil_iff.mp this
      subst hx
      have : repV ([] : List V) k = [] := by unfold repV; simp
      rw [this]
      exact ha
    · have : k = 1 := by simpa using z
      subst this
      have : repV xs 1 = xs := by unfold repV; simp
      rw [this]
      exact ha
  · by_cases c2 : (decide (k ≤ 0) || its.toArray.isEmpty) = true
    · refine call_meets F.slot_tuple_mul ⟨_, ho, rfl⟩ F.entry_tuple_mul (F.args_tuple_mul_2 _ _) (tmul_zero a its.toArray n dd sl k t c0 b1 c2) ⟨ho, ?_⟩
      have hk : k ≤ 0 := by
        rcases Bool.or_eq_true_iff.mp c2 with z | z
        · exact of_decide_eq_true z
        · rw [z] at c0
          exact absurd rfl c0
      have e0 : repV xs k = [] := by
        unfold repV
        rw [show k.toNat = 0 by omega]
        rfl
      refine ⟨.ref s.heap.objs.size, _, I.laid (t' := s.toks) (o := .tup []) (fun b ob z => Heap.get?_push_of_some _ z) (Nat.le_refl _) ?_, rfl, q _ _ (same_new (I.hok.fresh (Nat.le_refl _)) _) (by rw [e0]; exact SqT.of upd_same)⟩
      exact ⟨Nat.zero_le _, [], .nil, IsTup.new _ _⟩
    · have hk : 0 < k := by
        by_cases hk : k ≤ 0
        · rw [decide_eq_true hk] at c2
          exact absurd rfl c2
        · omega
      have hsz : its.toArray.size * k.toNat ≤ sizeLine := by rw [List.size_toArray, ← hlen]; exact hz
      have hsl : (sizeLine : Nat) = 16777216 := sizeLine_eq
      have hpr : (its.toArray.size : Int) * k = ((its.toArray.size * k.toNat : Nat) : Int) := by
        rw [Int.natCast_mul, show ((k.toNat : Nat) : Int) = k by omega]
      have hnew : (List.replicate k.toNat its.toArray).foldl (· ++ ·) #[] = (List.replicate k.toNat its).flatten.toArray := by
        have := foldl_rep its k.toNat []
        rw [List.nil_append] at this
        exact this
      have hrl : (List.replicate k.toNat its).flatten.length ≤ sizeLine := by
        rw [len_rep, Nat.mul_comm]
        simpa using hsz
      refine call_meets F.slot_tuple_mul ⟨_, ho, rfl⟩ F.entry_tuple_mul (F.args_tuple_mul_2 _ _) (tmul_more a its.toArray n dd sl k t c0 b1 c2 ?_ ?_ ?_) ⟨ho, ?_⟩
      · rw [hpr]
        have : ((2 : Int) ^ 63 - 1) / 8 = 1152921504606846975 := by decide
        rw [this]
        omega
      · unfold Builtin.Tuple.tupleTooMany
        rw [hpr, decide_eq_false (by omega)]
        decide
      · rw [hnew, List.size_toArray]
        exact hrl
      · rw [hnew]
        have rr := r.rep k.toNat
        refine ⟨.ref s.heap.objs.size, _, I.laid (t' := s.toks) (o := .tup (repV xs k)) (fun b ob z => Heap.get?_push_of_some _ z) (Nat.le_refl _) ?_, rfl, q _ _ (same_new (I.hok.fresh (Nat.le_refl _)) _) (SqT.of upd_same)⟩
        exact ⟨by unfold repV; rw [rr.length]; exact hrl, _, rr, IsTup.new _ _⟩
end

/-! ### a comprehension whose elements change the heap -/
theorem lc_rangeI {H : Hp} {lo : Int} {n : Nat} {σ : Sg} {js : List Nat} {te : TE} {Q : VK} (J : Addr → Nat → List V → Hp → Prop) (hz : n ≤ sizeLine) (h0 : ∀ D, H D = none → J D 0 [] (upd H D (.lst [])))
    (hD : ∀ D i ys H', J D i ys H' → H' D = some (.lst ys) ∧ ys.length = i)
    (hte : ∀ D i ys H' (R : VK), i < n → J D i ys H' → (∀ y H3, H3 D = some (.lst ys) → J D (i + 1) (ys ++ [y]) (upd H3 D (.lst (ys ++ [y]))) → R y H3) → te (some (.int (lo + i)) :: frv σ js) H' R)
    (q : ∀ D ys H', J D n ys H' → Q (.ref D) H') : LcRun (Itr lo n) js te σ Q H := by
  intro D hDn
  refine ⟨fun i m ys H' => m = n - i ∧ i ≤ n ∧ J D i ys H', ⟨n, by omega, Nat.zero_le _, h0 D hDn⟩, ?_⟩
  rintro i m ys H' ⟨rfl, hi, hj⟩
  obtain ⟨h1, h2⟩ := hD D i ys H' hj
  refine ⟨h1, ?_⟩
  by_cases hlt : i < n
  · refine .inr ⟨hlt, fun x H2 y => ?_⟩
    obtain ⟨e, y⟩ := y
    subst e
    subst y
    exact hte D i ys _ _ hlt hj fun y H3 g1 g2 => ⟨g1, by omega, n - (i + 1), by omega, rfl, hlt, g2⟩
  · have e : i = n := by omega
    subst e
    exact .inl ⟨Nat.le_refl _, q D ys H' hj⟩
theorem lc_tupI {K : PySem.W.Frag} {H : Hp} {a : Addr} {xs : List V} {σ : Sg} {js : List Nat} {te : TE} {Q : VK} (J : Addr → Nat → List V → Hp → Prop) (hz : xs.length ≤ sizeLine) (h0 : ∀ D, H D = none → J D 0 [] (upd H D (.lst [])))
    (hD : ∀ D i ys H', J D i ys H' → H' D = some (.lst ys) ∧ ys.length = i ∧ SqT K H' a xs)
    (hte : ∀ D i x ys H' (R : VK), xs[i]? = some x → J D i ys H' → (∀ y H3, H3 D = some (.lst ys) → J D (i + 1) (ys ++ [y]) (upd H3 D (.lst (ys ++ [y]))) → R y H3) → te (some x :: frv σ js) H' R)
    (q : ∀ D ys H', J D xs.length ys H' → Q (.ref D) H') : LcRun (Itt K a) js te σ Q H := by
  intro D hDn
  refine ⟨fun i m ys H' => m = xs.length - i ∧ i ≤ xs.length ∧ J D i ys H', ⟨xs.length, by omega, Nat.zero_le _, h0 D hDn⟩, ?_⟩
  rintro i m ys H' ⟨rfl, hi, hj⟩
  obtain ⟨h1, h2, h3⟩ := hD D i ys H' hj
  refine ⟨h1, ?_⟩
  by_cases hlt : i < xs.length
  · refine .inr ⟨⟨xs, xs[i], h3, List.getElem?_eq_getElem hlt⟩, fun x H2 y => ?_⟩
    obtain ⟨e, y⟩ := y
    subst e
    exact hte D i x ys _ _ (y xs h3) hj fun y H3 g1 g2 => ⟨g1, by omega, xs.length - (i + 1), by omega, rfl, hlt, g2⟩
  · have e : i = xs.length := by omega
    subst e
    exact .inl ⟨⟨xs, h3, Nat.le_refl _⟩, q D ys H' hj⟩
theorem lc_listI {K : PySem.W.Frag} {H : Hp} {a : Addr} {xs : List V} {σ : Sg} {js : List Nat} {te : TE} {Q : VK} (J : Addr → Nat → List V → Hp → Prop) (hz : xs.length ≤ sizeLine) (h0 : ∀ D, H D = none → J D 0 [] (upd H D (.lst [])))
    (hD : ∀ D i ys H', J D i ys H' → H' D = some (.lst ys) ∧ ys.length = i ∧ SqL K H' a xs)
    (hte : ∀ D i x ys H' (R : VK), xs[i]? = some x → J D i ys H' → (∀ y H3, H3 D = some (.lst ys) → J D (i + 1) (ys ++ [y]) (upd H3 D (.lst (ys ++ [y]))) → R y H3) → te (some x :: frv σ js) H' R)
    (q : ∀ D ys H', J D xs.length ys H' → Q (.ref D) H') : LcRun (Itl K a) js te σ Q H := by
  intro D hDn
  refine ⟨fun i m ys H' => m = xs.length - i ∧ i ≤ xs.length ∧ J D i ys H', ⟨xs.length, by omega, Nat.zero_le _, h0 D hDn⟩, ?_⟩
  rintro i m ys H' ⟨rfl, hi, hj⟩
  obtain ⟨h1, h2, h3⟩ := hD D i ys H' hj
  refine ⟨h1, ?_⟩
  by_cases hlt : i < xs.length
  · refine .inr ⟨⟨xs, xs[i], h3, List.getElem?_eq_getElem hlt⟩, fun x H2 y => ?_⟩
    obtain ⟨e, y⟩ := y
    subst e
    exact hte D i x ys _ _ (y xs h3) hj fun y H3 g1 g2 => ⟨g1, by omega, xs.length - (i + 1), by omega, rfl, hlt, g2⟩
  · have e : i = xs.length := by omega
    subst e
    exact .inl ⟨⟨xs, h3, Nat.le_refl _⟩, q D ys H' hj⟩

/-! ### a deck: a list of ints that is drawn from -/
def DkAt (H : Hp) (p : Addr) : Prop := ∃ ns : List Int, H p = some (.lst (ns.map V.int))
/-- all but the deck at p stays -/
structure Dr (p : Addr) (H H' : Hp) : Prop where
  keep : ∀ b o, b ≠ p → H b = some o → H' b = some o
  deck : DkAt H' p
theorem Dr.refl {p : Addr} {H : Hp} (d : DkAt H p) : Dr p H H := ⟨fun _ _ _ e => e, d⟩
theorem Dr.trans {p : Addr} {H H1 H2 : Hp} (a : Dr p H H1) (b : Dr p H1 H2) : Dr p H H2 := ⟨fun c o n e => b.keep c o n (a.keep c o n e), b.deck⟩
theorem Dr.same {p : Addr} {H H1 H2 : Hp} (a : Dr p H H1) (S : Same H1 H2) : Dr p H H2 := ⟨fun c o n e => S c o (a.keep c o n e), let ⟨ns, e⟩ := a.deck; ⟨ns, S _ _ e⟩⟩
theorem Dr.of {p : Addr} {H H' : Hp} (d : DkAt H p) (S : Same H H') : Dr p H H' := (Dr.refl d).same S
theorem Dr.kt {p : Addr} {H H' : Hp} (d : DkAt H p) (a : Dr p H H') : Kt H H' := by
  obtain ⟨ns, e⟩ := d
  exact ⟨fun b xs q => a.keep b _ (ne_of q e (fun z => by cases z)) q, fun b o u q => a.keep b _ (ne_of q e (fun z => by cases z)) q⟩
theorem Dr.free {p b : Addr} {H H' : Hp} (d : DkAt H p) (a : Dr p H H') (h : H' b = none) : H b = none := by
  cases e : H b with
  | none => rfl
  | some o =>
    by_cases hb : b = p
    · subst hb
      obtain ⟨ns, q⟩ := a.deck
      rw [h] at q
      cases q
    · rw [a.keep b o hb e] at h
      cases h
theorem Dr.upd {p b : Addr} {H H' : Hp} {o : HO} (a : Dr p H H') (h : H b = none) (hp : b ≠ p) : Dr p H (upd H' b o) :=
  ⟨fun c u n e => by rw [upd_ne (ne_of_none e h)]; exact a.keep c u n e, let ⟨ns, e⟩ := a.deck; ⟨ns, by rw [upd_ne (Ne.symm hp)]; exact e⟩⟩
end Sw

/-! ## a comprehension whose list goes straight into a name -/
namespace Sw
open PySem PySem.Spec PyProof.Rows L2
section
variable {X : Cx} {scope : Scope} {cl : List (Str × Addr)} {x : Str} {fr : List Str} {js : List Nat} {elt iter : Expr} {px pos : Pos} {wi : TI} {te : TE} {pins : List (Addr × Obj)} {s : Shared} {σ : Sg} {H : Hp}
/-- as pe_lc, with the list handed on to `use` while the block still stands -/
theorem lc_core {Q : VK} (use : Option (Value → Sem Unit)) (QQ : Value → Shared → Prop) (hc : X.calm = true) (L : LcOk X scope x fr js cl) (hi : PI X (.Name x px) iter wi)
    (he : ∀ C s H fp pins, PE (blk X scope cl C (x :: fr) s H fp pins) elt te)
    (hs : ∀ v, foldedSetIterable iter X.env v = pure v) (I : Inv X pins σ H s) (h : tLC wi js te σ H Q)
    (fin : ∀ (D C : Addr) (s6 : Shared) (H5 : Hp) (m6 : Str → Option Value), s6.heap.Ns C m6 → H5 C = none → (∀ h', Heap.SameBut C s6.heap h' → Inv X pins σ H5 { s6 with heap := h' }) → X.env.locals ≠ C → X.s₀.heap.objs.size ≤ C →
      (∀ y c, X.env.cells.lookup y = some c → c ≠ C) → (∀ p ∈ X.pn ++ pins, p.1 ≠ C) → Q (.ref D) H5 → compPost (model X.prog X.w) X.A X.xe use QQ (.ref D) C (.ok .next) s6) :
    wpAny (model X.prog X.w) X.A (comprehension (.ListComp elt [⟨.Name x px, iter, [], 0⟩] scope pos) scope X.env (firstIterPos [⟨.Name x px, iter, [], 0⟩] pos) (newList []) false (eval iter X.env) use) QQ X.xe s := by
  refine wpAny_comprehension_free rfl hs L.clos L.kind L.loc (thn (hi pins s σ H _ I h) fun v s1 h1 => thn h1 fun itv s2 h2 => ?_)
  obtain ⟨it, fp, tn, J, H2, e, I2, T, st2, f2, rd⟩ := h2
  subst e
  obtain ⟨W, ⟨m0, w0⟩, turn⟩ := rd _ I2.fresh
  have I3 := I2.lnew (ys := []) (its := []) (t' := s2.toks) .nil (Nat.zero_le _)
  refine wpAny_newObj_type ?_
  have fsz2 : ∀ b ∈ fp, b < s2.heap.objs.size := fun b hb => by
    obtain ⟨o, ho, _⟩ := T.obj 0 _ st2 b hb
    exact Heap.lt_size ho
  generalize hs3 : ({ s2 with heap := s2.heap.push { cls := .type "list", dict := none, data := .seq ([] : List Value).toArray } } : Shared) = s3
  have I3' : Inv X pins σ (upd H2 s2.heap.objs.size (.lst [])) s3 := by rw [← hs3]; exact I3
  have sz3 : s3.heap.objs.size = s2.heap.objs.size + 1 := by rw [← hs3]; exact Heap.size_push ..
  have k23 : ∀ b o, s2.heap.get? b = some o → s3.heap.get? b = some o := fun b o e => by rw [← hs3]; exact Heap.get?_push_of_some _ e
  have fsz : ∀ b ∈ fp, b < s3.heap.objs.size := fun b hb => by rw [sz3]; exact Nat.lt_succ_of_lt (fsz2 b hb)
  have f3 : ∀ b ∈ fp, FpOk X pins (upd H2 s2.heap.objs.size (.lst [])) b := fun b hb => ⟨by rw [upd_ne (Nat.ne_of_lt (fsz2 b hb))]; exact (f2 b hb).1, (f2 b hb).2⟩
  refine wpAny_newFunctionEnv L.cell (by intro y hy; simp at hy) (fun h4 hn4 hsb4 => ?_) L.kind
  have k34 : ∀ b o, s3.heap.get? b = some o → h4.get? b = some o := fun b o e => (hsb4.2 b (Nat.ne_of_lt (Heap.lt_size e))).trans (Heap.get?_push_of_some _ e)
  generalize hX' : blk X scope cl s3.heap.objs.size (x :: fr) s3 (upd H2 s2.heap.objs.size (.lst [])) fp pins = X'
  have I4 : Inv X' [] (none :: frv σ js) (upd H2 s2.heap.objs.size (.lst [])) { s3 with heap := h4, toks := s3.toks + ([] : List (Str × Value)).length } := by
    rw [← hX']; exact blk_inv I3' L hc f3 fsz hn4 k34
  have st4 : tn 0 h4 := T.keep _ _ _ st2 fun b _ o e => k34 b o (k23 b o e)
  have he' : PE X' elt te := by rw [← hX']; exact he _ _ _ _ _
  have xp : X'.prog = X.prog := by rw [← hX']; rfl
  have xw : X'.w = X.w := by rw [← hX']; rfl
  have xK : X'.K = X.K := by rw [← hX']; rfl
  have xA : X'.A = X.A := by rw [← hX']; rfl
  have xc : X'.calm = true := by rw [← hX']; rfl
  have xe : X'.xe = fun _ _ => False := by rw [← hX']; rfl
  have xn : X'.N = x :: fr := by rw [← hX']; rfl
  have xv : X'.env = compEnvC scope cl s3.heap.objs.size X.env := by rw [← hX']; rfl
  have xpn : X'.pn = X.pn ++ pins := by rw [← hX']; rfl
  have xex : X'.ex = fp := by rw [← hX']; rfl
  have xfs : X'.fs = frs X.stack := by rw [← hX']; rfl
  have back : ∀ {H' : Hp} {s' : Shared} {h' : Heap} {σ' : Sg}, Inv X' [] σ' H' s' → Heap.SameBut s3.heap.objs.size s'.heap h' → Inv X pins σ H' { s' with heap := h' } := fun {H' s' h' σ'} J' hsb => by
    rw [← hX'] at J'; exact blk_back I3' J' f3 hsb
  have frame : ∀ b ∈ fp, b ∉ frs X.stack := fun b hb z => by
    rcases List.mem_cons.mp (I3'.stkSub b z) with e | e
    · exact (f3 b hb).2.1 e
    · exact (f3 b hb).2.2.1 e
  have stat : ∀ {H' : Hp}, (∀ b ∈ fp, H' b = none) → ∀ b ∈ fp, FpOk X' [] H' b := fun {H'} hn b hb => by
    refine ⟨hn b hb, ?_, ?_, .inl (by rw [xex]; exact hb), ?_, ?_⟩
    · rw [xv]; exact Nat.ne_of_lt (fsz b hb)
    · rw [xfs]; exact frame b hb
    · rw [xv]; exact fun y c e => (f3 b hb).2.2.2.2.1 y c (L.sub y c e)
    · rw [xpn, List.append_nil]; exact (f3 b hb).2.2.2.2.2
  have loop : codeAny (model X.prog X.w) X.A (.compLoop (.ListComp elt [⟨.Name x px, iter, [], 0⟩] scope pos) 0 (.ref it) (.ref s2.heap.objs.size) (compEnvC scope cl s3.heap.objs.size X.env))
      (compPost (model X.prog X.w) X.A X.xe use QQ (.ref s2.heap.objs.size) s3.heap.objs.size) { s3 with heap := h4, toks := s3.toks + ([] : List (Str × Value)).length } := by
    refine lc_loop (fun n s' => ∃ i ys o H', Inv X' [] (o :: frv σ js) H' s' ∧ tn i s'.heap ∧ (∀ b ∈ fp, H' b = none) ∧ W i n ys H') ?_ m0 ⟨0, [], none, _, I4, st4, fun b hb => (f3 b hb).1, w0⟩
    rintro n s5 ⟨i, ys, o, H5, I5, st5, fr5, w5⟩
    obtain ⟨hD, hstep⟩ := turn i n ys H5 w5
    rcases hstep with ⟨stop, qn⟩ | ⟨go, step⟩
    · have q := T.done X' xp xw xK xc i [] s5 _ H5 (fun _ _ => False) I5 (stat fr5) st5 stop
      rw [xA] at q
      refine thn q fun r s6 ⟨hr, I6⟩ => ?_
      subst hr
      obtain ⟨m6, hn6, _⟩ := I6.loc
      rw [xv] at hn6
      have nC : H5 s3.heap.objs.size = none := by
        have q := I6.free
        rw [xv] at q
        exact q
      exact fin s2.heap.objs.size s3.heap.objs.size s6 H5 m6 hn6 nC (fun h' hsb => back I6 hsb) (Nat.ne_of_lt I3'.lt) I3'.sz (fun y c e => Nat.ne_of_lt (by
        obtain ⟨v, hv⟩ := I3'.cell y c e
        obtain ⟨o, ho, _⟩ := hv
        exact Heap.lt_size ho)) (fun p hp => Nat.ne_of_lt (Heap.lt_size (I3'.pin p hp).1)) qn
    · have q := T.item X' xp xw xK xc i [] s5 _ H5 (fun _ _ => False) I5 (stat fr5) st5 go
      rw [xA] at q
      refine thn q fun r s6 ⟨u, hr, h6⟩ => ?_
      subst hr
      refine thn h6 fun _ s7 ⟨xx, H7, I7, r7, y7, st7, fr7⟩ => ?_
      have I7' := I7.pinned (stat fr7) (T.obj _ _ st7)
      have hg : PG X' (.Name x px) (gName 0) := by
        refine pg_name (i := 0) (x := x) (by rw [xn]; exact L.nd) (by rw [xn]; rfl) ?_ ?_
        · rw [xv]; exact .inl (lookup_relabel_local L.var)
        · rw [xv]; exact .inr (lookup_relabel_local L.var)
      have q7 := hg _ s7 _ H7 xx u (fun σ8 H8 => σ8 = some xx :: frv σ js ∧ H8 = H7) I7' r7 ⟨rfl, rfl⟩
      rw [xp, xw, xA, xe, xv] at q7
      refine thn q7 fun _ s8 ⟨σ8, H8, I8, e8, e8'⟩ => ?_
      subst e8 e8'
      have q8 := he' _ s8 _ _ _ I8 (step xx _ y7)
      rw [xp, xw, xA, xe, xv] at q8
      refine thn q8 fun yv s9 ⟨y, H9, I9, r9, d9, z9, m9, hm9, w9⟩ => ?_
      have q9 := mt_append (X := X') _ s9 _ H9 (.ref s2.heap.objs.size) [y] (.ref s2.heap.objs.size) [yv] (fun z H' => H' = upd H9 s2.heap.objs.size (.lst (ys ++ [y]))) I9 rfl (.cons r9 .nil) ⟨_, ys, y, rfl, rfl, d9, z9, rfl⟩
      rw [xp, xw, xA, xe] at q9
      refine thn q9 fun _ s10 ⟨_, H10, I10, _, e10⟩ => ?_
      subst e10
      refine ⟨m9, hm9, i + 1, ys ++ [y], some xx, _, I10.unpinned, T.keep _ _ _ st7 fun b hb ob e => (I10.pin (b, ob) (List.mem_append_right _ (List.mem_append_right _ (mem_pinsAt hb e)))).1, fun b hb => ?_, w9⟩
      obtain ⟨ob, e, _⟩ := T.obj _ _ st7 b hb
      exact (I10.pin (b, ob) (List.mem_append_right _ (List.mem_append_right _ (mem_pinsAt hb e)))).2.1
  exact codeAny_compStart_list loop (T.self _ 0 _ _ _ st4 loop)

theorem ps_setLC {i : Nat} {y : Str} {py spos : Pos} (hN : X.N.Nodup) (hy : X.N[i]? = some y) (hx : Loc X.env.scope y) (hc : X.calm = true) (L : LcOk X scope x fr js cl) (hi : PI X (.Name x px) iter wi)
    (he : ∀ C s H fp pins, PE (blk X scope cl C (x :: fr) s H fp pins) elt te)
    (hs : ∀ v, foldedSetIterable iter X.env v = pure v := by intro _; rfl)
    (hsw : swapsWith (.ListComp elt [⟨.Name x px, iter, [], 0⟩] scope pos) (some (.Name y py)) spos.line X.env = pure true := by rfl)
    (hf : X.fn y = true ∨ X.env.scope.names.lookup y = some .local := by first | exact .inl rfl | exact .inr rfl | assumption) :
    PS X (.Assign [.Name y py] (.ListComp elt [⟨.Name x px, iter, [], 0⟩] scope pos) spos) (tAsg (tLC wi js te) (gName i)) := by
  intro pins s σ H D I h
  rw [exec_Assign_Name_used _ _ _ _ hsw]
  refine wpAny_bind (wpAny_standAt (wpAny_bind ?_))
  show wpAny _ X.A (do let _ ← comprehension (.ListComp elt [⟨.Name x px, iter, [], 0⟩] scope pos) scope X.env (firstIterPos [⟨.Name x px, iter, [], 0⟩] pos) (newList []) false (eval iter X.env) (some (assign (.Name y py) X.env))) _ _ s
  refine wpAny_bind (wpAny_mono (lc_core (some (assign (.Name y py) X.env)) (fun _ s' => SP X pins D .next s') hc L hi he hs I h ?_) (fun _ s' hq => wpAny_pure (wpAny_pure hq)) fun _ _ e => e)
  intro Dd C s6 H5 m6 hn nC back hLC hsz hcell hpin q
  have J : Inv X pins σ H5 s6 := back s6.heap (Heap.SameBut.refl _ _)
  show wpAny _ X.A (assign (.Name y py) X.env (.ref Dd)) _ _ _
  refine wpAny_assign_Name (store_ok2 (v := .ref Dd) J hN hy hx rfl (fun s7 I7 hsb => ?_) hf)
  obtain ⟨a, hsb, ha⟩ := hsb
  have haC : C ≠ a := by
    rcases ha with e | e
    · rw [e]; exact Ne.symm hLC
    · exact Ne.symm (hcell _ _ e)
  refine ⟨m6, hn.sameBut hsb haC, fun h' hs' => ?_⟩
  have k : ∀ b o, b ≠ C → s7.heap.get? b = some o → h'.get? b = some o := fun b o n e => hs'.extBut b o n e
  have J' := I7.turned (t' := s7.toks) k nC (Ne.symm hLC) (.inr hsz) hcell hpin
  exact ⟨_, _, J', q⟩
end
theorem qs_setLC {X : Cx} {scope : Scope} {cl : List (Str × Addr)} {x : Str} {fr : List Str} {js : List Nat} {elt iter : Expr} {px pos : Pos} {wi : TI} {te : TE} {i : Nat} {y : Str} {py spos : Pos} (hN : X.N.Nodup) (hy : X.N[i]? = some y) (hx : Loc X.env.scope y) (hc : X.calm = true) (L : LcOk X scope x fr js cl) (hi : QI X (.Name x px) iter wi)
    (he : ∀ C s H fp pins, QE (blk X scope cl C (x :: fr) s H fp pins) elt te)
    (hs : ∀ v, foldedSetIterable iter X.env v = pure v := by intro _; rfl)
    (hsw : swapsWith (.ListComp elt [⟨.Name x px, iter, [], 0⟩] scope pos) (some (.Name y py)) spos.line X.env = pure true := by rfl)
    (hf : X.fn y = true ∨ X.env.scope.names.lookup y = some .local := by first | exact .inl rfl | exact .inr rfl | assumption) :
    QS X (.Assign [.Name y py] (.ListComp elt [⟨.Name x px, iter, [], 0⟩] scope pos) spos) (tAsg (tLC wi js te) (gName i)) :=
  ⟨ps_setLC hN hy hx hc L hi.run (fun C s H fp pins => (he C s H fp pins).run) hs hsw hf⟩
end Sw

/-! ## what is done with trees, read as trees -/
namespace Sw
open PySem PySem.Spec PyProof.Rows L2
section
variable {K : PySem.W.Frag} {H : Hp} {Q : VK}
theorem nCat {ts us : List T} {x y : V} (hx : TR K H (.node ts) x) (hy : TR K H (.node us) y) (hz : ts.length + us.length ≤ sizeLine) (q : ∀ z H', Same H H' → TR K H' (.node (ts ++ us)) z → Q z H') : rCatTA K x y H Q := by
  obtain ⟨a, xs, rfl, ha, ra⟩ := TR_node.mp hx
  obtain ⟨b, ys, rfl, hb, rb⟩ := TR_node.mp hy
  refine ⟨a, b, xs, ys, rfl, rfl, ha, hb, by rw [ra.length, rb.length]; exact hz, fun p H' S h => q _ _ S (TR_mk h ((ra.append rb).mono (.of S)))⟩
theorem TRs.at {ts : List T} {xs : List V} (h : TRs K H ts xs) {i : Nat} {t : T} (e : ts[i]? = some t) : ∃ x, xs[i]? = some x ∧ TR K H t x := by
  have hl := h.length
  have hi : i < ts.length := (List.getElem?_eq_some_iff.mp e).1
  have e2 : xs[i]? = some (xs[i]'(by omega)) := List.getElem?_eq_getElem _
  obtain ⟨t', e3, h3⟩ := h.get e2
  rw [e] at e3
  cases e3
  exact ⟨_, e2, h3⟩
theorem nIx {ts : List T} {x y : V} {t : T} (hx : TR K H (.node ts) x) (i : Nat) (e : ts[i]? = some t) (q : ∀ z, TR K H t z → Q z H) (hy : y = .int ((i : Nat) : Int) := by rfl) : rIxT K x y H Q := by
  obtain ⟨a, xs, rfl, ha, ra⟩ := TR_node.mp hx
  obtain ⟨v, e2, h2⟩ := ra.at e
  exact ⟨a, xs, _, v, rfl, hy, ha, atI_nat e2, q v h2⟩
theorem nFrom {ts : List T} {x : V} (hx : TR K H (.node ts) x) (k : Nat) {j : Option Int} (q : ∀ z H', Same H H' → TR K H' (.node (ts.drop k)) z → Q z H') (hj : j = some ((k : Nat) : Int) := by rfl) : rSlTA K x j none H Q := by
  obtain ⟨a, xs, rfl, ha, ra⟩ := TR_node.mp hx
  subst hj
  refine ⟨a, xs, rfl, ha, fun p H' S h => q _ _ S (TR_mk h ?_)⟩
  rw [cut_from]
  exact (ra.drop k).mono (.of S)
theorem nTo {ts : List T} {x : V} (hx : TR K H (.node ts) x) (k : Nat) {j : Option Int} (q : ∀ z H', Same H H' → TR K H' (.node (ts.take k)) z → Q z H') (hj : j = some ((k : Nat) : Int) := by rfl) : rSlTA K x none j H Q := by
  obtain ⟨a, xs, rfl, ha, ra⟩ := TR_node.mp hx
  subst hj
  refine ⟨a, xs, rfl, ha, fun p H' S h => q _ _ S (TR_mk h ?_)⟩
  rw [cut_to]
  exact (ra.take k).mono (.of S)
/-- a tuple laid down -/
theorem nTup {ts : List T} {xs : List V} (h : TRs K H ts xs) (hz : ts.length ≤ sizeLine) (q : ∀ z H', Same H H' → TR K H' (.node ts) z → Q z H') : xs.length ≤ sizeLine ∧ ∀ p, H p = none → Q (.ref p) (upd H p (.tup xs)) :=
  ⟨by rw [h.length]; exact hz, fun p hp => q _ _ (same_new hp _) (TR_mk (SqT.of upd_same) (h.mono (.new hp)))⟩
theorem nNil (q : ∀ z H', Same H H' → TR K H' (.node []) z → Q z H') : ([] : List V).length ≤ sizeLine ∧ ∀ p, H p = none → Q (.ref p) (upd H p (.tup [])) := nTup (TRs_nil.mpr rfl) (Nat.zero_le _) q
theorem trs1 {t : T} {x : V} (h : TR K H t x) : TRs K H [t] [x] := TRs_cons.mpr ⟨x, [], rfl, h, TRs_nil.mpr rfl⟩
theorem trs2 {t u : T} {x y : V} (h : TR K H t x) (g : TR K H u y) : TRs K H [t, u] [x, y] := TRs_cons.mpr ⟨x, [y], rfl, h, trs1 g⟩
theorem trs3 {t u r : T} {x y z : V} (h : TR K H t x) (g : TR K H u y) (k : TR K H r z) : TRs K H [t, u, r] [x, y, z] := TRs_cons.mpr ⟨x, [y, z], rfl, h, trs2 g k⟩
theorem nTup1 {t : T} {x : V} (h : TR K H t x) (q : ∀ z H', Same H H' → TR K H' (.node [t]) z → Q z H') : [x].length ≤ sizeLine ∧ ∀ p, H p = none → Q (.ref p) (upd H p (.tup [x])) := nTup (trs1 h) (by show 1 ≤ sizeLine; decide) q
theorem nTup2 {t u : T} {x y : V} (h : TR K H t x) (g : TR K H u y) (q : ∀ z H', Same H H' → TR K H' (.node [t, u]) z → Q z H') : [x, y].length ≤ sizeLine ∧ ∀ p, H p = none → Q (.ref p) (upd H p (.tup [x, y])) := nTup (trs2 h g) (by show 2 ≤ sizeLine; decide) q
theorem nTup3 {t u r : T} {x y w : V} (h : TR K H t x) (g : TR K H u y) (k : TR K H r w) (q : ∀ z H', Same H H' → TR K H' (.node [t, u, r]) z → Q z H') : [x, y, w].length ≤ sizeLine ∧ ∀ p, H p = none → Q (.ref p) (upd H p (.tup [x, y, w])) := nTup (trs3 h g k) (by show 3 ≤ sizeLine; decide) q
/-- tuple(list of trees) -/
theorem nOf {ts : List T} {D : Addr} {ys : List V} (h : H D = some (.lst ys)) (r : TRs K H ts ys) (q : ∀ z H', Same H H' → TR K H' (.node ts) z → Q z H') :
    ∃ p zs, [V.ref D] = [.ref p] ∧ ((SqL K H p zs ∧ ∀ l, H l = none → Q (.ref l) (upd H l (.tup zs))) ∨ (SqT K H p zs ∧ Q (.ref p) H)) :=
  ⟨D, ys, rfl, .inl ⟨SqL.of h, fun l hl => q _ _ (same_new hl _) (TR_mk (SqT.of upd_same) (r.mono (.new hl)))⟩⟩
theorem nLen {ts : List T} {x : V} (h : TR K H (.node ts) x) (q : Q (.int (ts.length : Nat)) H) : ∃ p ys, [x] = [V.ref p] ∧ (SqL K H p ys ∨ SqT K H p ys) ∧ Q (.int ys.length) H := by
  obtain ⟨a, xs, rfl, ha, ra⟩ := TR_node.mp h
  exact ⟨a, xs, rfl, .inr ha, by rw [ra.length]; exact q⟩
end
section
variable {X : Cx} {K : PySem.W.Frag}
theorem op_catTAK (h : X.K = K) : OpR X (binaryOp .Add) (rCatTA K) := by subst h; exact op_catTA
theorem op_repTAK (h : X.K = K) : OpR X (binaryOp .Mult) (rRepTA K) := by subst h; exact op_repTA
end
/-- a comprehension over a range, each turn drawing a tree out of the deck at p -/
theorem lc_draw {K : PySem.W.Frag} {p : Addr} {H1 : Hp} {n : Nat} {lo : Int} {σ : Sg} {js : List Nat} {te : TE} {Q : VK} (Sh : T → Prop) (hk : DkAt H1 p) (hn : n ≤ sizeLine)
    (hte : ∀ (i : Nat) H' (R : VK), i < n → Dr p H1 H' → (∀ y t H3, Dr p H' H3 → TR K H3 t y → Sh t → R y H3) → te (some (.int (lo + i)) :: frv σ js) H' R)
    (q : ∀ D ys ts H', Dr p H1 H' → H' D = some (.lst ys) → ts.length = n → TRs K H' ts ys → (∀ t ∈ ts, Sh t) → Q (.ref D) H') : LcRun (Itr lo n) js te σ Q H1 := by
  refine lc_rangeI (fun D i ys H' => D ≠ p ∧ H1 D = none ∧ Dr p H1 H' ∧ H' D = some (.lst ys) ∧ ys.length = i ∧ ∃ ts, TRs K H' ts ys ∧ ∀ t ∈ ts, Sh t) hn (fun D hD => ?_) (fun D i ys H' j => ⟨j.2.2.2.1, j.2.2.2.2.1⟩) (fun D i ys H' R hi j hR => ?_) (fun D ys H' j => ?_)
  · have hne : D ≠ p := fun z => by
      obtain ⟨ns, e1⟩ := hk
      rw [z, e1] at hD; cases hD
    exact ⟨hne, hD, (Dr.refl hk).upd hD hne, upd_same, rfl, [], TRs_nil.mpr rfl, fun _ h => by simp at h⟩
  · obtain ⟨hne, hD, Dh, h1, hl, ts, htr, hsh⟩ := j
    refine hte i H' R hi Dh fun y t H3 D3 ht hs => ?_
    have h3 := D3.keep D _ hne h1
    refine hR y H3 h3 ⟨hne, hD, (Dh.trans D3).upd hD hne, upd_same, by rw [List.length_append, hl]; rfl, ts ++ [t], ?_, fun u hu => ?_⟩
    · exact TRs.append ((htr.mono (D3.kt Dh.deck)).mono (Kt.lst h3)) (TRs_cons.mpr ⟨y, [], rfl, ht.mono (Kt.lst h3), TRs_nil.mpr rfl⟩)
    · rcases List.mem_append.mp hu with z | z
      · exact hsh u z
      · rw [List.mem_singleton.mp z]; exact hs
  · obtain ⟨hne, hD, Dh, h1, hl, ts, htr, hsh⟩ := j
    exact q D ys ts H' Dh h1 (by rw [← htr.length]; exact hl) htr hsh
/-! ### all([..]) of a list of truths; the same of trees -/
theorem bt_all : bootBuiltins "all" = some (.builtin "all") := by decide +kernel
section
variable {X : Cx}
theorem bools_at : ∀ {bs : List Bool} {its : List Value}, Vals (bs.map V.bl) its → its = bs.map Value.bool
  | [], _, h => by cases h; rfl
  | b :: bs, _, h => by
    cases h with
    | cons r q =>
      rw [bools_at q]
      exact congrArg (· :: _) r
theorem range_all (bs : List Bool) : (List.range bs.length).all (fun i => bs.getD i true) = bs.all id := by
  rw [Bool.eq_iff_iff, List.all_eq_true, List.all_eq_true]
  refine ⟨fun h b hb => ?_, fun h i hi => ?_⟩
  · obtain ⟨i, hi, e⟩ := List.getElem_of_mem hb
    have := h i (List.mem_range.mpr hi)
    rw [List.getD_eq_getElem?_getD, List.getElem?_eq_getElem hi, Option.getD_some, e] at this
    exact this
  · have hi' := List.mem_range.mp hi
    rw [List.getD_eq_getElem?_getD, List.getElem?_eq_getElem hi', Option.getD_some]
    exact h _ (List.getElem_mem hi')
theorem call_all (hc : X.calm = true) : CallR X (.builtin "all") (fun xs H Q => ∃ (p : Addr) (bs : List Bool), xs = [.ref p] ∧ SqL X.K H p (bs.map V.bl) ∧ Q (.bl (bs.all id)) H) := by
  intro pins s σ H xs us Q I r h
  obtain ⟨p, bs, rfl, hq, q⟩ := h
  obtain ⟨u, rfl, rx⟩ := vals1 r
  cases rx
  obtain ⟨its, r', pl, hz⟩ := I.list hq
  have hit := bools_at r'
  subst hit
  have hl := pl.isList
  have hlt : p < s.heap.objs.size := by obtain ⟨_, e, _⟩ := hl; exact Heap.lt_size e
  refine call_all_walk (wpAny_pyIter_list hl ?_)
  refine ⟨_, _, _, _, _, _, fun i => bs.getD i true, rfl, Walks.list (A := X.A.in1) (I.ok.hd hc) _ p (Nat.ne_of_lt hlt) (bs.map Value.bool).toArray, ⟨⟨_, Heap.get?_push_size _ rfl, rfl, rfl⟩, hl.push _⟩, ?_, fun h' tk hk => ?_⟩
  · intro i v s Q E hv hQ
    rw [List.getElem?_toArray, List.getElem?_map] at hv
    cases hh : bs[i]? with
    | none => rw [hh] at hv; cases hv
    | some b =>
      rw [hh] at hv
      cases hv
      have hQ' : Q (bs.getD i true) s := hQ
      rw [List.getD_eq_getElem?_getD, hh] at hQ'
      exact wpAny_truthy_bool hQ'
  · have es : (List.range (bs.map Value.bool).toArray.size).all (fun i => bs.getD i true) = bs.all id := by
      rw [List.size_toArray, List.length_map]
      exact range_all bs
    rw [es]
    exact ⟨.bl (bs.all id), H, I.kept (old_kept hk), rfl, q⟩
end
/-! ### bounds of trees -/
/-- at most a deep, of at most b parts -/
def B (a b : Nat) (t : T) : Prop := t.deep ≤ a ∧ t.parts ≤ b
theorem B.le {a b a' b' : Nat} {t : T} (h : B a b t) (h1 : a ≤ a') (h2 : b ≤ b') : B a' b' t := ⟨Nat.le_trans h.1 h1, Nat.le_trans h.2 h2⟩
theorem B_nil : B 0 1 (.node []) := ⟨by rw [T.deep_node, T.deepL_nil]; omega, by rw [T.parts_node, T.partsL_nil]; omega⟩
theorem B_cons {a b a' b' : Nat} {t : T} {ts : List T} (h : B a b t) (g : B a' b' (.node ts)) : B (max (a + 1) a') (b + b') (.node (t :: ts)) := by
  obtain ⟨h1, h2⟩ := h
  obtain ⟨g1, g2⟩ := g
  rw [T.deep_node] at g1
  rw [T.parts_node] at g2
  refine ⟨?_, ?_⟩
  · rw [T.deep_node, T.deepL_cons]; omega
  · rw [T.parts_node, T.partsL_cons]; omega
theorem B_cat {a b a' b' : Nat} {us : List T} (g : B a' b' (.node us)) : ∀ {ts : List T}, B a b (.node ts) → B (max a a') (b + b') (.node (ts ++ us))
  | [], _ => g.le (by omega) (by omega)
  | t :: ts, h => by
    obtain ⟨h1, h2⟩ := h
    rw [T.deep_node, T.deepL_cons] at h1
    rw [T.parts_node, T.partsL_cons] at h2
    have q := B_cat g (ts := ts) (a := a) (b := b - t.parts) ⟨by rw [T.deep_node]; omega, by rw [T.parts_node]; omega⟩
    have q1 := q.1
    have q2 := q.2
    rw [T.deep_node] at q1
    rw [T.parts_node] at q2
    refine ⟨?_, ?_⟩
    · rw [List.cons_append, T.deep_node, T.deepL_cons]; omega
    · rw [List.cons_append, T.parts_node, T.partsL_cons]; omega
theorem B_tup1 {a b : Nat} {t : T} (h : B a b t) : B (a + 1) (b + 1) (.node [t]) := (B_cons h B_nil).le (by omega) (by omega)
theorem B_row {a b n : Nat} : ∀ {ts : List T}, (∀ t ∈ ts, B a b t) → ts.length ≤ n → B (a + 1) (1 + n * b) (.node ts)
  | [], _, _ => B_nil.le (by omega) (by omega)
  | t :: ts, h, hl => by
    rw [List.length_cons] at hl
    obtain ⟨m, rfl⟩ : ∃ m, n = m + 1 := ⟨n - 1, by omega⟩
    refine (B_cons (h t List.mem_cons_self) (B_row (n := m) (fun u hu => h u (List.mem_cons_of_mem _ hu)) (by omega))).le (by omega) ?_
    rw [Nat.succ_mul]; omega
theorem B.len {a b : Nat} {ts : List T} (h : B a b (.node ts)) : ts.length < b := by
  have h2 := h.2
  rw [T.parts_node] at h2
  have : ∀ us : List T, us.length ≤ T.partsL us := fun us => by
    induction us with
    | nil => exact Nat.zero_le _
    | cons u us ih =>
      rw [List.length_cons, T.partsL_cons]
      have : 1 ≤ u.parts := by cases u; rw [T.parts_node]; omega
      omega
  have := this ts
  omega
/-- a tuple laid down, as a tree -/
theorem tupN {K : PySem.W.Frag} {H : Hp} {p : Addr} {xs : List V} {ts : List T} (hp : H p = none) (h : TRs K H ts xs) : Same H (upd H p (.tup xs)) ∧ TR K (upd H p (.tup xs)) (.node ts) (.ref p) :=
  ⟨same_new hp _, TR_mk (SqT.of upd_same) (h.mono (.new hp))⟩
/-- how many parts a drawn tree of so many deep has at most -/
def pbT : Nat → Nat
  | 0 => 1
  | d + 1 => 1 + 3 * pbT d
theorem partsL_le {ts : List T} {n b : Nat} (hl : ts.length ≤ n) (h : ∀ t ∈ ts, t.parts ≤ b) : T.partsL ts ≤ n * b :=
  Nat.le_trans (T.partsL_le_of h) (Nat.mul_le_mul_right b hl)
theorem leaf_tr {K : PySem.W.Frag} {H : Hp} {p : Addr} (h : H p = some (.tup [])) : TR K H (.node []) (.ref p) := TR_mk (xs := []) (SqT.of h) (TRs_nil.mpr rfl)
theorem rep_one (x : V) (n : Nat) : repV [x] (n : Int) = List.replicate n x := by
  unfold repV
  rw [Int.toNat_natCast]
  induction n with
  | zero => rfl
  | succ n ih => rw [List.replicate_succ, List.flatten_cons, ih, List.replicate_succ]; rfl
theorem trs_rep {K : PySem.W.Frag} {H : Hp} {t : T} {x : V} (h : TR K H t x) : ∀ n : Nat, TRs K H (List.replicate n t) (List.replicate n x)
  | 0 => TRs_nil.mpr rfl
  | n + 1 => by
    rw [List.replicate_succ, List.replicate_succ]
    exact TRs_cons.mpr ⟨x, _, rfl, h, trs_rep h n⟩
theorem ints_ex : ∀ {ys : List V}, (∀ (i : Nat) y, ys[i]? = some y → ∃ n : Int, y = .int n ∧ 0 ≤ n ∧ n < 2147483647) → ∃ ns : List Int, ys = ns.map V.int ∧ ∀ n ∈ ns, 0 ≤ n ∧ n < 2147483647
  | [], _ => ⟨[], rfl, fun _ h => by simp at h⟩
  | y :: ys, h => by
    obtain ⟨n, rfl, h1, h2⟩ := h 0 y rfl
    obtain ⟨ns, e, g⟩ := ints_ex (ys := ys) fun i z e => h (i + 1) z (by simpa using e)
    refine ⟨n :: ns, by rw [e]; rfl, fun m hm => ?_⟩
    rcases List.mem_cons.mp hm with rfl | hm
    · exact ⟨h1, h2⟩
    · exact g m hm

/-! ### drawing -/
def spDeck (K : PySem.W.Frag) : Sp := fun vs H Q _ => ∃ (a : Addr) (ns : List Int), vs = [.ref a] ∧ SqL K H a (ns.map V.int) ∧ ns.length ≤ 63 ∧ ∀ p H', Same H H' → H p = none → DkAt H' p → Q (.ref p) H'
def spNext : Sp := fun vs H Q _ => ∃ (p : Addr) (m : Int), vs = [.ref p, .int m] ∧ 0 < m ∧ DkAt H p ∧ ∀ i H', 0 ≤ i → i < m → Dr p H H' → Q (.int i) H'
/-- a drawn tree of at most d deep: at most three items each -/
def ShT : Nat → T → Prop := fun d t => t.deep ≤ d ∧ t.parts ≤ pbT d
def spTree (K : PySem.W.Frag) (n : Nat) : Sp := fun vs H Q _ => ∃ (p : Addr) (d : Nat), vs = [.ref p, .int (d : Int)] ∧ d ≤ n ∧ DkAt H p ∧ ∀ y t H', Dr p H H' → TR K H' t y → ShT d t → Q y H'
def leavesT (n : Nat) : T := .node (List.replicate n (.node []))
def spLeaves (K : PySem.W.Frag) : Sp := fun vs H Q _ => ∃ n : Nat, vs = [.int (n : Int)] ∧ n ≤ 100000 ∧ ∀ y H', Same H H' → TR K H' (leavesT n) y → Q y H'

theorem B_leaves (n : Nat) : B 1 (1 + n) (leavesT n) := (B_row (n := n) (fun t ht => by rw [List.eq_of_mem_replicate ht]; exact B_nil) (by rw [List.length_replicate]; exact Nat.le_refl _)).le (by omega) (by omega)
theorem ShT.b {d : Nat} {t : T} (h : ShT d t) : B d (pbT d) t := h
/-- parts of a drawn word at most -/
def pbW : Nat → Nat
  | 0 => 60
  | d + 1 => 60 + 2 * (1 + 4 * pbW d)
theorem pbW_ge : ∀ d, 60 ≤ pbW d
  | 0 => Nat.le_refl _
  | d + 1 => by rw [pbW]; omega
theorem pbW_mono {d e : Nat} (h : d ≤ e) : pbW d ≤ pbW e := by
  induction h with
  | refl => exact Nat.le_refl _
  | @step m _ ih => rw [pbW]; omega
def ShW (d : Nat) (t : T) : Prop := B (3 + 2 * d) (pbW d) t
def ShX (d : Nat) (t : T) : Prop := B (4 + 2 * d) (1 + 4 * pbW d) t ∧ t.kids.length ≤ 4
def spWord (K : PySem.W.Frag) (n : Nat) : Sp := fun vs H Q _ => ∃ (p : Addr) (d : Nat), vs = [.ref p, .int (d : Int)] ∧ d < n ∧ DkAt H p ∧ ∀ y t H', Dr p H H' → TR K H' t y → ShW d t → Q y H'
def spText (K : PySem.W.Frag) (n : Nat) : Sp := fun vs H Q _ => ∃ (p : Addr) (d : Nat), vs = [.ref p, .int (d : Int)] ∧ d < n ∧ DkAt H p ∧ ∀ y t H', Dr p H H' → TR K H' t y → ShX d t → Q y H'
theorem lit_at {ns : List Nat} {k : Nat} (hk : k < ns.length) : ∃ c ∈ ns, atI (ns.map fun n : Nat => V.int (n : Int)) (k : Int) = some (.int (c : Int)) :=
  ⟨ns[k], List.getElem_mem hk, atI_nat (by rw [List.getElem?_map, List.getElem?_eq_getElem hk]; rfl)⟩
theorem dec_eq (p : Addr) (e : Nat) : [V.ref p, V.int (((e + 1 : Nat) : Int) - 1)] = [V.ref p, V.int (e : Int)] := by
  rw [show ((e + 1 : Nat) : Int) - 1 = (e : Int) by omega]
/-- a comprehension over a range, each turn making a tree -/
theorem lc_grow {K : PySem.W.Frag} {H1 : Hp} {n : Nat} {lo : Int} {σ : Sg} {js : List Nat} {te : TE} {Q : VK} (Sh : T → Prop) (hn : n ≤ sizeLine)
    (hte : ∀ (i : Nat) H' (R : VK), i < n → Same H1 H' → (∀ y t H3, Same H' H3 → TR K H3 t y → Sh t → R y H3) → te (some (.int (lo + i)) :: frv σ js) H' R)
    (q : ∀ D ys ts H', Same H1 H' → H' D = some (.lst ys) → ts.length = n → TRs K H' ts ys → (∀ t ∈ ts, Sh t) → Q (.ref D) H') : LcRun (Itr lo n) js te σ Q H1 := by
  refine lc_rangeI (fun D i ys H' => H1 D = none ∧ Same H1 H' ∧ H' D = some (.lst ys) ∧ ys.length = i ∧ ∃ ts, TRs K H' ts ys ∧ ∀ t ∈ ts, Sh t) hn (fun D hD => ?_) (fun D i ys H' j => ⟨j.2.2.1, j.2.2.2.1⟩) (fun D i ys H' R hi j hR => ?_) (fun D ys H' j => ?_)
  · exact ⟨hD, same_new hD _, upd_same, rfl, [], TRs_nil.mpr rfl, fun _ h => by simp at h⟩
  · obtain ⟨hD, S, h1, hl, ts, htr, hsh⟩ := j
    refine hte i H' R hi S fun y t H3 S3 ht hs => ?_
    have h3 := S3 _ _ h1
    refine hR y H3 h3 ⟨hD, same_upd (S.trans S3) hD, upd_same, by rw [List.length_append, hl]; rfl, ts ++ [t], ?_, fun u hu => ?_⟩
    · exact TRs.append ((htr.mono (.of S3)).mono (Kt.lst h3)) (trs1 (ht.mono (Kt.lst h3)))
    · rcases List.mem_append.mp hu with z | z
      · exact hsh u z
      · rw [List.mem_singleton.mp z]; exact hs
  · obtain ⟨hD, S, h1, hl, ts, htr, hsh⟩ := j
    exact q D ys ts H' S h1 (by rw [← htr.length]; exact hl) htr hsh
theorem at_int {ns : List Int} {k : Int} (h0 : 0 ≤ k) (h : k < ((ns.map V.int).length : Int)) : ∃ i, atI (ns.map V.int) k = some (.int i) := by
  have hk : k.toNat < ns.length := by rw [List.length_map] at h; omega
  have e : (ns.map V.int)[k.toNat]? = some (.int ns[k.toNat]) := by rw [List.getElem?_map, List.getElem?_eq_getElem hk]; rfl
  have := atI_nat e
  rw [show ((k.toNat : Nat) : Int) = k by omega] at this
  exact ⟨_, this⟩
def spAt (K : PySem.W.Frag) : Sp := fun vs H Q _ => ∃ (l : Addr) (k : Int) (ns : List Int), vs = [.ref l, .int k] ∧ SqL K H l (ns.map V.int) ∧ 0 ≤ k ∧ ∀ i H', Same H H' → Q (.int i) H'
def spPick : Sp := fun vs H Q _ => ∃ c t m : Int, vs = [.int c, .int t, .int m] ∧ 0 < m ∧ ∀ i, 0 ≤ i → i < m → Q (.int i) H
def spLaw (K : PySem.W.Frag) : Sp := fun vs H Q _ => ∃ (a : Addr) (ns : List Int), vs = [.ref a] ∧ SqL K H a (ns.map V.int) ∧ ns.length ≤ 63 ∧ ∀ H', Q (.bl true) H'
/-! ### words -/
/-- a word's sort -/
def sortT (t : T) : Nat := match t.kids with
  | [] => 0
  | f :: _ => min 9 f.kids.length
def loadT (t : T) : T := .node (t.kids.drop 1)
def spSort (K : PySem.W.Frag) : Sp := fun vs H Q _ => ∃ x t, vs = [x] ∧ TR K H t x ∧ t.deep ≤ 400 ∧ t.parts ≤ 1000000 ∧ ∀ H', Same H H' → Q (.int (sortT t : Nat)) H'
def spLoad (K : PySem.W.Frag) : Sp := fun vs H Q _ => ∃ x t, vs = [x] ∧ TR K H t x ∧ t.deep ≤ 400 ∧ t.parts ≤ 1000000 ∧ ∀ y H', Same H H' → TR K H' (loadT t) y → Q y H'
theorem flat_rep {α : Type} (x : α) (n : Nat) : (List.replicate n [x]).flatten = List.replicate n x := by
  induction n with
  | zero => rfl
  | succ n ih => rw [List.replicate_succ, List.flatten_cons, ih, List.replicate_succ]; rfl
/-- the cell at k, or one out of all of them -/
def atF (ns : List Int) (k : Int) : Int := if k < (ns.length : Int) then (ns[k.toNat]?).getD 0 else (((ns.take 63).sum + 769 * k + 29) % 1000003) * (((ns.take 63).sum + 769 * k + 29) % 1000003) % 999983
def spAtF (K : PySem.W.Frag) : Sp := fun vs H Q _ => ∃ (l : Addr) (k : Int) (ns : List Int), vs = [.ref l, .int k] ∧ SqL K H l (ns.map V.int) ∧ 0 ≤ k ∧ ∀ H', Same H H' → Q (.int (atF ns k)) H'
theorem at_mem {ns : List Int} {k : Int} (h0 : 0 ≤ k) (h : k < (ns.length : Int)) : ∃ i ∈ ns, atI (ns.map V.int) k = some (.int i) := by
  have hk : k.toNat < ns.length := by omega
  have e : (ns.map V.int)[k.toNat]? = some (.int ns[k.toNat]) := by rw [List.getElem?_map, List.getElem?_eq_getElem hk]; rfl
  have := atI_nat e
  rw [show ((k.toNat : Nat) : Int) = k by omega] at this
  exact ⟨_, List.getElem_mem hk, this⟩
theorem cut_mid (xs : List V) (i j : Nat) : ∃ k, cutV xs (some (i : Int)) (some (j : Int)) = (xs.drop (min i xs.length)).take k := ⟨_, by unfold cutV; rw [HT.sIx_nat, HT.sIx_nat]⟩
/-- a tree out of a list of trees -/
theorem TRs.pick {K : PySem.W.Frag} {H : Hp} {ts : List T} {xs : List V} (h : TRs K H ts xs) {j : Int} (h0 : 0 ≤ j) (h1 : j < (xs.length : Int)) : ∃ x t, atI xs j = some x ∧ TR K H t x ∧ t ∈ ts := by
  have hk : j.toNat < xs.length := by omega
  have e : xs[j.toNat]? = some xs[j.toNat] := List.getElem?_eq_getElem hk
  obtain ⟨t, et, ht⟩ := h.get e
  have := atI_nat e
  rw [show ((j.toNat : Nat) : Int) = j by omega] at this
  exact ⟨_, t, this, ht, List.mem_of_getElem? et⟩
def spIsTree (K : PySem.W.Frag) : Sp := fun vs H Q _ => ∃ x t, vs = [x] ∧ TR K H t x ∧ t.parts ≤ 1000000 ∧ ∀ H', Same H H' → Q (.bl true) H'
def WIsTree (K : PySem.W.Frag) (H : Hp) (x : V) (n : Nat) (p : Addr) : Nat → Sg → Hp → Prop := fun m σ H' => ∃ (ys : List V) (ts : List T) (o : Option V),
  σ = [some x, some (.ref p), o] ∧ Same H H' ∧ H' p = some (.lst ys) ∧ TRs K H' ts ys ∧ T.partsL ts ≤ n ∧ m = T.partsL ts
/-- a word of so many leaves in its first -/
def wordT (n : Nat) (us : List T) : T := .node (leavesT n :: us)
theorem sort_word {n : Nat} (h : n ≤ 9) (us : List T) : sortT (wordT n us) = n := by
  show min 9 (List.replicate n (T.node [])).length = n
  rw [List.length_replicate]
  omega
theorem load_word (n : Nat) (us : List T) : loadT (wordT n us) = .node us := rfl
def spLay (K : PySem.W.Frag) : Sp := fun vs H Q _ => ∃ x t, vs = [x] ∧ TR K H t x ∧ t.deep ≤ 400 ∧ t.parts ≤ 1000000 ∧ ∀ y H', Same H H' → TR K H' (wordT 0 t.kids) y → Q y H'
def spLoop (K : PySem.W.Frag) : Sp := fun vs H Q _ => ∃ x t, vs = [x] ∧ TR K H t x ∧ t.deep ≤ 400 ∧ t.parts ≤ 1000000 ∧ ∀ y H', Same H H' → TR K H' (wordT 8 t.kids) y → Q y H'
def spPlain (K : PySem.W.Frag) : Sp := fun vs H Q _ => ∃ n : Nat, vs = [.int (n : Int)] ∧ 1 ≤ n ∧ n ≤ 6 ∧ ∀ y H', Same H H' → TR K H' (wordT n []) y → Q y H'
def spFork (K : PySem.W.Frag) : Sp := fun vs H Q _ => ∃ x t y u, vs = [x, y] ∧ TR K H t x ∧ TR K H u y ∧ (t.deep ≤ 400 ∧ t.parts ≤ 1000000) ∧ (u.deep ≤ 400 ∧ u.parts ≤ 1000000) ∧ ∀ z H', Same H H' → TR K H' (wordT 7 (t :: u.kids)) z → Q z H'
end Sw

/-! ## a step, apart from any heap -/
namespace Sw
open PySem PySem.Spec PyProof.Rows L2
theorem nFromP {K : PySem.W.Frag} {H : Hp} {Q : VK} {σ : L2.St} {ts : List T} {x : V} (hx : TR K H (.node ts) x) (k : Nat) {j : Option Int} (q : ∀ z H', Same H H' → TR K H' (.node (ts.drop k)) z → Q z H') (hj : j = some ((k : Nat) : Int) := by rfl) : tNoPart σ H (fun u H3 => rSlTA K x j u H3 Q) := nFrom hx k q hj
theorem nIxP {K : PySem.W.Frag} {H : Hp} {Q : VK} {σ : L2.St} {ts : List T} {x y : V} {t : T} (hx : TR K H (.node ts) x) (i : Nat) (e : ts[i]? = some t) (q : ∀ z, TR K H t z → Q z H) (hy : y = .int ((i : Nat) : Int) := by rfl) : tC y σ H (fun y H2 => rIxT K x y H2 Q) := nIx hx i e q hy
theorem B_loadT {a b : Nat} {t : T} (h : B a b t) : B a b (loadT t) := by
  cases t with
  | node ts =>
    cases ts with
    | nil => exact h
    | cons u us =>
      obtain ⟨h1, h2⟩ := h
      rw [T.deep_node, T.deepL_cons] at h1
      rw [T.parts_node, T.partsL_cons] at h2
      exact ⟨by show (T.node us).deep ≤ a; rw [T.deep_node]; omega, by show (T.node us).parts ≤ b; rw [T.parts_node]; omega⟩
def leaf : T := .node []
def ats (s : List T) (k : Nat) : T := (s[k]?).getD leaf
def many (k : Nat) : Nat := ([0, 1, 1, 2, 2, 1, 3, 1, 1, 0] : List Nat).getD k 0
def pad (s : List T) (n : Nat) : List T := s ++ List.replicate (n - s.length) leaf
theorem pad_of {s : List T} {n : Nat} (h : n ≤ s.length) : pad s n = s := by
  unfold pad
  rw [show n - s.length = 0 by omega, List.replicate_zero, List.append_nil]
theorem pad_more {s : List T} {n : Nat} (h : s.length < n) : pad s n = pad (s ++ [leaf]) n := by
  unfold pad
  rw [List.length_append, List.length_singleton, show n - s.length = (n - (s.length + 1)) + 1 by omega, List.replicate_succ, List.append_assoc]
  rfl
theorem pad_len (s : List T) (n : Nat) : n ≤ (pad s n).length := by
  unfold pad
  rw [List.length_append, List.length_replicate]
  omega
theorem pad_len_le (s : List T) (n : Nat) : (pad s n).length ≤ s.length + n := by
  unfold pad
  rw [List.length_append, List.length_replicate]
  omega
/-- the stack behind a word -/
def behind (w : T) (s : List T) : List T :=
  if sortT w = 0 then loadT w :: s
  else if 6 < sortT w then pad s (many (sortT w))
  else if sortT w = 1 then (pad s 1).drop 1
  else if sortT w = 2 then ats (pad s 1) 0 :: ats (pad s 1) 0 :: (pad s 1).drop 1
  else if sortT w = 3 then ats (pad s 2) 1 :: ats (pad s 2) 0 :: (pad s 2).drop 2
  else if sortT w = 4 then .node (ats (pad s 2) 0 :: (ats (pad s 2) 1).kids) :: (pad s 2).drop 2
  else if sortT w = 5 then ats (ats (pad s 1) 0).kids 0 :: .node ((ats (pad s 1) 0).kids.drop 1) :: (pad s 1).drop 1
  else ats (pad s 3) 2 :: ats (pad s 3) 0 :: ats (pad s 3) 1 :: (pad s 3).drop 3
/-- the texts and the stack behind a step, and its place in a tally -/
def onward (tx s : List T) : List T × List T × Nat :=
  match (ats tx 0).kids with
  | [] => (tx.drop 1, s, 12)
  | w :: ws =>
    if sortT w = 7 then
      if (ats s 0).kids ≠ [] then (ats (w.kids.drop 1) 0 :: .node ws :: tx.drop 1, behind w s, 7) else (.node (w.kids.drop 2) :: .node ws :: tx.drop 1, behind w s, 8)
    else if sortT w = 8 then
      if (ats s 0).kids ≠ [] then (loadT w :: tx, behind w s, 9) else (.node ws :: tx.drop 1, behind w s, 10)
    else if sortT w = 9 then (.node ws :: tx.drop 1, behind w s, 11)
    else (.node ws :: tx.drop 1, behind w s, sortT w)
theorem sort_le (w : T) : sortT w ≤ 9 := by
  unfold sortT
  split
  · omega
  · exact Nat.min_le_left _ _
def spAtT (K : PySem.W.Frag) : Sp := fun vs H Q _ => ∃ x ts, ∃ k : Nat, vs = [x, .int (k : Int)] ∧ TR K H (.node ts) x ∧ ∀ y H', Same H H' → TR K H' (ats ts k) y → Q y H'
def spSortL (K : PySem.W.Frag) : Sp := fun vs H Q _ => ∃ x t, vs = [x] ∧ TR K H t x ∧ t.deep ≤ 400 ∧ ∀ H', Same H H' → Q (.int (sortT t : Nat)) H'
def spBehind (K : PySem.W.Frag) : Sp := fun vs H Q _ => ∃ x w y s, vs = [x, y] ∧ TR K H w x ∧ TR K H (.node s) y ∧ w.deep ≤ 400 ∧ s.length ≤ 100000 ∧ (∀ t ∈ s, t.kids.length ≤ 100000) ∧ ∀ z H', Same H H' → TR K H' (.node (behind w s)) z → Q z H'
def spOnward (K : PySem.W.Frag) : Sp := fun vs H Q _ => ∃ x tx y s, vs = [x, y] ∧ TR K H (.node tx) x ∧ TR K H (.node s) y ∧ tx ≠ [] ∧ (T.node tx).deep ≤ 400 ∧ (T.node s).deep ≤ 400 ∧ tx.length ≤ 100000 ∧ s.length ≤ 100000 ∧ (∀ t ∈ s, t.kids.length ≤ 100000) ∧
  ∀ b u v H', Same H H' → SqT K H' b [u, v, .int ((onward tx s).2.2 : Nat)] → TR K H' (.node (onward tx s).1) u → TR K H' (.node (onward tx s).2.1) v → Q (.ref b) H'
theorem ats_mem {s : List T} {k : Nat} (h : k < s.length) : s[k]? = some (ats s k) := by
  unfold ats
  rw [List.getElem?_eq_getElem h]
  rfl
theorem kids_node (t : T) : T.node t.kids = t := by cases t; rfl
theorem lit_get {ns : List Nat} {k : Nat} (hk : k < ns.length) : atI (ns.map fun n : Nat => V.int (n : Int)) (k : Int) = some (.int ((ns.getD k 0 : Nat) : Int)) :=
  atI_nat (by rw [List.getElem?_map, List.getElem?_eq_getElem hk, List.getD_eq_getElem?_getD, List.getElem?_eq_getElem hk]; rfl)
/-- the stack while it is made long enough -/
def BehW (K : PySem.W.Frag) (H : Hp) (x : V) (k n : Nat) (s : List T) : Nat → Sg → Hp → Prop := fun m σ' H' => ∃ s' v, σ' = [some x, some v, some (.int (k : Int)), some (.int (n : Int)), none] ∧ Same H H' ∧ TR K H' (.node s') v ∧ pad s' n = pad s n ∧ s'.length ≤ s.length + n ∧ m = n - s'.length
section
variable {w : T} {s : List T}
theorem beh0 (h : sortT w = 0) : behind w s = loadT w :: s := by unfold behind; rw [if_pos h]
theorem beh7 (h : 6 < sortT w) : behind w s = pad s (many (sortT w)) := by unfold behind; rw [if_neg (by omega), if_pos h]
theorem beh1 (h : sortT w = 1) : behind w s = (pad s 1).drop 1 := by unfold behind; rw [h]; rfl
theorem beh2 (h : sortT w = 2) : behind w s = ats (pad s 1) 0 :: ats (pad s 1) 0 :: (pad s 1).drop 1 := by unfold behind; rw [h]; rfl
theorem beh3 (h : sortT w = 3) : behind w s = ats (pad s 2) 1 :: ats (pad s 2) 0 :: (pad s 2).drop 2 := by unfold behind; rw [h]; rfl
theorem beh4 (h : sortT w = 4) : behind w s = .node (ats (pad s 2) 0 :: (ats (pad s 2) 1).kids) :: (pad s 2).drop 2 := by unfold behind; rw [h]; rfl
theorem beh5 (h : sortT w = 5) : behind w s = ats (ats (pad s 1) 0).kids 0 :: .node ((ats (pad s 1) 0).kids.drop 1) :: (pad s 1).drop 1 := by unfold behind; rw [h]; rfl
theorem beh6 (h : sortT w = 6) : behind w s = ats (pad s 3) 2 :: ats (pad s 3) 0 :: ats (pad s 3) 1 :: (pad s 3).drop 3 := by unfold behind; rw [h]; rfl
end
theorem take1 (ts : List T) : (ts ++ [leaf]).take 1 = [ats ts 0] := by cases ts <;> rfl
theorem ats_in {s : List T} {k : Nat} (h : k < s.length) : ats s k ∈ s := List.mem_of_getElem? (ats_mem h)
theorem pad_kids {s : List T} {n m : Nat} (h : ∀ t ∈ s, t.kids.length ≤ m) : ∀ t ∈ pad s n, t.kids.length ≤ m := fun t ht => by
  unfold pad at ht
  rcases List.mem_append.mp ht with z | z
  · exact h t z
  · rw [List.eq_of_mem_replicate z]; exact Nat.zero_le _
section
variable {X : Cx}
theorem op_isB : OpR X (compareOp .Is) (fun x y H Q => ∃ b c, x = .bl b ∧ y = .bl c ∧ Q (.bl (b == c)) H) := by
  intro pins s σ H x y v u Q I rx ry h
  obtain ⟨b, c, rfl, rfl, q⟩ := h
  cases rx
  cases ry
  exact is_bool (fin_bl I q rfl)
theorem op_notB : OpR X (compareOp .IsNot) (fun x y H Q => ∃ b c, x = .bl b ∧ y = .bl c ∧ Q (.bl (b != c)) H) := by
  intro pins s σ H x y v u Q I rx ry h
  obtain ⟨b, c, rfl, rfl, q⟩ := h
  cases rx
  cases ry
  exact isnot_bool (fin_bl I q rfl)
end
/-- if c: x = e; both ways on as one -/
theorem ifSet {tc : TT} {te : TE} {i : Nat} {u : TS} {D : Ends} {σ : L2.St} {H : Hp} (P : V → Hp → Prop) (v0 : V) (hv0 : σ.set i (some v0) = σ) (k : ∀ v H', P v H' → u D (σ.set i (some v)) H')
    (h : ∀ A B : Hp → Prop, (∀ H1, (∀ R : VK, (∀ v H', P v H' → R v H') → te σ H1 R) → A H1) → (∀ H1, P v0 H1 → B H1) → tc σ H (fun b H1 => if b = true then A H1 else B H1)) :
    tSeq (tIfS tc (tAsg te (gName i)) tNext) u D σ H := by
  refine h (fun H1 => tAsg te (gName i) { D with nx := u D } σ H1) (fun H1 => tNext { D with nx := u D } σ H1) (fun H1 r => r _ fun v H' p => k v H' p) (fun H1 p => ?_)
  have q := k v0 H1 p
  rw [hv0] at q
  exact q
/-! ### bounds behind a step -/
theorem B.pos {a b : Nat} {t : T} (h : B a b t) : 1 ≤ b := Nat.le_trans (T.parts_pos t) h.2
theorem B_drop {a b : Nat} (k : Nat) {ts : List T} (h : B a b (.node ts)) : B a b (.node (ts.drop k)) := by
  obtain ⟨h1, h2⟩ := h
  have e := List.take_append_drop k ts
  rw [← e, T.deep_node, T.deepL_append] at h1
  rw [← e, T.parts_node, T.partsL_append] at h2
  exact ⟨by rw [T.deep_node]; omega, by rw [T.parts_node]; omega⟩
theorem B_mem {a b : Nat} {ts : List T} {t : T} (h : B a b (.node ts)) (ht : t ∈ ts) : B a b t := by
  have h1 := h.1
  have h2 := h.2
  rw [T.deep_node] at h1
  rw [T.parts_node] at h2
  have := T.mem_deep ht
  have := T.mem_parts ht
  exact ⟨by omega, by omega⟩
theorem B_ats {a b : Nat} {ts : List T} (h : B a b (.node ts)) (k : Nat) : B a b (ats ts k) := by
  by_cases hk : k < ts.length
  · exact B_mem h (ats_in hk)
  · unfold ats
    rw [List.getElem?_eq_none (by omega)]
    exact B_nil.le (by omega) h.pos
theorem B_kids {a b : Nat} {t : T} (h : B a b t) : B a b (.node t.kids) := by rw [kids_node]; exact h
theorem B_pad {a b : Nat} {s : List T} (n : Nat) (hn : n ≤ 3) (ha : 1 ≤ a) (h : B a b (.node s)) : B a (b + 4) (.node (pad s n)) :=
  (B_cat (B_row (a := 0) (b := 1) (n := 3) (fun t ht => by rw [List.eq_of_mem_replicate ht]; exact B_nil) (by rw [List.length_replicate]; omega)) h).le (by omega) (by omega)
theorem B_behind {a b : Nat} {w : T} {s : List T} (ha : 1 ≤ a) (hw : B a b w) (hs : B a b (.node s)) : B (a + 2) (4 * b + 16) (.node (behind w s)) := by
  have hb := hw.pos
  unfold behind
  split
  · exact (B_cons (B_loadT hw) hs).le (by omega) (by omega)
  split
  · refine (B_pad _ ?_ ha hs).le (by omega) (by omega)
    have : ∀ k, k ≤ 9 → many k ≤ 3 := by decide
    exact this _ (sort_le w)
  have p1 := B_pad 1 (by omega) ha hs
  have p2 := B_pad 2 (by omega) ha hs
  have p3 := B_pad 3 (by omega) ha hs
  split
  · exact (B_drop 1 p1).le (by omega) (by omega)
  split
  · exact (B_cons (B_ats p1 0) (B_cons (B_ats p1 0) (B_drop 1 p1))).le (by omega) (by omega)
  split
  · exact (B_cons (B_ats p2 1) (B_cons (B_ats p2 0) (B_drop 2 p2))).le (by omega) (by omega)
  split
  · exact (B_cons (B_cons (B_ats p2 0) (B_kids (B_ats p2 1))) (B_drop 2 p2)).le (by omega) (by omega)
  split
  · exact (B_cons (B_ats (B_kids (B_ats p1 0)) 0) (B_cons (B_drop 1 (B_kids (B_ats p1 0))) (B_drop 1 p1))).le (by omega) (by omega)
  · exact (B_cons (B_ats p3 2) (B_cons (B_ats p3 0) (B_cons (B_ats p3 1) (B_drop 3 p3)))).le (by omega) (by omega)
theorem B_onward {a b : Nat} {tx s : List T} (ha : 1 ≤ a) (ht : B a b (.node tx)) (hs : B a b (.node s)) : B (a + 2) (4 * b + 16) (.node (onward tx s).1) ∧ B (a + 2) (4 * b + 16) (.node (onward tx s).2.1) := by
  have hb := ht.pos
  have t0 := B_kids (B_ats ht 0)
  unfold onward
  split
  · exact ⟨(B_drop 1 ht).le (by omega) (by omega), hs.le (by omega) (by omega)⟩
  · rename_i w ws e
    rw [e] at t0
    have hw : B a b w := B_mem t0 List.mem_cons_self
    have hws : B a b (.node ws) := B_drop 1 t0
    have hbe := B_behind ha hw hs
    have hd := B_drop 1 ht
    have hl := B_drop 1 (B_kids hw)
    split
    · split
      · exact ⟨(B_cons (B_ats hl 0) (B_cons hws hd)).le (by omega) (by omega), hbe⟩
      · exact ⟨(B_cons (B_drop 2 (B_kids hw)) (B_cons hws hd)).le (by omega) (by omega), hbe⟩
    split
    · split
      · exact ⟨(B_cons (B_loadT hw) ht).le (by omega) (by omega), hbe⟩
      · exact ⟨(B_cons hws hd).le (by omega) (by omega), hbe⟩
    split
    · exact ⟨(B_cons hws hd).le (by omega) (by omega), hbe⟩
    · exact ⟨(B_cons hws hd).le (by omega) (by omega), hbe⟩
/-! ### stands -/
def spEnded (K : PySem.W.Frag) : Sp := fun vs H Q _ => ∃ x tx s, vs = [x] ∧ TR K H (.node [.node tx, .node s]) x ∧ B 390 100000 (.node tx) ∧ B 390 100000 (.node s) ∧ ∀ H', Same H H' → Q (.bl (decide (tx.length = 0))) H'
def spNextOf (K : PySem.W.Frag) : Sp := fun vs H Q _ => ∃ x tx s, vs = [x] ∧ TR K H (.node [.node tx, .node s]) x ∧ tx ≠ [] ∧ B 390 100000 (.node tx) ∧ B 390 100000 (.node s) ∧
  ∀ y H', Same H H' → TR K H' (.node [.node (onward tx s).1, .node (onward tx s).2.1]) y → Q y H'
/-- x = e, on with what is known of it -/
theorem setP {te : TE} {i : Nat} {u : TS} {D : Ends} {σ : L2.St} {H : Hp} (P : V → Hp → Prop) (h : ∀ R : VK, (∀ v H', P v H' → R v H') → te σ H R) (k : ∀ v H', P v H' → u D (σ.set i (some v)) H') : tSeq (tAsg te (gName i)) u D σ H := h _ k
theorem dk_ne {H : Hp} {p q : Addr} (d : DkAt H p) (h : H q = none) : q ≠ p := fun z => by
  obtain ⟨ms, e⟩ := d
  rw [z, e] at h
  cases h
/-- the same, with the state behind it written out: else each look at a name goes through all that was set before -/
theorem setQ {te : TE} {i : Nat} {u : TS} {D : Ends} {σ : L2.St} {H : Hp} (σ' : V → L2.St) (hσ : ∀ v, σ.set i (some v) = σ' v) (P : V → Hp → Prop) (h : ∀ R : VK, (∀ v H', P v H' → R v H') → te σ H R) (k : ∀ v H', P v H' → u D (σ' v) H') : tSeq (tAsg te (gName i)) u D σ H :=
  setP P h fun v H' p => by rw [hσ]; exact k v H' p
theorem ifSetQ {tc : TT} {te : TE} {i : Nat} {u : TS} {D : Ends} {σ : L2.St} {H : Hp} (σ' : V → L2.St) (hσ : ∀ v, σ.set i (some v) = σ' v) (P : V → Hp → Prop) (v0 : V) (hv0 : σ.set i (some v0) = σ) (k : ∀ v H', P v H' → u D (σ' v) H')
    (h : ∀ A B : Hp → Prop, (∀ H1, (∀ R : VK, (∀ v H', P v H' → R v H') → te σ H1 R) → A H1) → (∀ H1, P v0 H1 → B H1) → tc σ H (fun b H1 => if b = true then A H1 else B H1)) :
    tSeq (tIfS tc (tAsg te (gName i)) tNext) u D σ H := ifSet P v0 hv0 (fun v H' p => by rw [hσ]; exact k v H' p) h
end Sw

/-! ## the program's own defs over trees: first, rest, words, stands -/
namespace Sw
open PySem PySem.Spec PyProof.Rows L2
/-- a tuple of the module -/
def TupO (o : Obj) (xs : List V) : Prop := ∃ (its : Array Value) (n : Nat), o.cls = .type "tuple" ∧ o.data = .seq its n ∧ its.size ≤ sizeLine ∧ Vals xs its.toList
theorem TupO.sq {K : PySem.W.Frag} {o : Obj} {xs : List V} {a : Addr} {H : Hp} (h : TupO o xs) (l : K.lookup a = some o) : SqT K H a xs := by
  obtain ⟨its, n, h1, h2, h3, h4⟩ := h
  exact .inr ⟨o, its, n, l, h1, h2, h3, h4⟩
def spFirst (K : PySem.W.Frag) : Sp := fun vs H Q _ => ∃ x t, vs = [x] ∧ TR K H t x ∧ t.deep ≤ 400 ∧ ∀ y H', Same H H' → TR K H' (ats t.kids 0) y → Q y H'
def spRest (K : PySem.W.Frag) : Sp := fun vs H Q _ => ∃ x t, vs = [x] ∧ TR K H t x ∧ ∀ y H', Same H H' → TR K H' (loadT t) y → Q y H'
theorem sort_ats (t : T) : sortT t = min 9 (ats t.kids 0).kids.length := by
  cases t with
  | node ts => cases ts <;> rfl
theorem TR_kids {K : PySem.W.Frag} {H : Hp} {t : T} {x : V} (h : TR K H t x) : TR K H (.node t.kids) x := by rw [kids_node]; exact h
theorem smallM {n : Nat} (h : n ≤ 16000000) : n ≤ sizeLine := Nat.le_trans h (by decide)
theorem two62 : (2 : Int) ^ 62 = 4611686018427387904 := by decide
/-- so many leaves, in a tuple -/
theorem nRep {K : PySem.W.Frag} {H : Hp} {Q : VK} {x y : V} {k : Int} (n : Nat) (hx : TR K H (.node [.node []]) x) (hy : y = .int k) (hk : k.toNat = n) (h0 : -16000000 ≤ k) (hn : n ≤ 16000000) (q : ∀ z H', Same H H' → TR K H' (leavesT n) z → Q z H') : rRepTA K x y H Q := by
  obtain ⟨a, xs, rfl, ha, ra⟩ := TR_node.mp hx
  obtain ⟨v, r, rfl, hv, hr⟩ := TRs_cons.mp ra
  rw [TRs_nil] at hr
  subst hr
  subst hk
  have h2 := two62
  refine ⟨a, k, [v], rfl, hy, ha, by omega, by omega, by show 1 * k.toNat ≤ sizeLine; exact smallM (by omega), fun p H' S h => q _ _ S ?_⟩
  have e : repV [v] k = List.replicate k.toNat v := by
    unfold repV
    exact flat_rep v _
  rw [e] at h
  exact TR_mk h (trs_rep (hv.mono (.of S)) _)
theorem nRepP {K : PySem.W.Frag} {H : Hp} {Q : VK} {σ : L2.St} {x y : V} {k : Int} (n : Nat) (hx : TR K H (.node [.node []]) x) (hy : y = .int k) (hk : k.toNat = n) (h0 : -16000000 ≤ k) (hn : n ≤ 16000000) (q : ∀ z H', Same H H' → TR K H' (leavesT n) z → Q z H') : tC y σ H (fun y H2 => rRepTA K x y H2 Q) := nRep n hx hy hk h0 hn q
def looks (k : Nat) : Nat := ([0, 1, 1, 2, 2, 1, 3, 1, 1, 1, 1, 0, 0] : List Nat).getD k 0
/-- the stack behind a step within a text -/
def workT (k : Nat) (l : T) (s : List T) : List T :=
  if k = 0 then l :: s
  else if k = 1 then s.drop 1
  else if k = 2 then ats s 0 :: s
  else if k = 3 then ats s 1 :: ats s 0 :: s.drop 2
  else if k = 4 then .node (ats s 0 :: (ats s 1).kids) :: s.drop 2
  else if k = 5 then ats (ats s 0).kids 0 :: loadT (ats s 0) :: s.drop 1
  else if k = 6 then ats s 2 :: ats s 0 :: ats s 1 :: s.drop 3
  else s
theorem cons_drop {s : List T} (h : 1 ≤ s.length) : ats s 0 :: s.drop 1 = s := by
  cases s with
  | nil => simp at h
  | cons t r => rfl
theorem work_behind {w : T} {s : List T} (h : sortT w ≤ 6) : behind w s = workT (sortT w) (loadT w) (pad s (looks (sortT w))) := by
  have hl : sortT w = 0 ∨ sortT w = 1 ∨ sortT w = 2 ∨ sortT w = 3 ∨ sortT w = 4 ∨ sortT w = 5 ∨ sortT w = 6 := by omega
  rcases hl with e | e | e | e | e | e | e
  · rw [beh0 e, e]; show _ = loadT w :: pad s 0; rw [pad_of (Nat.zero_le _)]
  · rw [beh1 e, e]; rfl
  · rw [beh2 e, e]
    show _ = ats (pad s 1) 0 :: pad s 1
    rw [cons_drop (pad_len s 1)]
  · rw [beh3 e, e]; rfl
  · rw [beh4 e, e]; rfl
  · rw [beh5 e, e]; rfl
  · rw [beh6 e, e]; rfl
def stepT (tx s : List T) : Nat := (onward tx s).2.2
theorem step_nil {tx s : List T} (h : (ats tx 0).kids = []) : stepT tx s = 12 := by
  unfold stepT onward
  rw [h]
section
variable {tx s : List T} {w : T} {ws : List T}
theorem on_nil (h : (ats tx 0).kids = []) : onward tx s = (tx.drop 1, s, 12) := by
  unfold onward
  rw [h]
theorem on_yes (h : (ats tx 0).kids = w :: ws) (e : sortT w = 7) (d : (ats s 0).kids ≠ []) : onward tx s = (ats (w.kids.drop 1) 0 :: .node ws :: tx.drop 1, pad s 1, 7) := by
  unfold onward
  rw [h]
  show (if sortT w = 7 then _ else _) = _
  rw [if_pos e, if_pos d, beh7 (by omega), e]
  rfl
theorem on_no (h : (ats tx 0).kids = w :: ws) (e : sortT w = 7) (d : (ats s 0).kids = []) : onward tx s = (.node (w.kids.drop 2) :: .node ws :: tx.drop 1, pad s 1, 8) := by
  unfold onward
  rw [h]
  show (if sortT w = 7 then _ else _) = _
  rw [if_pos e, if_neg (by simp [d]), beh7 (by omega), e]
  rfl
theorem on_into (h : (ats tx 0).kids = w :: ws) (e : sortT w = 8) (d : (ats s 0).kids ≠ []) : onward tx s = (loadT w :: tx, pad s 1, 9) := by
  unfold onward
  rw [h]
  show (if sortT w = 7 then _ else _) = _
  rw [if_neg (by omega), if_pos e, if_pos d, beh7 (by omega), e]
  rfl
theorem on_past (h : (ats tx 0).kids = w :: ws) (e : sortT w = 8) (d : (ats s 0).kids = []) : onward tx s = (.node ws :: tx.drop 1, pad s 1, 10) := by
  unfold onward
  rw [h]
  show (if sortT w = 7 then _ else _) = _
  rw [if_neg (by omega), if_pos e, if_neg (by simp [d]), beh7 (by omega), e]
  rfl
theorem on_less (h : (ats tx 0).kids = w :: ws) (e : sortT w = 9) : onward tx s = (.node ws :: tx.drop 1, pad s 0, 11) := by
  unfold onward
  rw [h]
  show (if sortT w = 7 then _ else _) = _
  rw [if_neg (by omega), if_neg (by omega), if_pos e, beh7 (by omega), e]
  rfl
theorem on_word (h : (ats tx 0).kids = w :: ws) (e : sortT w ≤ 6) : onward tx s = (.node ws :: tx.drop 1, workT (sortT w) (loadT w) (pad s (looks (sortT w))), sortT w) := by
  unfold onward
  rw [h]
  show (if sortT w = 7 then _ else _) = _
  rw [if_neg (by omega), if_neg (by omega), if_neg (by omega), work_behind e]
end
theorem work_ge {k : Nat} {l : T} {s : List T} (h : 7 ≤ k) : workT k l s = s := by
  unfold workT
  rw [if_neg (by omega), if_neg (by omega), if_neg (by omega), if_neg (by omega), if_neg (by omega), if_neg (by omega), if_neg (by omega)]
theorem looks_le (k : Nat) : looks k ≤ 3 := by
  by_cases h : k < 13
  · have : ∀ k, k < 13 → looks k ≤ 3 := by decide
    exact this k h
  · unfold looks
    rw [List.getD_eq_getElem?_getD, List.getElem?_eq_none (by show 13 ≤ k; omega)]
    decide
section
variable {tx s : List T}
/-- all ways of a step -/
theorem on_all : ((ats tx 0).kids = [] ∧ onward tx s = (tx.drop 1, s, 12)) ∨ ∃ w ws, (ats tx 0).kids = w :: ws ∧
    (onward tx s = (ats (w.kids.drop 1) 0 :: .node ws :: tx.drop 1, pad s 1, 7) ∨ onward tx s = (.node (w.kids.drop 2) :: .node ws :: tx.drop 1, pad s 1, 8) ∨ onward tx s = (loadT w :: tx, pad s 1, 9) ∨
     ∃ k, (k ≤ 6 ∨ k = 10 ∨ k = 11) ∧ onward tx s = (.node ws :: tx.drop 1, workT k (loadT w) (pad s (looks k)), k)) := by
  cases hk : (ats tx 0).kids with
  | nil => exact .inl ⟨rfl, on_nil hk⟩
  | cons w ws =>
    refine .inr ⟨w, ws, rfl, ?_⟩
    have h9 := sort_le w
    by_cases e7 : sortT w = 7
    · by_cases d : (ats s 0).kids = []
      · exact .inr (.inl (on_no hk e7 d))
      · exact .inl (on_yes hk e7 d)
    by_cases e8 : sortT w = 8
    · by_cases d : (ats s 0).kids = []
      · exact .inr (.inr (.inr ⟨10, by omega, on_past hk e8 d⟩))
      · exact .inr (.inr (.inl (on_into hk e8 d)))
    by_cases e9 : sortT w = 9
    · exact .inr (.inr (.inr ⟨11, by omega, on_less hk e9⟩))
    · exact .inr (.inr (.inr ⟨sortT w, by omega, on_word hk (by omega)⟩))
theorem step_le : stepT tx s ≤ 12 := by
  unfold stepT
  rcases on_all (tx := tx) (s := s) with ⟨_, e⟩ | ⟨w, ws, _, e | e | e | ⟨k, h, e⟩⟩
  · rw [e]; exact Nat.le_refl 12
  · rw [e]; show 7 ≤ 12; omega
  · rw [e]; show 8 ≤ 12; omega
  · rw [e]; show 9 ≤ 12; omega
  · rw [e]; show k ≤ 12; omega
theorem st12 (h : stepT tx s = 12) : onward tx s = (tx.drop 1, s, 12) := by
  unfold stepT at h
  rcases on_all (tx := tx) (s := s) with ⟨_, e⟩ | ⟨w, ws, _, e | e | e | ⟨k, g, e⟩⟩
  · exact e
  · rw [e] at h; cases h
  · rw [e] at h; cases h
  · rw [e] at h; cases h
  · rw [e] at h; have h : k = 12 := h; omega
theorem st_word (h : stepT tx s ≠ 12) : ∃ w ws, (ats tx 0).kids = w :: ws := by
  unfold stepT at h
  rcases on_all (tx := tx) (s := s) with ⟨_, e⟩ | ⟨w, ws, z, _⟩
  · rw [e] at h; exact absurd rfl h
  · exact ⟨w, ws, z⟩
variable {w : T} {ws : List T}
theorem st7 (hk : (ats tx 0).kids = w :: ws) (h : stepT tx s = 7) : onward tx s = (ats (w.kids.drop 1) 0 :: .node ws :: tx.drop 1, pad s 1, 7) := by
  unfold stepT at h
  rcases on_all (tx := tx) (s := s) with ⟨_, e⟩ | ⟨w', ws', z, e | e | e | ⟨k, g, e⟩⟩
  · rw [e] at h; cases h
  · rw [hk] at z; cases z; exact e
  · rw [e] at h; cases h
  · rw [e] at h; cases h
  · rw [e] at h; have h : k = 7 := h; omega
theorem st8 (hk : (ats tx 0).kids = w :: ws) (h : stepT tx s = 8) : onward tx s = (.node (w.kids.drop 2) :: .node ws :: tx.drop 1, pad s 1, 8) := by
  unfold stepT at h
  rcases on_all (tx := tx) (s := s) with ⟨_, e⟩ | ⟨w', ws', z, e | e | e | ⟨k, g, e⟩⟩
  · rw [e] at h; cases h
  · rw [e] at h; cases h
  · rw [hk] at z; cases z; exact e
  · rw [e] at h; cases h
  · rw [e] at h; have h : k = 8 := h; omega
theorem st9 (hk : (ats tx 0).kids = w :: ws) (h : stepT tx s = 9) : onward tx s = (loadT w :: tx, pad s 1, 9) := by
  unfold stepT at h
  rcases on_all (tx := tx) (s := s) with ⟨_, e⟩ | ⟨w', ws', z, e | e | e | ⟨k, g, e⟩⟩
  · rw [e] at h; cases h
  · rw [e] at h; cases h
  · rw [e] at h; cases h
  · rw [hk] at z; cases z; exact e
  · rw [e] at h; have h : k = 9 := h; omega
theorem stw (hk : (ats tx 0).kids = w :: ws) (h12 : stepT tx s ≠ 12) (h7 : stepT tx s ≠ 7) (h8 : stepT tx s ≠ 8) (h9 : stepT tx s ≠ 9) : onward tx s = (.node ws :: tx.drop 1, workT (stepT tx s) (loadT w) (pad s (looks (stepT tx s))), stepT tx s) := by
  unfold stepT at h12 h7 h8 h9 ⊢
  rcases on_all (tx := tx) (s := s) with ⟨_, e⟩ | ⟨w', ws', z, e | e | e | ⟨k, g, e⟩⟩
  · rw [e] at h12; exact absurd rfl h12
  · rw [e] at h7; exact absurd rfl h7
  · rw [e] at h8; exact absurd rfl h8
  · rw [e] at h9; exact absurd rfl h9
  · rw [hk] at z; cases z; rw [e]
end
/-- texts to be gone through: each not too large, not too many -/
def BX (tx : List T) : Prop := tx.length ≤ 8000000 ∧ ∀ t ∈ tx, B 389 8000000 t
theorem BX.of {a b : Nat} {tx : List T} (h : B a b (.node tx)) (ha : a ≤ 390) (hb : b ≤ 8000000) : BX tx := by
  refine ⟨by have := h.len; omega, fun t ht => ?_⟩
  have h1 := h.1
  have h2 := h.2
  rw [T.deep_node] at h1
  rw [T.parts_node] at h2
  have := T.mem_deep ht
  have := T.mem_parts ht
  exact ⟨by omega, by omega⟩
theorem deepL_le {n : Nat} : ∀ {ts : List T}, (∀ t ∈ ts, t.deep < n) → T.deepL ts ≤ n
  | [], _ => by rw [T.deepL_nil]; omega
  | t :: ts, h => by
    rw [T.deepL_cons]
    have h1 := h t List.mem_cons_self
    have h2 := deepL_le (n := n) (ts := ts) fun u hu => h u (List.mem_cons_of_mem _ hu)
    omega
theorem BX.deep {tx : List T} (h : BX tx) : (T.node tx).deep ≤ 390 := by
  rw [T.deep_node]
  exact deepL_le fun t ht => by have := (h.2 t ht).1; omega
theorem BX.ats {tx : List T} (h : BX tx) : B 390 8000000 (ats tx 0) := by
  cases tx with
  | nil => exact B_nil.le (by omega) (by omega)
  | cons t r => exact (h.2 t List.mem_cons_self).le (by omega) (by omega)
def spStep (K : PySem.W.Frag) : Sp := fun vs H Q _ => ∃ x tx s, vs = [x] ∧ TR K H (.node [.node tx, .node s]) x ∧ BX tx ∧ B 390 8000000 (.node s) ∧ ∀ H', Same H H' → Q (.int (stepT tx s : Nat)) H'
def spFilled (K : PySem.W.Frag) : Sp := fun vs H Q _ => ∃ x s, ∃ n : Nat, vs = [x, .int (n : Int)] ∧ TR K H (.node s) x ∧ s.length ≤ 8000000 ∧ n ≤ 3 ∧ ∀ y H', Same H H' → TR K H' (.node (pad s n)) y → Q y H'
def spWorked (K : PySem.W.Frag) : Sp := fun vs H Q _ => ∃ (k : Nat) (y z : V) (l : T) (s : List T), vs = [.int (k : Int), y, z] ∧ TR K H l y ∧ TR K H (.node s) z ∧ looks k ≤ s.length ∧ B 395 8000010 (.node s) ∧ ∀ v H', Same H H' → TR K H' (.node (workT k l s)) v → Q v H'
def spEndedM (K : PySem.W.Frag) : Sp := fun vs H Q _ => ∃ x tx s, vs = [x] ∧ TR K H (.node [.node tx, .node s]) x ∧ BX tx ∧ B 390 8000000 (.node s) ∧ ∀ H', Same H H' → Q (.bl (decide (tx.length = 0))) H'
def spNextOfM (K : PySem.W.Frag) : Sp := fun vs H Q _ => ∃ x tx s, vs = [x] ∧ TR K H (.node [.node tx, .node s]) x ∧ tx ≠ [] ∧ BX tx ∧ B 390 8000000 (.node s) ∧
  ∀ y H', Same H H' → TR K H' (.node [.node (onward tx s).1, .node (onward tx s).2.1]) y → Q y H'
theorem weakSort {K : PySem.W.Frag} (vs : List V) (H : Hp) (Q : VK) (E : XK) (h : spSort K vs H Q E) : spSortL K vs H Q E := by
  obtain ⟨x, t, e, ht, h1, _, q⟩ := h
  exact ⟨x, t, e, ht, h1, q⟩
theorem weakLoad {K : PySem.W.Frag} (vs : List V) (H : Hp) (Q : VK) (E : XK) (h : spLoad K vs H Q E) : spRest K vs H Q E := by
  obtain ⟨x, t, e, ht, _, _, q⟩ := h
  exact ⟨x, t, e, ht, q⟩
theorem weakEnded {K : PySem.W.Frag} (vs : List V) (H : Hp) (Q : VK) (E : XK) (h : spEnded K vs H Q E) : spEndedM K vs H Q E := by
  obtain ⟨x, tx, s, e, ht, h1, h2, q⟩ := h
  exact ⟨x, tx, s, e, ht, .of h1 (by omega) (by omega), h2.le (by omega) (by omega), q⟩
theorem weakNext {K : PySem.W.Frag} (vs : List V) (H : Hp) (Q : VK) (E : XK) (h : spNextOf K vs H Q E) : spNextOfM K vs H Q E := by
  obtain ⟨x, tx, s, e, ht, hn, h1, h2, q⟩ := h
  exact ⟨x, tx, s, e, ht, hn, .of h1 (by omega) (by omega), h2.le (by omega) (by omega), q⟩
theorem beq_leaf (ts : List T) : (T.node ts).beq leaf = decide (ts.length = 0) := by
  cases ts with
  | nil => show T.beq (.node []) leaf = true; exact (T.beq_iff _ _).mpr rfl
  | cons t r =>
    rw [Bool.eq_iff_iff, T.beq_iff]
    simp [leaf]
end Sw

/-! ## events and costs: xs[i] = v, sum of a tuple -/
namespace Sw
open PySem PySem.Spec PyProof.Rows L2
theorem qg_sub {X : Cx} {pos : Pos} {o i : Expr} {to ti : TE} {t : TSet} (ho : QE X o to) (hi : QE X i ti) (hs : PSet X t)
    (ha : ∀ v, assign (.Subscript o i pos) X.env v = (do
      let ov ← holding [v] (eval o X.env)
      let iv ← holding [v, ov] (eval i X.env)
      standAt pos
      holding [v, ov, iv] (setItem ov iv v)
      release [v, ov, iv] []) := by intro _; rfl) : QG X (.Subscript o i pos) (gSub to ti t) := ⟨L2.pg_sub (ho := ho.run) (hi := hi.run) (hs := hs) (ha := ha)⟩
section
variable {X : Cx}
/-- sum of a tuple of ints -/
theorem call_sumT (hc : X.calm = true) : CallR X (.builtin "sum") (fun xs H Q => ∃ (p : Addr) (ns : List Int), xs = [.ref p] ∧ SqT X.K H p (ns.map V.int) ∧ Q (.int ns.sum) H) := by
  intro pins s σ H xs us Q I r h
  obtain ⟨p, ns, rfl, hq, q⟩ := h
  obtain ⟨u, rfl, rx⟩ := vals1 r
  cases rx
  obtain ⟨its, r', pl, hz⟩ := I.tuple hq
  have hi : IntsAre its ns := intsAre_of r'
  obtain ⟨ys, e⟩ := hi.allInts.items
  have hns : ns = ys.toList.map (·.1) := by
    rw [← hi.numsOf, ← nums_intItems, ← e]
  have ht : s.heap.IsTuple p its.toArray := pl
  rw [e] at ht
  obtain ⟨o, ho, hc', n, hd⟩ := id ht
  have hne : p ≠ s.heap.objs.size := Nat.ne_of_lt (Heap.lt_size ho)
  have hsz : (intItems ys).size = ys.size := by simp [intItems]
  have W := Walks.tuple (prog := X.prog) (w := X.w) (A := X.A.in1) (I.ok.hd hc) s.heap.objs.size p hne (intItems ys)
  rw [hsz] at W
  refine call_sum_walkG (wpAny_pyIter_tuple ht ?_)
  refine ⟨s.heap.objs.size, _, _, _, _, _, numAt ys, rfl, W, ⟨⟨_, Heap.get?_push_size _ rfl, rfl, rfl⟩, ht.push _⟩, fun b hb => ?_, fun i v hP => intItems_at hP, fun h' tk t' hk => ?_⟩
  · rcases List.mem_cons.mp hb with rfl | hb
    · exact Heap.lt_size (Heap.get?_push_size _ rfl)
    · obtain rfl := List.mem_singleton.mp hb
      exact Heap.lt_size (Heap.get?_push_of_some _ ho)
  · have es : preSum (numAt ys) ys.size = ns.sum := by rw [preSum_eq, List.take_of_length_le (by simp), hns]
    exact ⟨.int ns.sum, H, I.kept (fun b o e => hk b o (fun z => absurd (Heap.lt_size e) (by rw [List.mem_singleton.mp z]; exact Nat.lt_irrefl _)) (Heap.get?_push_of_some _ e)), ⟨t', by rw [es]⟩, q⟩
end
theorem ixN_nat {n j : Nat} (h : j < n) : ixN n (j : Int) = some j := by
  unfold ixN
  rw [if_pos (by omega), if_pos (by omega), Int.toNat_natCast]
/-- numbers as values -/
abbrev nv (n : Nat) : V := .int (n : Int)
def spPartsM (K : PySem.W.Frag) : Sp := fun vs H Q _ => ∃ x t, vs = [x] ∧ TR K H t x ∧ t.parts ≤ 8000000 ∧ ∀ H', Same H H' → Q (.int t.parts) H'
def WPartsM (K : PySem.W.Frag) (H : Hp) (x : V) (n : Nat) (p : Addr) : Nat → Sg → Hp → Prop := fun m σ H' => ∃ (ys : List V) (ts : List T) (c : Nat) (o : Option V),
  σ = [some x, some (.ref p), some (.int c), o] ∧ Same H H' ∧ H' p = some (.lst ys) ∧ TRs K H' ts ys ∧ c + T.partsL ts = n ∧ m = T.partsL ts
def ev0 (k : Nat) : List Nat := (List.replicate 15 0).set k 1
def eventT (tx s : List T) : List Nat :=
  if stepT tx s = 2 then (ev0 2).set 13 (ats s 0).parts
  else if stepT tx s = 9 then (ev0 9).set 14 (loadT (ats (ats tx 0).kids 0)).parts
  else ev0 (stepT tx s)
def costZ (ns : List Nat) : Int := ((ns.take 13).map fun n : Nat => (n : Int)).sum - (ns.getD 2 0 : Nat) + (ns.getD 13 0 : Nat)
/-- the steps of a step -/
def costT (tx s : List T) : Nat := if stepT tx s = 2 then (ats s 0).parts else 1
theorem ev_len (tx s : List T) : (eventT tx s).length = 15 := by
  unfold eventT ev0
  split
  · simp
  split <;> simp
theorem ev_cost (tx s : List T) : costZ (eventT tx s) = (costT tx s : Nat) := by
  have h := step_le (tx := tx) (s := s)
  unfold eventT costT
  split
  · rename_i e
    show (0 + (0 + (1 + (0 + (0 + (0 + (0 + (0 + (0 + (0 + (0 + (0 + (0 + 0))))))))))))) - (1 : Int) + ((ats s 0).parts : Int) = _
    omega
  split
  · show (0 + (0 + (0 + (0 + (0 + (0 + (0 + (0 + (0 + (1 + (0 + (0 + (0 + 0))))))))))))) - (0 : Int) + (0 : Int) = _
    omega
  · generalize stepT tx s = k at *
    have : ∀ k, k ≤ 12 → k ≠ 2 → costZ (ev0 k) = ((1 : Nat) : Int) := by decide
    exact this k h (by assumption)
theorem cost_pos (tx s : List T) : 1 ≤ costT tx s := by
  unfold costT
  split
  · exact T.parts_pos _
  · exact Nat.le_refl 1
def spEvent (K : PySem.W.Frag) : Sp := fun vs H Q _ => ∃ x tx s, vs = [x] ∧ TR K H (.node [.node tx, .node s]) x ∧ tx ≠ [] ∧ BX tx ∧ B 390 8000000 (.node s) ∧
  ∀ p H', Same H H' → SqT K H' p ((eventT tx s).map nv) → Q (.ref p) H'
def spCost (K : PySem.W.Frag) : Sp := fun vs H Q _ => ∃ (a : Addr) (ns : List Nat), vs = [.ref a] ∧ SqT K H a (ns.map nv) ∧ ns.length = 15 ∧ ∀ H', Same H H' → Q (.int (costZ ns)) H'
theorem nv_at {ns : List Nat} {k : Nat} (h : k < ns.length) : atI (ns.map nv) (k : Int) = some (.int ((ns.getD k 0 : Nat) : Int)) :=
  atI_nat (by rw [List.getElem?_map, List.getElem?_eq_getElem h, List.getD_eq_getElem?_getD, List.getElem?_eq_getElem h]; rfl)
theorem nv_take (ns : List Nat) (k : Nat) : (ns.map nv).take k = ((ns.take k).map fun n : Nat => (n : Int)).map V.int := by
  rw [← List.map_take, List.map_map]
  rfl
theorem nv_set (ns : List Nat) (k v : Nat) : (ns.map nv).set k (nv v) = (ns.set k v).map nv := by rw [List.map_set]
end Sw

/-! ## two texts, one behind the other -/
namespace Sw
open PySem PySem.Spec PyProof.Rows L2
theorem on_word2 (w : T) (s : List T) : ∃ (A : List T) (keep : Bool) (st : List T) (k : Nat), ∀ ws Y, onward (.node (w :: ws) :: Y) s = (A ++ .node (if keep then w :: ws else ws) :: Y, st, k) := by
  have h9 := sort_le w
  by_cases e7 : sortT w = 7
  · by_cases d : (ats s 0).kids = []
    · exact ⟨[.node (w.kids.drop 2)], false, pad s 1, 8, fun ws Y => on_no rfl e7 d⟩
    · exact ⟨[ats (w.kids.drop 1) 0], false, pad s 1, 7, fun ws Y => on_yes rfl e7 d⟩
  by_cases e8 : sortT w = 8
  · by_cases d : (ats s 0).kids = []
    · exact ⟨[], false, pad s 1, 10, fun ws Y => on_past rfl e8 d⟩
    · exact ⟨[loadT w], true, pad s 1, 9, fun ws Y => on_into rfl e8 d⟩
  by_cases e9 : sortT w = 9
  · exact ⟨[], false, pad s 0, 11, fun ws Y => on_less rfl e9⟩
  · exact ⟨[], false, _, sortT w, fun ws Y => on_word rfl (by omega)⟩
theorem on_pre (x : T) (s : List T) : ∃ (A : List T) (st : List T) (k : Nat), ∀ Y, onward (x :: Y) s = (A ++ Y, st, k) := by
  cases x with
  | node ps =>
    cases ps with
    | nil => exact ⟨[], s, 12, fun Y => on_nil rfl⟩
    | cons w ws =>
      obtain ⟨A, keep, st, k, h⟩ := on_word2 w s
      exact ⟨A ++ [.node (if keep then w :: ws else ws)], st, k, fun Y => by rw [h ws Y, List.append_assoc]; rfl⟩
def joinT (X p q R : List T) : List T := X ++ .node (p ++ q) :: R
def partT (X p q R : List T) : List T := X ++ .node p :: .node q :: R
theorem par_step {X p q R s : List T} (h : ¬ (X = [] ∧ p = [])) : ∃ X' p' st k, onward (joinT X p q R) s = (joinT X' p' q R, st, k) ∧ onward (partT X p q R) s = (partT X' p' q R, st, k) := by
  cases X with
  | cons x X0 =>
    obtain ⟨A, st, k, g⟩ := on_pre x s
    refine ⟨A ++ X0, p, st, k, ?_, ?_⟩
    · show onward (x :: (X0 ++ .node (p ++ q) :: R)) s = _
      rw [g]
      unfold joinT
      rw [List.append_assoc]
    · show onward (x :: (X0 ++ .node p :: .node q :: R)) s = _
      rw [g]
      unfold partT
      rw [List.append_assoc]
  | nil =>
    cases p with
    | nil => exact absurd ⟨rfl, rfl⟩ h
    | cons w ws =>
      obtain ⟨A, keep, st, k, g⟩ := on_word2 w s
      refine ⟨A, if keep then w :: ws else ws, st, k, ?_, ?_⟩
      · show onward (.node (w :: (ws ++ q)) :: R) s = _
        rw [g]
        unfold joinT
        cases keep <;> rfl
      · show onward (.node (w :: ws) :: .node q :: R) s = _
        rw [g]
        unfold partT
        cases keep <;> rfl
theorem part_shut {q R s : List T} : onward (partT [] [] q R) s = (.node q :: R, s, 12) := on_nil rfl
theorem part_eq {X p q R : List T} : partT X p q R = leaf :: .node q :: R ↔ X = [] ∧ p = [] := by
  constructor
  · intro h
    cases X with
    | nil =>
      have : T.node p = leaf := (List.cons.inj h).1
      exact ⟨rfl, T.node.inj this⟩
    | cons x X0 =>
      have := congrArg List.length h
      unfold partT at this
      simp at this
      omega
  · rintro ⟨rfl, rfl⟩
    rfl
/-! ### how large it gets -/
theorem partsL_pad (s : List T) (n : Nat) : T.partsL (pad s n) ≤ T.partsL s + n := by
  unfold pad
  rw [T.partsL_append]
  have : ∀ m : Nat, T.partsL (List.replicate m leaf) = m := fun m => by
    induction m with
    | zero => rfl
    | succ m ih => rw [List.replicate_succ, T.partsL_cons, ih]; show T.parts (.node []) + m = _; rw [T.parts_node, T.partsL_nil]; omega
  rw [this]
  omega
theorem pad_ats {s : List T} {n k : Nat} : ats (pad s n) k = ats s k := by
  unfold pad ats
  by_cases h : k < s.length
  · rw [List.getElem?_append_left h]
  · rw [List.getElem?_append_right (by omega), List.getElem?_eq_none (l := s) (by omega), List.getElem?_replicate]
    split <;> rfl
theorem drop_parts (s : List T) (k : Nat) : T.partsL (s.drop k) ≤ T.partsL s := by
  have e := congrArg T.partsL (List.take_append_drop k s)
  rw [T.partsL_append] at e
  omega
theorem parts_eq (t : T) : t.parts = 1 + T.partsL t.kids := by cases t; rw [T.parts_node]; rfl
theorem load_parts (t : T) : (loadT t).parts ≤ t.parts := by
  unfold loadT
  rw [T.parts_node, parts_eq t]
  have := drop_parts t.kids 1
  omega
theorem first_load (t : T) : (ats t.kids 0).parts + (loadT t).parts ≤ t.parts + 1 := by
  unfold loadT
  rw [T.parts_node, parts_eq t]
  cases t.kids with
  | nil => show T.parts (.node []) + _ ≤ _; rw [T.parts_node, T.partsL_nil]; simp [T.partsL_nil]
  | cons u us => show u.parts + (1 + T.partsL us) ≤ _; rw [T.partsL_cons]; omega
theorem split1 {s : List T} (h : 1 ≤ s.length) : T.partsL s = (ats s 0).parts + T.partsL (s.drop 1) := by
  cases s with
  | nil => simp at h
  | cons t r => rw [T.partsL_cons]; rfl
theorem split2 {s : List T} (h : 2 ≤ s.length) : T.partsL s = (ats s 0).parts + ((ats s 1).parts + T.partsL (s.drop 2)) := by
  match s, h with
  | t :: u :: r, _ => rw [T.partsL_cons, T.partsL_cons]; rfl
theorem split3 {s : List T} (h : 3 ≤ s.length) : T.partsL s = (ats s 0).parts + ((ats s 1).parts + ((ats s 2).parts + T.partsL (s.drop 3))) := by
  match s, h with
  | t :: u :: v :: r, _ => rw [T.partsL_cons, T.partsL_cons, T.partsL_cons]; rfl
theorem work_parts {k : Nat} {l : T} {s : List T} (h : looks k ≤ s.length) : T.partsL (workT k l s) ≤ T.partsL s + 1 + (if k = 0 then l.parts else if k = 2 then (ats s 0).parts else 0) := by
  by_cases h0 : k = 0
  · subst h0; show T.partsL (l :: s) ≤ _ + l.parts; rw [T.partsL_cons]; omega
  by_cases h1 : k = 1
  · subst h1; show T.partsL (s.drop 1) ≤ _; have := drop_parts s 1; omega
  by_cases h2 : k = 2
  · subst h2; show T.partsL (ats s 0 :: s) ≤ _ + (ats s 0).parts; rw [T.partsL_cons]; omega
  by_cases h3 : k = 3
  · subst h3; have := split2 (s := s) h; show T.partsL (ats s 1 :: ats s 0 :: s.drop 2) ≤ _ + 0; rw [T.partsL_cons, T.partsL_cons]; omega
  by_cases h4 : k = 4
  · subst h4; have := split2 (s := s) h; show T.partsL (.node (ats s 0 :: (ats s 1).kids) :: s.drop 2) ≤ _ + 0; rw [T.partsL_cons, T.parts_node, T.partsL_cons]; have := parts_eq (ats s 1); omega
  by_cases h5 : k = 5
  · subst h5; have := split1 (s := s) h; show T.partsL (ats (ats s 0).kids 0 :: loadT (ats s 0) :: s.drop 1) ≤ _ + 0; rw [T.partsL_cons, T.partsL_cons]; have := first_load (ats s 0); omega
  by_cases h6 : k = 6
  · subst h6; have := split3 (s := s) h; show T.partsL (ats s 2 :: ats s 0 :: ats s 1 :: s.drop 3) ≤ _ + 0; rw [T.partsL_cons, T.partsL_cons, T.partsL_cons]; omega
  · rw [work_ge (by omega)]; omega
/-- bounds behind n steps -/
structure Bd (n : Nat) (tx s : List T) : Prop where
  each : ∀ t ∈ tx, B 30 40000 t
  len : tx.length ≤ 10 + n
  sd : (T.node s).deep ≤ 40 + 2 * n
  sp : T.partsL s ≤ 2000 + n * 40010
theorem Bd.row {n : Nat} {tx s : List T} (h : Bd n tx s) : B 31 (1 + (10 + n) * 40000) (.node tx) := B_row h.each h.len
theorem Bd.bigX {n : Nat} {tx s : List T} (h : Bd n tx s) (hn : n ≤ 99) : BX tx := .of h.row (by omega) (by omega)
theorem Bd.bigS {n : Nat} {tx s : List T} (h : Bd n tx s) (hn : n ≤ 99) : B 390 8000000 (.node s) := ⟨by have := h.sd; omega, by rw [T.parts_node]; have := h.sp; omega⟩
theorem ats_pos {tx : List T} {w : T} {ws : List T} (h : (ats tx 0).kids = w :: ws) : ats tx 0 ∈ tx := by
  cases tx with
  | nil => cases h
  | cons t r => exact List.mem_cons_self
theorem Bd.step {n : Nat} {tx s : List T} (h : Bd n tx s) : Bd (n + costT tx s) (onward tx s).1 (onward tx s).2.1 := by
  have hc := cost_pos tx s
  have hsd : (T.node (onward tx s).2.1).deep ≤ 40 + 2 * (n + costT tx s) := by
    have hb : B (40 + 2 * n) (1 + (10 + n) * 40000 + (1 + T.partsL s)) (.node tx) := h.row.le (by omega) (by omega)
    have hs : B (40 + 2 * n) (1 + (10 + n) * 40000 + (1 + T.partsL s)) (.node s) := ⟨h.sd, by rw [T.parts_node]; omega⟩
    have := (B_onward (by omega) hb hs).2.1
    omega
  have hmul : (n + costT tx s) * 40010 = n * 40010 + costT tx s * 40010 := Nat.add_mul _ _ _
  have hsp := h.sp
  have hl := h.len
  have hd1 : ∀ t ∈ tx.drop 1, B 30 40000 t := fun t ht => h.each t (List.mem_of_mem_drop ht)
  have hdl : (tx.drop 1).length ≤ tx.length - 1 := by rw [List.length_drop]; omega
  have hp1 := partsL_pad s 1
  have hst : stepT tx s = (onward tx s).2.2 := rfl
  rcases on_all (tx := tx) (s := s) with ⟨_, e⟩ | ⟨w, ws, hk, hr⟩
  · rw [e] at hsd ⊢
    exact ⟨hd1, by show (tx.drop 1).length ≤ _; omega, hsd, by show T.partsL s ≤ _; omega⟩
  have hm := ats_pos hk
  have h0 := h.each _ hm
  have htl : 1 ≤ tx.length := List.length_pos_iff.mpr (List.ne_nil_of_mem hm)
  have hw : B 30 40000 w := B_mem (B_kids h0) (by rw [hk]; exact List.mem_cons_self)
  have hws : B 30 40000 (.node ws) := by have := B_drop 1 (B_kids h0); rw [hk] at this; exact this
  rcases hr with e | e | e | ⟨k, g, e⟩
  · rw [e] at hsd ⊢
    refine ⟨fun t ht => ?_, by show (tx.drop 1).length + 1 + 1 ≤ _; omega, hsd, by show T.partsL (pad s 1) ≤ _; omega⟩
    rcases List.mem_cons.mp ht with rfl | ht
    · exact B_ats (B_drop 1 (B_kids hw)) 0
    rcases List.mem_cons.mp ht with rfl | ht
    · exact hws
    · exact hd1 t ht
  · rw [e] at hsd ⊢
    refine ⟨fun t ht => ?_, by show (tx.drop 1).length + 1 + 1 ≤ _; omega, hsd, by show T.partsL (pad s 1) ≤ _; omega⟩
    rcases List.mem_cons.mp ht with rfl | ht
    · exact B_drop 2 (B_kids hw)
    rcases List.mem_cons.mp ht with rfl | ht
    · exact hws
    · exact hd1 t ht
  · rw [e] at hsd ⊢
    refine ⟨fun t ht => ?_, by show tx.length + 1 ≤ _; omega, hsd, by show T.partsL (pad s 1) ≤ _; omega⟩
    rcases List.mem_cons.mp ht with rfl | ht
    · exact B_loadT hw
    · exact h.each t ht
  · have hlk := looks_le k
    have hpk := partsL_pad s (looks k)
    have hwp := work_parts (k := k) (l := loadT w) (s := pad s (looks k)) (pad_len _ _)
    have hlw := load_parts w
    have hw2 := hw.2
    have hck : k = 2 → costT tx s = (ats s 0).parts := fun z => by
      unfold costT
      rw [hst, e]
      exact if_pos z
    rw [pad_ats] at hwp
    rw [e] at hsd ⊢
    refine ⟨fun t ht => ?_, by show (tx.drop 1).length + 1 ≤ _; omega, hsd, ?_⟩
    · rcases List.mem_cons.mp ht with rfl | ht
      · exact hws
      · exact hd1 t ht
    · show T.partsL (workT k (loadT w) (pad s (looks k))) ≤ _
      by_cases k0 : k = 0
      · rw [if_pos k0] at hwp
        omega
      rw [if_neg k0] at hwp
      by_cases k2 : k = 2
      · rw [if_pos k2] at hwp
        have := hck k2
        omega
      · rw [if_neg k2] at hwp
        omega
theorem cost_same {tx ty s : List T} (h : stepT tx s = stepT ty s) : costT tx s = costT ty s := by unfold costT; rw [h]
end Sw

/-! ## zip of two tuples; a comprehension with two names -/
namespace PySem
section
variable {prog : Program} {w : World} {A : Around} {E : Value → Shared → Prop} {s : Shared}
theorem nx_tup {m t : Addr} {i : Nat} {its : Array Value} {x : Value} {Q : Value → Shared → Prop} (hm : s.heap.IsTupleIter m t i) (ht : s.heap.IsTuple t its) (hx : its[i]? = some x)
    (q : ∀ g, g.IsTupleIter m t (i + 1) → Heap.SameBut m s.heap g → Q x { s with heap := g }) : wpAny (model prog w) A (Builtin.SmallTypes.nextOf (.ref m)) Q E s := by
  obtain ⟨om, e1, e2, e3⟩ := id hm
  obtain ⟨ot, f1, _, nt, f3⟩ := ht
  unfold Builtin.SmallTypes.nextOf; refine wpAny_bind (wpAny_callSpecial?_slot (name := Str.ofString "__next__") hm.typeIs F.slot_tuple_iterator_next (wpAny_call_entry F.slot_tuple_iterator_next hm.typeIs F.entry_tuple_iterator_next ?_ (F.args_tuple_iterator_next_1 _)))
  show wpAny _ _ (field (.ref m) 0 >>= _) _ _ s
  refine wpAny_bind (wpAny_field e1 e3 (x := .ref t) rfl ?_); show wpAny _ _ (if (Value.ref t == Value.none) = true then _ else _) _ _ s
  rw [if_neg (fun z : (Value.ref t == Value.none) = true => Bool.false_ne_true z)]; show wpAny _ _ (field (.ref m) 1 >>= _) _ _ s
  refine wpAny_bind (wpAny_field e1 e3 (x := .int i 0) rfl ?_); show wpAny _ _ (seqItems? (.ref t) >>= _) _ _ s
  refine wpAny_bind (wpAny_seqItems f1 f3 ?_); simp only [Int.toNat_natCast, hx]
  refine wpAny_bind (wpAny_setField e1 e3 (by simp) (wpAny_pure ⟨x, rfl, wpAny_pure (q _ ?_ (Heap.SameBut.update ..))⟩))
  refine ⟨_, Heap.get?_update_self _ e1 (Obj.isFreed_of_fields (Obj.data_mapFields e3 _)), (Obj.cls_mapFields ..).trans e2, ?_⟩
  rw [Obj.data_mapFields e3]; simp [rawInt]
theorem nx_tup_end {m t : Addr} {i : Nat} {its : Array Value} {Q : Value → Shared → Prop} (hh : A.handled = none) (hm : s.heap.IsTupleIter m t i) (ht : s.heap.IsTuple t its) (hx : its[i]? = none)
    (q : ∀ g e, Heap.ExtBut m s.heap g → (∃ o, g.get? e = some o ∧ o.cls = .type "StopIteration") → E (.ref e) { s with heap := g }) : wpAny (model prog w) A (Builtin.SmallTypes.nextOf (.ref m)) Q E s := by
  obtain ⟨om, e1, e2, e3⟩ := id hm
  obtain ⟨ot, f1, _, nt, f3⟩ := ht
  unfold Builtin.SmallTypes.nextOf; refine wpAny_bind (wpAny_callSpecial?_slot (name := Str.ofString "__next__") hm.typeIs F.slot_tuple_iterator_next (wpAny_call_entry F.slot_tuple_iterator_next hm.typeIs F.entry_tuple_iterator_next ?_ (F.args_tuple_iterator_next_1 _)))
  show wpAny _ _ (field (.ref m) 0 >>= _) _ _ s
  refine wpAny_bind (wpAny_field e1 e3 (x := .ref t) rfl ?_); show wpAny _ _ (if (Value.ref t == Value.none) = true then _ else _) _ _ s
  rw [if_neg (fun z : (Value.ref t == Value.none) = true => Bool.false_ne_true z)]; show wpAny _ _ (field (.ref m) 1 >>= _) _ _ s
  refine wpAny_bind (wpAny_field e1 e3 (x := .int i 0) rfl ?_); show wpAny _ _ (seqItems? (.ref t) >>= _) _ _ s
  refine wpAny_bind (wpAny_seqItems f1 f3 ?_); simp only [Int.toNat_natCast, hx]
  refine wpAny_bind (wpAny_rule (wpAny_bind (wpAny_setField e1 e3 (by simp) ?_))); show wpAny _ _ (newExc (.type "StopIteration") [] >>= _) _ _ _
  refine wpAny_bind ?_; simp only [newExc, newTuple]; refine wpAny_bind (wpAny_newObj_type ?_ (by size_fits))
  refine wpAny_bind (m := firstArgMember _ _) (wpAny_of_eq (a := Value.none) (by first | rfl | (simp only [firstArgMember]; rfl)) ?_); refine wpAny_newObj_type ?_ (by size_fits)
  simp only [raiseNew]; refine wpAny_bind (wpAny_handled ?_); first | rw [show A.in1.handled = none from hh] | rw [hh]
  refine wpAny_bind (wpAny_pure (wpAny_throw ?_))
  exact q _ _ (((Heap.SameBut.update ..).extBut.push _).push _) ⟨_, Heap.get?_push_size _ rfl, rfl⟩
/-- a turn of zip over two tuples -/
theorem zt_item {z I O i1 i2 l1 l2 : Addr} {k1 k2 : Nat} {xs ys : Array Value} {x y a b : Value} {Q : Value → Shared → Prop} (D : ZipApart z I O i1 i2 l1 l2)
    (hz : IsZip s.heap z I O .none) (hI : IsPair s.heap I (.ref i1) (.ref i2)) (hO : IsPair s.heap O a b) (m1 : s.heap.IsTupleIter i1 l1 k1) (m2 : s.heap.IsTupleIter i2 l2 k2)
    (t1 : s.heap.IsTuple l1 xs) (t2 : s.heap.IsTuple l2 ys) (hx : xs[k1]? = some x) (hy : ys[k2]? = some y)
    (q : ∀ g, IsZip g z I O (rawInt s.heap.objs.size) → IsPair g O x y → g.IsTupleIter i1 l1 (k1 + 1) → g.IsTupleIter i2 l2 (k2 + 1) → IsPair g s.heap.objs.size x y → g.objs.size = s.heap.objs.size + 1 →
      (∀ c o, c ≠ z → c ≠ O → c ≠ i1 → c ≠ i2 → s.heap.get? c = some o → g.get? c = some o) → Q (.ref s.heap.objs.size) { s with heap := g }) :
    wpAny (model prog w) A (Builtin.«zip.__next__» ⟨[.ref z], []⟩) (fun fin u => ∃ v, fin = .done (.ret v) ∧ Q v u) E s := by
  show wpAny _ _ (field (.ref z) 2 >>= _) _ _ _; refine wpAny_bind (wpAny_field hz rfl (x := .bool false) rfl ?_)
  show wpAny _ _ (field (.ref z) 3 >>= _) _ _ _; refine wpAny_bind (wpAny_field hz rfl (x := .ref I) rfl ?_)
  refine wpAny_bind (wpAny_seqItems hI rfl ?_); show wpAny _ _ (Builtin.SmallTypes.ownedTupleIsFree (.ref z) >>= _) _ _ _
  refine wpAny_bind ?_; unfold Builtin.SmallTypes.ownedTupleIsFree; refine wpAny_bind (wpAny_field hz rfl (x := .none) rfl (wpAny_pure ?_))
  simp only [if_true]; refine wpAny_bind (wpAny_rule ?_); refine wpAny_bind (wpAny_field hz rfl (x := .ref O) rfl ?_)
  refine wpAny_bind (wpAny_setField_rec hz (by simp) fun g1 z1 b1 => ?_)
  replace z1 : IsZip g1 z I O .ellipsis := z1
  refine wpAny_bind ?_; simp only [List.zipIdx_cons, List.zipIdx_nil, List.forIn_cons, List.forIn_nil]
  refine wpAny_bind (wpAny_bind (wpAny_onRaise ?_)); show wpAny _ _ (Builtin.SmallTypes.nextOf (.ref i1) >>= _) _ _ _
  refine wpAny_bind (nx_tup (m1.extBut b1.extBut D.i1z) (t1.extBut b1.extBut D.l1z) hx fun g2 m12 b2 => wpAny_pure ?_)
  have O2 : IsPair g2 O a b := b2.extBut _ _ D.TOi1 (b1.extBut _ _ D.TOz hO)
  refine wpAny_bind (wpAny_seqItems O2 rfl ?_); refine wpAny_bind (wpAny_updateSeq_pair O2 fun g3 O3 b3 => ?_)
  replace O3 : IsPair g3 O x b := O3
  refine wpAny_bind (wpAny_letGo (wpAny_pure ?_)); refine wpAny_bind (wpAny_bind (wpAny_onRaise ?_)); show wpAny _ _ (Builtin.SmallTypes.nextOf (.ref i2) >>= _) _ _ _
  refine wpAny_bind (nx_tup (((m2.extBut b1.extBut D.i2z).extBut b2.extBut D.i12.symm).extBut b3.extBut D.TOi2.symm) (((t2.extBut b1.extBut D.l2z).extBut b2.extBut D.l2i1).extBut b3.extBut D.l2TO) hy fun g4 m24 b4 => wpAny_pure ?_)
  have O4 : IsPair g4 O x b := b4.extBut _ _ D.TOi2 O3
  refine wpAny_bind (wpAny_seqItems O4 rfl ?_); refine wpAny_bind (wpAny_updateSeq_pair O4 fun g5 O5 b5 => ?_)
  replace O5 : IsPair g5 O x y := O5
  refine wpAny_bind (wpAny_letGo (wpAny_pure (wpAny_pure ?_))); refine wpAny_bind (wpAny_seqItems O5 rfl ?_); refine wpAny_bind (wpAny_newTuple ?_)
  have sz : g5.objs.size = s.heap.objs.size := by rw [b5.1, b4.1, b3.1, b2.1, b1.1]
  have z5 : IsZip g5 z I O .ellipsis := b5.extBut _ _ D.TOz.symm (b4.extBut _ _ D.i2z.symm (b3.extBut _ _ D.TOz.symm (b2.extBut _ _ D.i1z.symm z1)))
  have k5 : ∀ c o, c ≠ z → c ≠ O → c ≠ i1 → c ≠ i2 → s.heap.get? c = some o → g5.get? c = some o := fun c o c1 c2 c3 c4 e => b5.extBut _ _ c2 (b4.extBut _ _ c4 (b3.extBut _ _ c2 (b2.extBut _ _ c3 (b1.extBut _ _ c1 e))))
  have m15 : g5.IsTupleIter i1 l1 (k1 + 1) := ((m12.extBut b3.extBut D.TOi1.symm).extBut b4.extBut D.i12).extBut b5.extBut D.TOi1.symm
  have m25 : g5.IsTupleIter i2 l2 (k2 + 1) := m24.extBut b5.extBut D.TOi2.symm
  have zlt : z < g5.objs.size := Heap.lt_size z5
  show wpAny _ _ (Builtin.SmallTypes.ownedTupleHandOut (.ref z) (.ref g5.objs.size) >>= _) _ _ _
  refine wpAny_bind ?_; unfold Builtin.SmallTypes.ownedTupleHandOut
  have z6 : IsZip (g5.push { cls := .type "tuple", data := .seq #[x, y] }) z I O .ellipsis := Heap.get?_push_of_some _ z5
  refine wpAny_bind (wpAny_setField_rec z6 (by simp) fun g7 z7 b7 => ?_)
  replace z7 : IsZip g7 z I O (rawInt g5.objs.size) := z7
  refine wpAny_setField_rec z7 (by simp) fun g8 z8 b8 => ?_
  replace z8 : IsZip g8 z I O (rawInt g5.objs.size) := z8
  have up : ∀ c o, c ≠ z → g5.get? c = some o → g8.get? c = some o := fun c o c1 e => b8.extBut _ _ c1 (b7.extBut _ _ c1 (Heap.get?_push_of_some _ e))
  have T8 : IsPair g8 g5.objs.size x y := b8.extBut _ _ (Nat.ne_of_gt zlt) (b7.extBut _ _ (Nat.ne_of_gt zlt) (Heap.get?_push_size _ rfl))
  have s8 : g8.objs.size = g5.objs.size + 1 := by rw [b8.1, b7.1, Heap.size_push]
  rw [sz] at z8 T8 s8; refine wpAny_pure ⟨_, rfl, ?_⟩; show Q (.ref g5.objs.size) _
  rw [sz]; exact q g8 z8 (up _ _ D.TOz O5) (by obtain ⟨o, e, r⟩ := m15; exact ⟨o, up _ o D.i1z e, r⟩) (by obtain ⟨o, e, r⟩ := m25; exact ⟨o, up _ o D.i2z e, r⟩) T8 s8 fun c o c1 c2 c3 c4 e => up c o c1 (k5 c o c1 c2 c3 c4 e)
theorem zt_end {z I O i1 i2 l1 l2 : Addr} {k1 : Nat} {xs : Array Value} {Q : Fin → Shared → Prop} (hh : A.handled = none) (D : ZipApart z I O i1 i2 l1 l2)
    (hz : IsZip s.heap z I O .none) (hI : IsPair s.heap I (.ref i1) (.ref i2)) (m1 : s.heap.IsTupleIter i1 l1 k1) (t1 : s.heap.IsTuple l1 xs) (hx : xs[k1]? = none)
    (q : ∀ g e, (∀ c o, c ≠ z → c ≠ O → c ≠ i1 → c ≠ i2 → s.heap.get? c = some o → g.get? c = some o) → (∃ o, g.get? e = some o ∧ o.cls = .type "StopIteration") → E (.ref e) { s with heap := g }) :
    wpAny (model prog w) A (Builtin.«zip.__next__» ⟨[.ref z], []⟩) Q E s := by
  show wpAny _ _ (field (.ref z) 2 >>= _) _ _ _; refine wpAny_bind (wpAny_field hz rfl (x := .bool false) rfl ?_)
  show wpAny _ _ (field (.ref z) 3 >>= _) _ _ _; refine wpAny_bind (wpAny_field hz rfl (x := .ref I) rfl ?_)
  refine wpAny_bind (wpAny_seqItems hI rfl ?_); show wpAny _ _ (Builtin.SmallTypes.ownedTupleIsFree (.ref z) >>= _) _ _ _
  refine wpAny_bind ?_; unfold Builtin.SmallTypes.ownedTupleIsFree; refine wpAny_bind (wpAny_field hz rfl (x := .none) rfl (wpAny_pure ?_))
  simp only [if_true]; refine wpAny_bind (wpAny_rule ?_); refine wpAny_bind (wpAny_field hz rfl (x := .ref O) rfl ?_)
  refine wpAny_bind (wpAny_setField_rec hz (by simp) fun g1 z1 b1 => ?_)
  replace z1 : IsZip g1 z I O .ellipsis := z1
  refine wpAny_bind ?_; simp only [List.zipIdx_cons, List.zipIdx_nil, List.forIn_cons, List.forIn_nil]
  refine wpAny_bind (wpAny_bind (wpAny_onRaise ?_)); show wpAny _ _ (Builtin.SmallTypes.nextOf (.ref i1) >>= _) _ _ _
  refine wpAny_bind (nx_tup_end hh (m1.extBut b1.extBut D.i1z) (t1.extBut b1.extBut D.l1z) hx fun g2 e b2 he => ?_)
  obtain ⟨oe, h1, h2⟩ := he
  have z2 : IsZip g2 z I O .ellipsis := b2 _ _ D.i1z.symm z1
  have ez : e ≠ z := fun x => by subst x; rw [z2] at h1; cases h1; simp at h2
  refine wpAny_setField_rec z2 (by simp) fun g3 _ b3 => q g3 e (fun c o c1 _ c3 _ x => b3.extBut _ _ c1 (b2 _ _ c3 (b1.extBut _ _ c1 x))) ⟨oe, b3.extBut _ _ ez h1, h2⟩
abbrev zt1 (h : Heap) (l1 : Addr) : Heap := h.push { cls := .type "tuple_iterator", data := .fields #[.ref l1, .int 0 0] }
abbrev zt2 (h : Heap) (l1 l2 : Addr) : Heap := (zt1 h l1).push { cls := .type "tuple_iterator", data := .fields #[.ref l2, .int 0 0] }
abbrev zt3 (h : Heap) (l1 l2 : Addr) : Heap := (zt2 h l1 l2).push { cls := .type "tuple", data := .seq #[.ref h.objs.size, .ref (zt1 h l1).objs.size] }
abbrev zt4 (h : Heap) (l1 l2 : Addr) : Heap := (zt3 h l1 l2).push { cls := .type "tuple", data := .seq #[.none, .none] }
abbrev zt5 (h : Heap) (l1 l2 : Addr) : Heap := (zt4 h l1 l2).push { cls := .type "zip", data := .fields #[.none, .bool false, .bool false, .ref (zt2 h l1 l2).objs.size, .ref (zt3 h l1 l2).objs.size] }
theorem zt_new (l1 l2 : Addr) (xs ys : Array Value) :
    Meets (Builtin.«zip.__new__» ⟨[.type "zip", .ref l1, .ref l2], []⟩) (fun _ R u => u.heap.IsTuple l1 xs ∧ u.heap.IsTuple l2 ys ∧ R (.ok (.ret (.ref (zt4 u.heap l1 l2).objs.size))) { u with heap := zt5 u.heap l1 l2 }) :=
  .of_wp fun prog w A R u h => by
    obtain ⟨hp, g, d, tk, os⟩ := u; obtain ⟨h1, h2, h⟩ := h
    have hsub := sub_zip
    have T1 : Heap.IsTuple (Shared.heap ⟨hp, g, d, tk, os⟩) l1 xs := h1
    have T2 : Heap.IsTuple (Shared.heap ⟨hp.push { cls := .type "tuple_iterator", data := .fields #[.ref l1, .int 0 0] }, g, d, tk, os⟩) l2 ys := Heap.IsTuple.push h2 _
    wp_walk using wpAny_pyIter_tuple T1, wpAny_pyIter_tuple T2
    exact ⟨_, rfl, h⟩
theorem call_zt {l1 l2 : Addr} {xs ys : Array Value} {Q : Value → Shared → Prop} (h1 : s.heap.IsTuple l1 xs) (h2 : s.heap.IsTuple l2 ys)
    (q : ∀ g, IsZip g (s.heap.objs.size + 4) (s.heap.objs.size + 2) (s.heap.objs.size + 3) .none → IsPair g (s.heap.objs.size + 2) (.ref s.heap.objs.size) (.ref (s.heap.objs.size + 1)) →
      IsPair g (s.heap.objs.size + 3) .none .none → g.IsTupleIter s.heap.objs.size l1 0 → g.IsTupleIter (s.heap.objs.size + 1) l2 0 → g.objs.size = s.heap.objs.size + 5 →
      (∀ c o, s.heap.get? c = some o → g.get? c = some o) → Q (.ref (s.heap.objs.size + 4)) { s with heap := g }) : wpAny (model prog w) A (call (.type "zip") [.ref l1, .ref l2]) Q E s := by
  refine callType_new F.called_zip (by decide) (F.typeCall_zip_2 _ _) (F.newCall_zip_2 _ _) (fun obj => F.args_object_init_3 obj _ _) F.entry_zip_new (zt_new l1 l2 xs ys) ⟨h1, h2, ?_⟩
  have z1 : (zt1 s.heap l1).objs.size = s.heap.objs.size + 1 := Heap.size_push ..
  have z2 : (zt2 s.heap l1 l2).objs.size = s.heap.objs.size + 2 := by rw [Heap.size_push, z1]
  have z3 : (zt3 s.heap l1 l2).objs.size = s.heap.objs.size + 3 := by rw [Heap.size_push, z2]
  have z4 : (zt4 s.heap l1 l2).objs.size = s.heap.objs.size + 4 := by rw [Heap.size_push, z3]
  have z5 : (zt5 s.heap l1 l2).objs.size = s.heap.objs.size + 5 := by rw [Heap.size_push, z4]
  have w5 : (zt5 s.heap l1 l2).get? (zt4 s.heap l1 l2).objs.size = some _ := Heap.get?_push_size _ rfl
  have w4 : (zt5 s.heap l1 l2).get? (zt3 s.heap l1 l2).objs.size = some _ := Heap.get?_push_of_some _ (Heap.get?_push_size _ rfl)
  have w3 : (zt5 s.heap l1 l2).get? (zt2 s.heap l1 l2).objs.size = some _ := Heap.get?_push_of_some _ (Heap.get?_push_of_some _ (Heap.get?_push_size _ rfl))
  have w2 : (zt5 s.heap l1 l2).get? (zt1 s.heap l1).objs.size = some _ := Heap.get?_push_of_some _ (Heap.get?_push_of_some _ (Heap.get?_push_of_some _ (Heap.get?_push_size _ rfl)))
  have w1 : (zt5 s.heap l1 l2).get? s.heap.objs.size = some _ := Heap.get?_push_of_some _ (Heap.get?_push_of_some _ (Heap.get?_push_of_some _ (Heap.get?_push_of_some _ (Heap.get?_push_size _ rfl))))
  show _ ∧ _
  rw [z2, z3, z4] at w5; rw [z1, z2] at w3; rw [z3] at w4; rw [z1] at w2; rw [z4]
  exact ⟨⟨_, w5, rfl⟩, q _ w5 w3 w4 ⟨_, w1, rfl, rfl⟩ ⟨_, w2, rfl, rfl⟩ z5 fun c o x => Heap.get?_push_of_some _ (Heap.get?_push_of_some _ (Heap.get?_push_of_some _ (Heap.get?_push_of_some _ (Heap.get?_push_of_some _ x))))⟩
end
end PySem

namespace Sw
open PySem PySem.Spec PyProof.Rows L2
def Itz (K : PySem.W.Frag) (a b : Addr) : It :=
  ⟨fun i H => ∃ xs ys x y, SqT K H a xs ∧ SqT K H b ys ∧ xs[i]? = some x ∧ ys[i]? = some y,
   fun i H v H' => ∃ p x y, v = .ref p ∧ H p = none ∧ H' = upd H p (.tup [x, y]) ∧ (∀ xs, SqT K H a xs → xs[i]? = some x) ∧ ∀ ys, SqT K H b ys → ys[i]? = some y,
   fun i H => ∃ xs, SqT K H a xs ∧ xs.length ≤ i⟩
theorem four_inv {X : Cx} {pins : List (Addr × Obj)} {σ : Sg} {H : Hp} {s : Shared} {h2 : Heap} {tk : Nat} {fp : List Addr} {xs : List V} (I : Inv X pins σ H s) (hf : ∀ b ∈ fp, FpOk X pins H b)
    (k : ∀ b o, b ∉ fp → s.heap.get? b = some o → h2.get? b = some o) (new : ObjOk X.prog X.w (upd H s.heap.objs.size (.tup xs)) h2 s.heap.objs.size (.tup xs)) :
    Inv X pins σ (upd H s.heap.objs.size (.tup xs)) { s with heap := h2, toks := tk } := by
  have hn : H s.heap.objs.size = none := I.hok.fresh (Nat.le_refl _)
  have nt : ∀ b u, H b = some u → b ≠ s.heap.objs.size := fun b u q => ne_of_none q hn
  have ne : ∀ b u, H b = some u → b ∉ fp := fun b u q z => by rw [(hf b z).1] at q; cases q
  have up : ∀ b u, H b = some u → upd H s.heap.objs.size (.tup xs) b = some u := fun b u q => by rw [upd_ne (nt b u q)]; exact q
  refine I.step (g' := s.gens) (d' := s.drawn) (t' := tk) (ch := fp) (fun b hb => ⟨(hf b hb).2.2.2.1, (hf b hb).2.1, (hf b hb).2.2.2.2.1, (hf b hb).2.2.2.2.2⟩) (fun b o _ _ hb q _ => k b o hb q)
    (fun b o _ _ hb q _ => ⟨o.slots, k b o hb q⟩) (fun b o _ q n => by rw [upd_ne (Nat.ne_of_lt (Heap.lt_size q))]; exact n)
    (fun b o hb q => ⟨o, k b o hb q⟩) (fun b ys q => up _ _ q) (fun b o u q => up _ _ q) (fun b ps q => ⟨#[], by rw [up _ _ q]; simp⟩) (fun m hm => ?_) (fun b u q => ?_) I.bare
  · obtain ⟨o, es, ep, ho, r⟩ := hm
    exact ⟨o, es, ep, k _ o (fun z => (hf _ z).2.1 rfl) ho, r⟩
  · by_cases hb : b = s.heap.objs.size
    · subst hb
      rw [upd_same] at q
      cases q
      exact new
    · rw [upd_ne hb] at q
      refine (I.hok b u q).stay (fun c v hc q' => k c v ?_ q') (fun c q' => up _ _ q') fun c ys q' => up _ _ q'
      rcases hc with z | z
      · rw [z]; exact ne b u q
      · exact ne c _ z
theorem four_turned {X : Cx} {pins : List (Addr × Obj)} {σ : Sg} {H : Hp} {s : Shared} {h2 : Heap} {tk : Nat} {fp : List Addr} (I : Inv X pins σ H s) (hf : ∀ b ∈ fp, FpOk X pins H b)
    (k : ∀ b o, b ∉ fp → s.heap.get? b = some o → h2.get? b = some o) : Inv X pins σ H { s with heap := h2, toks := tk } := by
  have ne : ∀ b u, H b = some u → b ∉ fp := fun b u q z => by rw [(hf b z).1] at q; cases q
  refine I.step (g' := s.gens) (d' := s.drawn) (t' := tk) (ch := fp) (fun b hb => ⟨(hf b hb).2.2.2.1, (hf b hb).2.1, (hf b hb).2.2.2.2.1, (hf b hb).2.2.2.2.2⟩) (fun b o _ _ hb q _ => k b o hb q)
    (fun b o _ _ hb q _ => ⟨o.slots, k b o hb q⟩) (fun _ _ _ _ n => n) (fun b o hb q => ⟨o, k b o hb q⟩) (fun _ _ q => q) (fun _ _ _ q => q) (fun b ps q => ⟨#[], by rw [q]; simp⟩) (fun m hm => ?_) (fun b u q => ?_) I.bare
  · obtain ⟨o, es, ep, ho, r⟩ := hm
    exact ⟨o, es, ep, k _ o (fun z => (hf _ z).2.1 rfl) ho, r⟩
  · refine (I.hok b u q).stay (fun c v hc q' => k c v ?_ q') (fun _ q' => q') fun _ _ q' => q'
    rcases hc with z | z
    · rw [z]; exact ne b u q
    · exact ne c _ z
theorem turn_zip {P : Program} {w : World} {K : PySem.W.Frag} {elts : List Expr} {x1 : Nat} {tp : Pos} (z I O i1 i2 a b : Addr) (D : ZipApart z I O i1 i2 a b) :
    Turn P w K (.Tuple elts x1 tp) (Itz K a b) [z, I, O, i1, i2] z (fun i h => IsZip h z I O .none ∧ IsPair h I (.ref i1) (.ref i2) ∧ (∃ u v, IsPair h O u v) ∧ h.IsTupleIter i1 a i ∧ h.IsTupleIter i2 b i) where
  mem := by simp
  obj := fun i h st c hc => by
    obtain ⟨h1, h2, ⟨u, v, h3⟩, ⟨o4, h4, _, d4⟩, ⟨o5, h5, _, d5⟩⟩ := st
    simp only [List.mem_cons, List.not_mem_nil, or_false] at hc
    rcases hc with e | e | e | e | e
    · rw [e]; exact ⟨_, h1, fun v z => by cases z⟩
    · rw [e]; exact ⟨_, h2, fun v z => by cases z⟩
    · rw [e]; exact ⟨_, h3, fun v z => by cases z⟩
    · rw [e]; exact ⟨_, h4, fun v z => by rw [d4] at z; cases z⟩
    · rw [e]; exact ⟨_, h5, fun v z => by rw [d5] at z; cases z⟩
  keep := fun i h h' st k => by
    obtain ⟨h1, h2, ⟨u, v, h3⟩, ⟨o4, h4, r4⟩, ⟨o5, h5, r5⟩⟩ := st
    exact ⟨k z (by simp) _ h1, k I (by simp) _ h2, ⟨u, v, k O (by simp) _ h3⟩, ⟨o4, k i1 (by simp) _ h4, r4⟩, ⟨o5, k i2 (by simp) _ h5, r5⟩⟩
  item := by
    intro X hP hw hK hc i pins s σ H E Iv hf st hg
    subst hP hw hK
    obtain ⟨h1, h2, ⟨u, v, h3⟩, h4, h5⟩ := st
    obtain ⟨xs, ys, x, y, qa, qb, ex, ey⟩ := hg
    obtain ⟨its, ra, pa, _⟩ := Iv.tuple qa
    obtain ⟨jts, rb, pb, _⟩ := Iv.tuple qb
    obtain ⟨vx, hvx, rx⟩ := ra.get ex
    obtain ⟨vy, hvy, ry⟩ := rb.get ey
    have hT : s.TypeIs (.ref z) "zip" := ⟨_, h1, rfl⟩
    unfold pyNext
    refine wpAny_bind (wpAny_attempt (wpAny_callSpecial?_slot (name := Str.ofString "__next__") hT F.slot_zip_next (wpAny_call_entry F.slot_zip_next hT F.entry_zip_next
      (zt_item D h1 h2 h3 h4 h5 (show s.heap.IsTuple a its.toArray from pa) (show s.heap.IsTuple b jts.toArray from pb) (x := vx) (y := vy) (by simpa using hvx) (by simpa using hvy) fun g a1 a2 a3 a4 a5 a6 a7 => wpAny_pure ⟨_, rfl, ?_⟩) (F.args_zip_next_1 _))))
    refine wpAny_letOwnedTupleGo_zip a1 fun g2 z2 b2 => ?_
    have zlt : z < s.heap.objs.size := Heap.lt_size h1
    have hn : H s.heap.objs.size = none := Iv.hok.fresh (Nat.le_refl _)
    have T2 : g2.get? s.heap.objs.size = some { cls := .type "tuple", data := .seq #[vx, vy] } := (b2.2 _ (Nat.ne_of_gt zlt)).trans a5
    have lt : ∀ c ∈ [z, I, O, i1, i2], c < s.heap.objs.size := fun c hc => by
      simp only [List.mem_cons, List.not_mem_nil, or_false] at hc
      rcases hc with e | e | e | e | e
      · rw [e]; exact zlt
      · rw [e]; exact Heap.lt_size h2
      · rw [e]; exact Heap.lt_size h3
      · rw [e]; obtain ⟨_, q, _⟩ := h4; exact Heap.lt_size q
      · rw [e]; obtain ⟨_, q, _⟩ := h5; exact Heap.lt_size q
    refine ⟨.ref s.heap.objs.size, upd H s.heap.objs.size (.tup [x, y]), four_inv (s := s) (xs := [x, y]) (h2 := g2) (tk := s.toks) Iv hf (fun c o hc q => ?_) ?_, rfl, ⟨_, x, y, rfl, hn, rfl, fun zs hz => by rw [Iv.tuple_inj hz qa]; exact ex, fun zs hz => by rw [Iv.tuple_inj hz qb]; exact ey⟩, ⟨z2, ?_, ⟨_, _, (b2.2 O D.TOz).trans a2⟩, ?_, ?_⟩, fun c hc => ?_⟩
    · simp only [List.mem_cons, List.not_mem_nil, or_false, not_or] at hc
      exact (b2.2 c hc.1).trans (a7 c o hc.1 hc.2.2.1 hc.2.2.2.1 hc.2.2.2.2 q)
    · exact ⟨(by show 2 ≤ sizeLine; decide), [vx, vy], .cons rx (.cons ry .nil), ⟨_, T2, rfl, _, rfl⟩⟩
    · exact (b2.2 I D.TIz).trans (a7 I _ D.TIz D.TITO D.TIi1 D.TIi2 h2)
    · obtain ⟨o, q, r⟩ := a3; exact ⟨o, (b2.2 i1 D.i1z).trans q, r⟩
    · obtain ⟨o, q, r⟩ := a4; exact ⟨o, (b2.2 i2 D.i2z).trans q, r⟩
    · rw [upd_ne (Nat.ne_of_lt (lt c hc))]; exact (hf c hc).1
  done := by
    intro X hP hw hK hc i pins s σ H E Iv hf st hg
    subst hP hw hK
    obtain ⟨h1, h2, ⟨u, v, h3⟩, h4, h5⟩ := st
    obtain ⟨xs, qa, hl⟩ := hg
    obtain ⟨its, ra, pa, _⟩ := Iv.tuple qa
    have hlen := ra.length
    have hT : s.TypeIs (.ref z) "zip" := ⟨_, h1, rfl⟩
    unfold pyNext
    refine wpAny_bind (wpAny_attempt (wpAny_callSpecial?_slot (name := Str.ofString "__next__") hT F.slot_zip_next (wpAny_call_entry F.slot_zip_next hT F.entry_zip_next
      (zt_end (Iv.ok.hd hc) D h1 h2 h4 (show s.heap.IsTuple a its.toArray from pa) (by simp; omega) fun g e hk he => ?_) (F.args_zip_next_1 _))))
    obtain ⟨oe, he1, he2⟩ := he
    refine wpAny_bind (wpAny_isInstance (T := "StopIteration") (b := true) ⟨oe, he1, he2⟩ isSubtype_stop (wpAny_pure ⟨rfl, ?_⟩))
    refine four_turned (tk := s.toks) Iv hf fun c o hc q => ?_
    simp only [List.mem_cons, List.not_mem_nil, or_false, not_or] at hc
    exact hk c o hc.1 hc.2.2.1 hc.2.2.2.1 hc.2.2.2.2 q
  self := fun _ _ _ _ _ st h => wpAny_pyIter_zip st.1 h
theorem bt_zip : bootBuiltins "zip" = some (.type "zip") := by decide +kernel
def iZip (K : PySem.W.Frag) (ta : TA) : TI := fun σ H R => ta σ H fun vs H1 => ∃ a b xs ys, vs = [.ref a, .ref b] ∧ SqT K H1 a xs ∧ SqT K H1 b ys ∧ R (Itz K a b) H1
theorem pi_zip {X : Cx} {elts : List Expr} {x1 : Nat} {tp p pos : Pos} {a b : Expr} {ta : TA} (hg : Gl X "zip") (hm : X.mg "zip" = none) (ha : PA X [a, b] ta)
    (hs : starEach [a, b] X.env = [(false, eval a X.env), (false, eval b X.env)] := by rfl) (hs2 : starEach [b] X.env = [(false, eval b X.env)] := by rfl) :
    PI X (.Tuple elts x1 tp) (.Call (.Name "zip" p) [a, b] [] pos) (iZip X.K ta) := by
  intro pins s σ H R I h
  refine Call_ (ld_blt I hg hm bt_zip (PyProof.Rows.callWith_type1 (thn (ha pos pins s σ H _ I h) fun us s1 ⟨vs, H1, I1, r1, q1⟩ => ?_) (by rw [hs, hs2]) (by rw [hs2]; rfl)))
  obtain ⟨l1, l2, xs, ys, rfl, qa, qb, q⟩ := q1
  cases r1 with
  | cons r rr =>
    cases rr with
    | cons r' rr =>
      cases rr
      cases r
      cases r'
      obtain ⟨its, ra, pa, _⟩ := I1.tuple qa
      obtain ⟨jts, rb, pb, _⟩ := I1.tuple qb
      have lt1 : l1 < s1.heap.objs.size := by obtain ⟨_, e, _⟩ := id pa; exact Heap.lt_size e
      have lt2 : l2 < s1.heap.objs.size := by obtain ⟨_, e, _⟩ := id pb; exact Heap.lt_size e
      refine call_zt (show s1.heap.IsTuple l1 its.toArray from pa) (show s1.heap.IsTuple l2 jts.toArray from pb) fun g z1 z2 z3 z4 z5 z6 z7 => wpAny_pyIter_zip z1 ?_
      have I2 : Inv X pins σ H1 { s1 with heap := g } := I1.kept (t' := s1.toks) z7
      refine ⟨_, _, _, Itz X.K l1 l2, H1, rfl, I2, turn_zip (s1.heap.objs.size + 4) (s1.heap.objs.size + 2) (s1.heap.objs.size + 3) s1.heap.objs.size (s1.heap.objs.size + 1) l1 l2 (zipApart_new lt1 lt2), ⟨z1, z2, ⟨_, _, z3⟩, z4, z5⟩, fun c hc => ?_, q⟩
      have hb' : s1.heap.objs.size ≤ c := by
        simp only [List.mem_cons, List.not_mem_nil, or_false] at hc
        rcases hc with e | e | e | e | e <;> rw [e] <;> omega
      exact I1.fpOk hb' (I1.hok.fresh hb')
section
variable {X : Cx} {pins : List (Addr × Obj)} {σ : Sg} {H : Hp} {s : Shared} {scope : Scope} {cl : List (Str × Addr)} {x y : Str} {fr : List Str} {js : List Nat} {fp : List Addr}
theorem blk_inv2 {h1 : Heap} {m1 : Str → Option Value} {tk : Nat} (I : Inv X pins σ H s) (L : LcOk X scope x fr js cl) (hc : X.calm = true) (hfp : ∀ b ∈ fp, FpOk X pins H b) (hsz : ∀ b ∈ fp, b < s.heap.objs.size)
    (hy : scope.names.lookup y = some .local) (hn : h1.Ns s.heap.objs.size m1) (hk : ∀ b o, s.heap.get? b = some o → h1.get? b = some o) :
    Inv (blk X scope cl s.heap.objs.size (x :: y :: fr) s H fp pins) [] (none :: none :: frv σ js) H { s with heap := h1, toks := tk } := by
  refine ⟨blk_ok I L hc hfp hsz, rfl, I.bare, Un.kept hk, ⟨m1, hn, fun i yy v e1 e2 _ => ?_⟩, fun y c e => ?_, I.hok.fresh (Nat.le_refl _), fun y c e => I.freeC y c (L.sub y c e), fun p hp => ?_, I.hok.kept hk, ?_⟩
  · cases i with
    | zero => exact absurd e2 (by simp)
    | succ i =>
    cases i with
    | zero => exact absurd e2 (by simp)
    | succ i =>
      have e1' : fr[i]? = some yy := by simpa [blk] using e1
      obtain ⟨j, hj, hN, hcell, hrel⟩ := L.frk.get e1'
      have e2' : σ[j]? = some (some v) := by
        have q : (frv σ js)[i]? = some (some v) := by simpa using e2
        unfold frv at q
        rw [List.getElem?_map, hj] at q
        have q' : (σ[j]?).getD none = some v := by simpa using q
        cases hs : σ[j]? with
        | none => rw [hs] at q'; cases q'
        | some o => rw [hs] at q'; exact congrArg some q'
      obtain ⟨m, _, hl⟩ := I.loc
      obtain ⟨u, r, lk⟩ := hl j yy v hN e2' (.inr (.inl hcell))
      refine ⟨u, r, .inr ⟨.inl hrel, ?_⟩⟩
      rcases lk with ⟨hloc, _⟩ | ⟨_, c, hc1, hc2⟩
      · have : X.env.scope.names.lookup yy = some .local := hloc
        rw [hcell] at this; cases this
      · obtain ⟨c', hc'⟩ := L.has yy (.inl hrel)
        have e3 := L.sub yy c' hc'
        rw [hc1] at e3; cases e3
        exact ⟨c, hc', hc2.keeps hk⟩
  · obtain ⟨v, hv⟩ := I.cell y c (L.sub y c e)
    exact ⟨v, hv.keeps hk⟩
  · have hp' : p ∈ X.pn ++ pins := by simpa [blk] using hp
    obtain ⟨a1, a2, a3, a4, a5⟩ := I.pin p hp'
    refine ⟨hk _ _ a1, a2, Nat.ne_of_lt (Heap.lt_size a1), fun z => ?_, a5⟩
    rcases List.mem_cons.mp (I.stkSub _ z) with e | e
    · exact a3 e
    · exact a4 e
  · show (none :: none :: frv σ js).length = (x :: y :: fr).length
    simp [frv, L.frk.len]

end
/-- the same, with two names -/
def LcRun2 (K : PySem.W.Frag) (J : It) (js : List Nat) (te : TE) (σ : Sg) (Q : VK) (H1 : Hp) : Prop := ∀ D, H1 D = none →
  ∃ W : Nat → Nat → List V → Hp → Prop, (∃ m, W 0 m [] (upd H1 D (.lst []))) ∧ ∀ i m ys H', W i m ys H' → H' D = some (.lst ys) ∧
    ((J.stop i H' ∧ Q (.ref D) H') ∨ (J.go i H' ∧ ∀ v H2, J.yld i H' v H2 → ∃ a x y, v = .ref a ∧ SqT K H2 a [x, y] ∧ te (some x :: some y :: frv σ js) H2 fun z H3 => H3 D = some (.lst ys) ∧ ys.length < sizeLine ∧
      ∃ m', m' < m ∧ W (i + 1) m' (ys ++ [z]) (upd H3 D (.lst (ys ++ [z])))))
def tLC2 (K : PySem.W.Frag) (wi : TI) (js : List Nat) (te : TE) : TE := fun σ H Q => wi σ H fun J H1 => LcRun2 K J js te σ Q H1
section
variable {X : Cx} {scope : Scope} {cl : List (Str × Addr)} {x y : Str} {fr : List Str} {js : List Nat} {elt iter : Expr} {px py pt pos : Pos} {kt : Nat} {wi : TI} {te : TE}
theorem pe_lc2 (hc : X.calm = true) (L : LcOk X scope x fr js cl) (hy : scope.names.lookup y = some .local) (nd2 : (x :: y :: fr).Nodup) (hi : PI X (.Tuple [.Name x px, .Name y py] kt pt) iter wi)
    (he : ∀ C s H fp pins, PE (blk X scope cl C (x :: y :: fr) s H fp pins) elt te)
    (hs : ∀ v, foldedSetIterable iter X.env v = pure v := by intro _; rfl) :
    PE X (.ListComp elt [⟨.Tuple [.Name x px, .Name y py] kt pt, iter, [], 0⟩] scope pos) (tLC2 X.K wi js te) := by
  intro pins s σ H Q I h
  rw [eval_ListComp]
  refine wpAny_comprehension_free (use := none) rfl hs L.clos L.kind L.loc (thn (hi pins s σ H _ I h) fun v s1 h1 => thn h1 fun itv s2 h2 => ?_)
  obtain ⟨it, fp, tn, J, H2, e, I2, T, st2, f2, rd⟩ := h2
  subst e
  obtain ⟨W, ⟨m0, w0⟩, turn⟩ := rd _ I2.fresh
  have I3 := I2.lnew (ys := []) (its := []) (t' := s2.toks) .nil (Nat.zero_le _)
  refine wpAny_newObj_type ?_
  have fsz2 : ∀ b ∈ fp, b < s2.heap.objs.size := fun b hb => by
    obtain ⟨o, ho, _⟩ := T.obj 0 _ st2 b hb
    exact Heap.lt_size ho
  generalize hs3 : ({ s2 with heap := s2.heap.push { cls := .type "list", dict := none, data := .seq ([] : List Value).toArray } } : Shared) = s3
  have I3' : Inv X pins σ (upd H2 s2.heap.objs.size (.lst [])) s3 := by rw [← hs3]; exact I3
  have sz3 : s3.heap.objs.size = s2.heap.objs.size + 1 := by rw [← hs3]; exact Heap.size_push ..
  have k23 : ∀ b o, s2.heap.get? b = some o → s3.heap.get? b = some o := fun b o e => by rw [← hs3]; exact Heap.get?_push_of_some _ e
  have fsz : ∀ b ∈ fp, b < s3.heap.objs.size := fun b hb => by rw [sz3]; exact Nat.lt_succ_of_lt (fsz2 b hb)
  have f3 : ∀ b ∈ fp, FpOk X pins (upd H2 s2.heap.objs.size (.lst [])) b := fun b hb => ⟨by rw [upd_ne (Nat.ne_of_lt (fsz2 b hb))]; exact (f2 b hb).1, (f2 b hb).2⟩
  refine wpAny_newFunctionEnv L.cell (by intro y' hy'; simp at hy') (fun h4 hn4 hsb4 => ?_) L.kind
  have k34 : ∀ b o, s3.heap.get? b = some o → h4.get? b = some o := fun b o e => (hsb4.2 b (Nat.ne_of_lt (Heap.lt_size e))).trans (Heap.get?_push_of_some _ e)
  generalize hX' : blk X scope cl s3.heap.objs.size (x :: y :: fr) s3 (upd H2 s2.heap.objs.size (.lst [])) fp pins = X'
  have I4 : Inv X' [] (none :: none :: frv σ js) (upd H2 s2.heap.objs.size (.lst [])) { s3 with heap := h4, toks := s3.toks + ([] : List (Str × Value)).length } := by
    rw [← hX']; exact blk_inv2 I3' L hc f3 fsz hy hn4 k34
  have st4 : tn 0 h4 := T.keep _ _ _ st2 fun b _ o e => k34 b o (k23 b o e)
  have he' : PE X' elt te := by rw [← hX']; exact he _ _ _ _ _
  have xp : X'.prog = X.prog := by rw [← hX']; rfl
  have xw : X'.w = X.w := by rw [← hX']; rfl
  have xK : X'.K = X.K := by rw [← hX']; rfl
  have xA : X'.A = X.A := by rw [← hX']; rfl
  have xc : X'.calm = true := by rw [← hX']; rfl
  have xe : X'.xe = fun _ _ => False := by rw [← hX']; rfl
  have xn : X'.N = x :: y :: fr := by rw [← hX']; rfl
  have xv : X'.env = compEnvC scope cl s3.heap.objs.size X.env := by rw [← hX']; rfl
  have xpn : X'.pn = X.pn ++ pins := by rw [← hX']; rfl
  have xex : X'.ex = fp := by rw [← hX']; rfl
  have xfs : X'.fs = frs X.stack := by rw [← hX']; rfl
  have back : ∀ {H' : Hp} {s' : Shared} {h' : Heap} {σ' : Sg}, Inv X' [] σ' H' s' → Heap.SameBut s3.heap.objs.size s'.heap h' → Inv X pins σ H' { s' with heap := h' } := fun {H' s' h' σ'} J' hsb => by
    rw [← hX'] at J'; exact blk_back I3' J' f3 hsb
  have frame : ∀ b ∈ fp, b ∉ frs X.stack := fun b hb z => by
    rcases List.mem_cons.mp (I3'.stkSub b z) with e | e
    · exact (f3 b hb).2.1 e
    · exact (f3 b hb).2.2.1 e
  have stat : ∀ {H' : Hp}, (∀ b ∈ fp, H' b = none) → ∀ b ∈ fp, FpOk X' [] H' b := fun {H'} hn b hb => by
    refine ⟨hn b hb, ?_, ?_, .inl (by rw [xex]; exact hb), ?_, ?_⟩
    · rw [xv]; exact Nat.ne_of_lt (fsz b hb)
    · rw [xfs]; exact frame b hb
    · rw [xv]; exact fun y' c e => (f3 b hb).2.2.2.2.1 y' c (L.sub y' c e)
    · rw [xpn, List.append_nil]; exact (f3 b hb).2.2.2.2.2
  have loop : codeAny (model X.prog X.w) X.A (.compLoop (.ListComp elt [⟨.Tuple [.Name x px, .Name y py] kt pt, iter, [], 0⟩] scope pos) 0 (.ref it) (.ref s2.heap.objs.size) (compEnvC scope cl s3.heap.objs.size X.env))
      (compPost (model X.prog X.w) X.A X.xe none (EP X pins σ Q) (.ref s2.heap.objs.size) s3.heap.objs.size) { s3 with heap := h4, toks := s3.toks + ([] : List (Str × Value)).length } := by
    refine lc_loop (fun n s' => ∃ i ys o o' H', Inv X' [] (o :: o' :: frv σ js) H' s' ∧ tn i s'.heap ∧ (∀ b ∈ fp, H' b = none) ∧ W i n ys H') ?_ m0 ⟨0, [], none, none, _, I4, st4, fun b hb => (f3 b hb).1, w0⟩
    rintro n s5 ⟨i, ys, o, o', H5, I5, st5, fr5, w5⟩
    obtain ⟨hD, hstep⟩ := turn i n ys H5 w5
    rcases hstep with ⟨stop, qn⟩ | ⟨go, step⟩
    · have q := T.done X' xp xw xK xc i [] s5 _ H5 (fun _ _ => False) I5 (stat fr5) st5 stop
      rw [xA] at q
      refine thn q fun r s6 ⟨hr, I6⟩ => ?_
      subst hr
      obtain ⟨m6, hn6, _⟩ := I6.loc
      rw [xv] at hn6
      exact ⟨m6, hn6, fun h' hsb => ⟨.ref s2.heap.objs.size, H5, back I6 hsb, rfl, qn⟩⟩
    · have q := T.item X' xp xw xK xc i [] s5 _ H5 (fun _ _ => False) I5 (stat fr5) st5 go
      rw [xA] at q
      refine thn q fun r s6 ⟨u, hr, h6⟩ => ?_
      subst hr
      refine thn h6 fun _ s7 ⟨xx, H7, I7, r7, y7, st7, fr7⟩ => ?_
      have I7' := I7.pinned (stat fr7) (T.obj _ _ st7)
      obtain ⟨ta, x0, y0, rfl, qt, step⟩ := step xx _ y7
      have g0 : PG X' (.Name x px) (gName 0) := by
        refine pg_name (i := 0) (x := x) (by rw [xn]; exact nd2) (by rw [xn]; rfl) ?_ ?_
        · rw [xv]; exact .inl (lookup_relabel_local L.var)
        · rw [xv]; exact .inr (lookup_relabel_local L.var)
      have g1 : PG X' (.Name y py) (gName 1) := by
        refine pg_name (i := 1) (x := y) (by rw [xn]; exact nd2) (by rw [xn]; rfl) ?_ ?_
        · rw [xv]; exact .inl (lookup_relabel_local hy)
        · rw [xv]; exact .inr (lookup_relabel_local hy)
      have hg : PG X' (.Tuple [.Name x px, .Name y py] kt pt) (gTup X'.K 2 (gCons (gName 0) (gCons (gName 1) gNil))) := pg_tup xc (pgs_cons g0 (pgs_cons g1 pgs_nil))
      have q7 := hg _ s7 _ H7 _ u (fun σ8 H8 => σ8 = some x0 :: some y0 :: frv σ js ∧ H8 = H7) I7' r7 ⟨ta, [x0, y0], rfl, by rw [xK]; exact qt, rfl, _, _, rfl, _, _, rfl, rfl, rfl, rfl⟩
      rw [xp, xw, xA, xe, xv] at q7
      refine thn q7 fun _ s8 ⟨σ8, H8, I8, e8, e8'⟩ => ?_
      subst e8 e8'
      have q8 := he' _ s8 _ _ _ I8 step
      rw [xp, xw, xA, xe, xv] at q8
      refine thn q8 fun yv s9 ⟨yr, H9, I9, r9, d9, z9, m9, hm9, w9⟩ => ?_
      have q9 := mt_append (X := X') _ s9 _ H9 (.ref s2.heap.objs.size) [yr] (.ref s2.heap.objs.size) [yv] (fun z H' => H' = upd H9 s2.heap.objs.size (.lst (ys ++ [yr]))) I9 rfl (.cons r9 .nil) ⟨_, ys, yr, rfl, rfl, d9, z9, rfl⟩
      rw [xp, xw, xA, xe] at q9
      refine thn q9 fun _ s10 ⟨_, H10, I10, _, e10⟩ => ?_
      subst e10
      refine ⟨m9, hm9, i + 1, ys ++ [yr], some x0, some y0, _, I10.unpinned, T.keep _ _ _ st7 fun b hb ob e => (I10.pin (b, ob) (List.mem_append_right _ (List.mem_append_right _ (mem_pinsAt hb e)))).1, fun b hb => ?_, w9⟩
      obtain ⟨ob, e, _⟩ := T.obj _ _ st7 b hb
      exact (I10.pin (b, ob) (List.mem_append_right _ (List.mem_append_right _ (mem_pinsAt hb e)))).2.1
  exact codeAny_compStart_list loop (T.self _ 0 _ _ _ st4 loop)
end
theorem qi_zip {X : Cx} {elts : List Expr} {x1 : Nat} {tp p pos : Pos} {a b : Expr} {ta : TA} (hg : Gl X "zip") (hm : X.mg "zip" = none) (ha : QA X [a, b] ta)
    (hs : starEach [a, b] X.env = [(false, eval a X.env), (false, eval b X.env)] := by rfl) (hs2 : starEach [b] X.env = [(false, eval b X.env)] := by rfl) :
    QI X (.Tuple elts x1 tp) (.Call (.Name "zip" p) [a, b] [] pos) (iZip X.K ta) := ⟨pi_zip hg hm ha.run hs hs2⟩
theorem qe_lc2 {X : Cx} {scope : Scope} {cl : List (Str × Addr)} {x y : Str} {fr : List Str} {js : List Nat} {elt iter : Expr} {px py pt pos : Pos} {kt : Nat} {wi : TI} {te : TE} (hc : X.calm = true) (L : LcOk X scope x fr js cl) (hy : scope.names.lookup y = some .local) (nd2 : (x :: y :: fr).Nodup) (hi : QI X (.Tuple [.Name x px, .Name y py] kt pt) iter wi)
    (he : ∀ C s H fp pins, QE (blk X scope cl C (x :: y :: fr) s H fp pins) elt te)
    (hs : ∀ v, foldedSetIterable iter X.env v = pure v := by intro _; rfl) :
    QE X (.ListComp elt [⟨.Tuple [.Name x px, .Name y py] kt pt, iter, [], 0⟩] scope pos) (tLC2 X.K wi js te) := ⟨pe_lc2 hc L hy nd2 hi.run (fun C s H fp pins => (he C s H fp pins).run) hs⟩
/-- number by number -/
theorem lc_add {K : PySem.W.Frag} {a b : Addr} {H1 : Hp} {ns ms : List Nat} {σ : Sg} {js : List Nat} {te : TE} {Q : VK} (hn : ns.length ≤ 1000) (he : ns.length = ms.length) (ha : SqT K H1 a (ns.map nv)) (hb : SqT K H1 b (ms.map nv))
    (hte : ∀ (i j : Nat) (H' : Hp) (R : VK), R (nv (i + j)) H' → te (some (nv i) :: some (nv j) :: frv σ js) H' R)
    (q : ∀ D H', Same H1 H' → H' D = some (.lst ((ns.zipWith (· + ·) ms).map nv)) → Q (.ref D) H') : LcRun2 K (Itz K a b) js te σ Q H1 := by
  intro D hD
  refine ⟨fun i m ys H' => i ≤ ns.length ∧ m = ns.length - i ∧ Same H1 H' ∧ H' D = some (.lst ys) ∧ ys = ((ns.zipWith (· + ·) ms).take i).map nv, ⟨_, Nat.zero_le _, rfl, same_new hD _, upd_same, rfl⟩, ?_⟩
  rintro i m ys H' ⟨hi, rfl, S, hl, rfl⟩
  refine ⟨hl, ?_⟩
  have ha' := sqT_mono (.of S) ha
  have hb' := sqT_mono (.of S) hb
  have hz : (ns.zipWith (· + ·) ms).length = ns.length := by rw [List.length_zipWith, he, Nat.min_self]
  by_cases h : i < ns.length
  · have hm : i < ms.length := by omega
    have ex : (ns.map nv)[i]? = some (nv ns[i]) := by rw [List.getElem?_map, List.getElem?_eq_getElem h]; rfl
    have ey : (ms.map nv)[i]? = some (nv ms[i]) := by rw [List.getElem?_map, List.getElem?_eq_getElem hm]; rfl
    refine .inr ⟨⟨_, _, _, _, ha', hb', ex, ey⟩, ?_⟩
    rintro v H2 ⟨p, x, y, rfl, hp, rfl, hx, hy⟩
    have e1 := (hx _ ha').symm.trans ex
    have e2 := (hy _ hb').symm.trans ey
    cases e1
    cases e2
    refine ⟨p, _, _, rfl, SqT.of upd_same, hte _ _ _ _ ?_⟩
    have hne : D ≠ p := fun z => by rw [z, hp] at hl; cases hl
    refine ⟨by rw [upd_ne hne]; exact hl, by rw [List.length_map, List.length_take]; exact Nat.lt_of_le_of_lt (Nat.min_le_left _ _) (Nat.lt_of_lt_of_le (Nat.lt_of_lt_of_le h hn) (by decide)), ns.length - (i + 1), by omega, by omega, rfl, same_upd (S.trans (same_new hp _)) hD, upd_same, ?_⟩
    have et : (ns.zipWith (· + ·) ms).take (i + 1) = (ns.zipWith (· + ·) ms).take i ++ [ns[i] + ms[i]] := by
      rw [List.take_succ, List.getElem?_zipWith, List.getElem?_eq_getElem h, List.getElem?_eq_getElem hm]
      rfl
    rw [et, List.map_append]
    rfl
  · have e : i = ns.length := by omega
    subst e
    refine .inl ⟨⟨_, ha', by rw [List.length_map]; exact Nat.le_refl _⟩, q D H' S ?_⟩
    rw [hl, List.take_of_length_le (by omega)]
end Sw

/-! ## tuples of numbers: == and !=; isinstance of a number or a tuple; tallies drawn -/
namespace Sw
open PySem PySem.Spec PyProof.Rows L2
theorem CallR.or {X : Cx} {f : Value} {r1 r2 : List V → Hp → VK → Prop} (h1 : CallR X f r1) (h2 : CallR X f r2) : CallR X f (fun xs H Q => r1 xs H Q ∨ r2 xs H Q) := by
  intro pins s σ H xs us Q I r h
  rcases h with h | h
  · exact h1 pins s σ H xs us Q I r h
  · exact h2 pins s σ H xs us Q I r h
theorem eqs_range : ∀ ns ms : List Int, ((List.range (min ns.length ms.length)).all (fun j => ns[j]? == ms[j]?) && ns.length == ms.length) = decide (ns = ms) := by
  intro ns ms
  rw [Bool.eq_iff_iff, Bool.and_eq_true, List.all_eq_true, decide_eq_true_iff, beq_iff_eq]
  refine ⟨fun ⟨h1, h2⟩ => List.ext_getElem? fun j => ?_, fun h => by subst h; exact ⟨fun j _ => beq_self_eq_true _, rfl⟩⟩
  by_cases hj : j < ns.length
  · exact eq_of_beq (h1 j (List.mem_range.mpr (by omega)))
  · rw [List.getElem?_eq_none (by omega), List.getElem?_eq_none (by omega)]
section
variable {X : Cx} {pins : List (Addr × Obj)} {σ : Sg} {H : Hp} {s : Shared}
theorem int_items {A : Around} {ns ms : List Int} {its jts : List Value} (ra : Vals (ns.map V.int) its) (rb : Vals (ms.map V.int) jts) (j : Nat) (j1 : j < its.toArray.size) (j2 : j < jts.toArray.size) :
    SeqAt.EqAt A s its.toArray[j] jts.toArray[j] (ns[j]? == ms[j]?) := by
  have l1 := ra.length
  have l2 := rb.length
  rw [List.length_map] at l1 l2
  have h1 : j < ns.length := by simp at j1; omega
  have h2 : j < ms.length := by simp at j2; omega
  obtain ⟨u1, hu1, ⟨t1, e1⟩⟩ := ra.get (i := j) (x := .int ns[j]) (by rw [List.getElem?_map, List.getElem?_eq_getElem h1]; rfl)
  obtain ⟨u2, hu2, ⟨t2, e2⟩⟩ := rb.get (i := j) (x := .int ms[j]) (by rw [List.getElem?_map, List.getElem?_eq_getElem h2]; rfl)
  have g1 : its.toArray[j] = .int ns[j] t1 := by
    obtain ⟨_, e⟩ := List.getElem?_eq_some_iff.mp hu1
    rw [← e1, ← e]
    simp
  have g2 : jts.toArray[j] = .int ms[j] t2 := by
    obtain ⟨_, e⟩ := List.getElem?_eq_some_iff.mp hu2
    rw [← e2, ← e]
    simp
  rw [g1, g2, List.getElem?_eq_getElem h1, List.getElem?_eq_getElem h2]
  exact SeqAt.EqAt.int_int _ _ _ _
end
section
variable {X : Cx}
def rEqTI (K : PySem.W.Frag) : R2 := fun x y H Q => ∃ a b ns ms, x = .ref a ∧ y = .ref b ∧ SqT K H a (List.map V.int ns) ∧ SqT K H b (List.map V.int ms) ∧ Q (.bl (decide (ns = ms))) H
def rNeTI (K : PySem.W.Frag) : R2 := fun x y H Q => ∃ a b ns ms, x = .ref a ∧ y = .ref b ∧ SqT K H a (List.map V.int ns) ∧ SqT K H b (List.map V.int ms) ∧ Q (.bl (!decide (ns = ms))) H
theorem op_eqTI {n : Nat} (hu : X.A.units + n < cLine) : OpR X (compareOp .Eq) (rEqTI X.K) := by
  intro pins s σ H x y v u Q I rx ry h
  obtain ⟨a, b, ns, ms, rfl, rfl, h1, h2, q⟩ := h
  cases rx
  cases ry
  obtain ⟨its, rv, ht, _⟩ := I.tuple h1
  obtain ⟨jts, rw', ht2, _⟩ := I.tuple h2
  have key := SeqAt.RcAt.tuples (A := X.A) (e := fun j => ns[j]? == ms[j]?) ht ht2 (by omega) (fun j j1 j2 => int_items rv rw' j j1 j2)
  have ev : ((List.range (min its.toArray.size jts.toArray.size)).all (fun j => ns[j]? == ms[j]?) && its.toArray.size == jts.toArray.size) = decide (ns = ms) := by
    rw [← eqs_range, List.size_toArray, List.size_toArray, ← rv.length, ← rw'.length, List.length_map, List.length_map]
  rw [ev] at key
  exact key _ _ _ _ ⟨.bl _, H, I, rfl, q⟩
theorem op_neTI {n : Nat} (hu : X.A.units + n < cLine) : OpR X (compareOp .NotEq) (rNeTI X.K) := by
  intro pins s σ H x y v u Q I rx ry h
  obtain ⟨a, b, ns, ms, rfl, rfl, h1, h2, q⟩ := h
  cases rx
  cases ry
  obtain ⟨its, rv, ht, _⟩ := I.tuple h1
  obtain ⟨jts, rw', ht2, _⟩ := I.tuple h2
  have key := SeqAt.RcNeAt.tuples (A := X.A) (e := fun j => ns[j]? == ms[j]?) ht ht2 (by omega) (fun j j1 j2 => int_items rv rw' j j1 j2)
  have ev : ((List.range (min its.toArray.size jts.toArray.size)).all (fun j => ns[j]? == ms[j]?) && its.toArray.size == jts.toArray.size) = decide (ns = ms) := by
    rw [← eqs_range, List.size_toArray, List.size_toArray, ← rv.length, ← rw'.length, List.length_map, List.length_map]
  rw [ev] at key
  exact key _ _ _ _ ⟨.bl _, H, I, rfl, q⟩
theorem call_isinstA : CallR X (.builtin "isinstance") (fun xs H Q => (∃ x T t b, xs = [x, .ty T] ∧ TyOf X.K H x t ∧ PySem.W.kitOne X.K t (.type T) = some b ∧ Q (.bl b) H) ∨ (∃ a ys T b, xs = [.ref a, .ty T] ∧ SqT X.K H a ys ∧ PySem.W.kitOne X.K (.type "tuple") (.type T) = some b ∧ Q (.bl b) H)) := CallR.or call_isinst call_isinstT
end
/-- a tally: fifteen numbers -/
def spAdded (K : PySem.W.Frag) : Sp := fun vs H Q _ => ∃ a b ns ms, vs = [.ref a, .ref b] ∧ SqT K H a (List.map nv ns) ∧ SqT K H b (List.map nv ms) ∧ ns.length = 15 ∧ ms.length = 15 ∧ ∀ p H', Same H H' → SqT K H' p ((ns.zipWith (· + ·) ms).map nv) → Q (.ref p) H'
theorem nv_int (ns : List Nat) : ns.map nv = (ns.map fun n : Nat => (n : Int)).map V.int := by rw [List.map_map]; rfl
end Sw

namespace Sw60
open PySem PySem.Spec PyProof.Rows L2 Sw
def top (i : Nat) : Stmt := PySem.Challenge.pw_selfword_k60_one_form.main.body.getD i (.Pass ⟨0, 0, 0, 0⟩)
abbrev s_added : Stmt := top 1
abbrev s_turned : Stmt := top 5
abbrev s__law_cell_at : Stmt := top 7
abbrev s__law_tally : Stmt := top 8
abbrev s__law_good : Stmt := top 9
abbrev s_law : Stmt := top 10
theorem sc_added : FnScope ["one", "other"] ["one", "other"] (defScope s_added) := ⟨rfl, rfl, rfl, by decide +kernel, rfl, by decide +kernel, by decide +kernel⟩
theorem sc_turned : FnScope ["tally", "taken", "times", "numbers"] ["tally"] (defScope s_turned) := ⟨rfl, rfl, rfl, by decide +kernel, rfl, by decide +kernel, by decide +kernel⟩
theorem sc__law_cell_at : FnScope ["_law_script", "_law_k"] ["_law_script", "_law_k"] (defScope s__law_cell_at) := ⟨rfl, rfl, rfl, by decide +kernel, rfl, by decide +kernel, by decide +kernel⟩
theorem sc__law_tally : FnScope ["_law_script", "_law_start", "_law_tally_here", "_law_k", "_law_cell"] ["_law_script", "_law_start"] (defScope s__law_tally) := ⟨rfl, rfl, rfl, by decide +kernel, rfl, by decide +kernel, by decide +kernel⟩
theorem sc__law_good : FnScope ["_law_tally_here"] ["_law_tally_here"] (defScope s__law_good) := ⟨rfl, rfl, rfl, by decide +kernel, rfl, by decide +kernel, by decide +kernel⟩
theorem sc_law : FnScope ["_law_script", "_law_one", "_law_other", "_law_many", "_law_none", "_law_mine", "_law_second", "_law_both", "_law_often", "_law_k"] ["_law_script"] (defScope s_law) := ⟨rfl, rfl, rfl, by decide +kernel, rfl, by decide +kernel, by decide +kernel⟩
end Sw60
namespace Sw60
open PySem PySem.Spec PyProof.Rows L2 Sw
section
variable {P : Program} {w : World} {K : PySem.W.Frag} {mg : Str → Option Value} {base : Heap} {f : Addr} {fd : FuncData}

def alwaysN : List Nat := [2, 2, 0, 1, 2, 2, 2, 0, 0, 0, 1, 0, 1, 0, 0]
def eachN : List (List Nat) := [[0, 1, 0, 1, 2, 3, 4, 1, 1, 1, 0, 0, 3, 0, 1169],
  [0, 4, 0, 3, 1, 5, 0, 2, 1, 1, 0, 0, 4, 0, 1169],
  [0, 4, 1, 6, 3, 6, 1, 3, 1, 1, 0, 0, 5, 0, 1169],
  [0, 5, 0, 8, 3, 8, 1, 4, 1, 1, 0, 0, 6, 0, 1169],
  [0, 6, 0, 7, 3, 9, 1, 5, 1, 1, 0, 0, 7, 0, 1169],
  [0, 7, 0, 8, 3, 10, 2, 6, 1, 1, 0, 0, 8, 0, 1169],
  [0, 8, 0, 12, 4, 12, 2, 7, 1, 1, 0, 0, 9, 0, 1169],
  [0, 9, 0, 9, 3, 12, 4, 9, 1, 1, 0, 0, 11, 0, 1169],
  [0, 9, 0, 8, 3, 12, 4, 8, 2, 1, 0, 0, 11, 0, 1169],
  [0, 0, 1, 19, 15, 14, 7, 10, 1, 1, 0, 0, 12, 0, 1169],
  [0, 1, 0, 17, 11, 12, 4, 9, 2, 1, 0, 0, 12, 0, 1169],
  [0, 10, 0, 8, 1, 11, 0, 10, 0, 1, 0, 0, 11, 0, 1169],
  [0, 1, 0, 0, 0, 1, 0, 0, 1, 1, 0, 0, 2, 0, 1169],
  [0, 0, 0, 0, 0, 0, 0, 0, 0, 0, 0, 0, 0, 1, 0],
  [0, 0, 0, 0, 0, 0, 0, 0, 0, 0, 0, 0, 0, 1, 0]]
def RowsO (K : PySem.W.Frag) (H : Hp) (a : Addr) (rows : List (List Nat)) : Prop := ∃ ys, SqT K H a ys ∧ All2 (fun r y => ∃ b, y = V.ref b ∧ SqT K H b (List.map nv r)) rows ys
/-- times a row each, added up -/
def sumR : List Nat → List (List Nat) → List Nat → List Nat
  | n :: ns, r :: rs, acc => sumR ns rs (acc.zipWith (· + ·) (r.map (n * ·)))
  | _, _, acc => acc
def dotR : List Nat → List (List Nat) → Nat → Nat
  | n :: ns, r :: rs, k => n * r.getD k 0 + dotR ns rs k
  | _, _, _ => 0
def turnT (ns : List Nat) : List Nat := sumR ns eachN alwaysN
theorem sumR_len : ∀ {ns : List Nat} {rs : List (List Nat)} {acc : List Nat}, (∀ r ∈ rs, r.length = 15) → acc.length = 15 → (sumR ns rs acc).length = 15
  | [], _, _, _, h => by cases ‹List (List Nat)› <;> exact h
  | _ :: _, [], _, _, h => h
  | n :: ns, r :: rs, acc, h, ha => by
    have hr := h r List.mem_cons_self
    exact sumR_len (ns := ns) (rs := rs) (acc := acc.zipWith (· + ·) (r.map (n * ·))) (fun r' hr' => h r' (List.mem_cons_of_mem _ hr')) (by rw [List.length_zipWith, ha, List.length_map, hr]; rfl)
theorem sumR_get : ∀ {ns : List Nat} {rs : List (List Nat)} {acc : List Nat} {k : Nat}, (∀ r ∈ rs, r.length = 15) → acc.length = 15 → k < 15 → (sumR ns rs acc).getD k 0 = acc.getD k 0 + dotR ns rs k
  | [], [], _, _, _, _, _ => rfl
  | [], _ :: _, _, _, _, _, _ => rfl
  | _ :: _, [], _, _, _, _, _ => rfl
  | n :: ns, r :: rs, acc, k, h, ha, hk => by
    have hr := h r List.mem_cons_self
    have e := sumR_get (ns := ns) (rs := rs) (acc := acc.zipWith (· + ·) (r.map (n * ·))) (k := k) (fun r hr => h r (List.mem_cons_of_mem _ hr)) (by rw [List.length_zipWith, ha, List.length_map, hr]; rfl) hk
    show (sumR ns rs (acc.zipWith (· + ·) (r.map (n * ·)))).getD k 0 = acc.getD k 0 + (n * r.getD k 0 + dotR ns rs k)
    rw [e, List.getD_eq_getElem?_getD, List.getElem?_zipWith, List.getElem?_map, List.getElem?_eq_getElem (l := acc) (by omega), List.getElem?_eq_getElem (l := r) (by omega), List.getD_eq_getElem?_getD, List.getD_eq_getElem?_getD, List.getElem?_eq_getElem (l := acc) (by omega), List.getElem?_eq_getElem (l := r) (by omega)]
    show (acc[k] + n * r[k]) + dotR ns rs k = acc[k] + (n * r[k] + dotR ns rs k)
    omega
theorem dotR_add : ∀ {a b : List Nat} {rs : List (List Nat)} {k : Nat}, a.length = b.length → dotR (a.zipWith (· + ·) b) rs k = dotR a rs k + dotR b rs k
  | [], [], _, _, _ => by cases ‹List (List Nat)› <;> rfl
  | _ :: _, _ :: _, [], _, _ => rfl
  | x :: a, y :: b, r :: rs, k, h => by
    have e := dotR_add (a := a) (b := b) (rs := rs) (k := k) (by simpa using h)
    show (x + y) * r.getD k 0 + dotR (a.zipWith (· + ·) b) rs k = (x * r.getD k 0 + dotR a rs k) + (y * r.getD k 0 + dotR b rs k)
    rw [e, Nat.add_mul]
    omega
theorem dotR_mul : ∀ {m : Nat} {a : List Nat} {rs : List (List Nat)} {k : Nat}, dotR (a.map (m * ·)) rs k = m * dotR a rs k
  | _, [], rs, _ => by cases rs <;> rfl
  | _, _ :: _, [], _ => rfl
  | m, x :: a, r :: rs, k => by
    show m * x * r.getD k 0 + dotR (a.map (m * ·)) rs k = m * (x * r.getD k 0 + dotR a rs k)
    rw [dotR_mul, Nat.mul_add, Nat.mul_assoc]
theorem dotR_zero : ∀ {n : Nat} {rs : List (List Nat)} {k : Nat}, dotR (List.replicate n 0) rs k = 0
  | 0, rs, _ => by cases rs <;> rfl
  | n + 1, [], _ => rfl
  | n + 1, r :: rs, k => by
    show 0 * r.getD k 0 + dotR (List.replicate n 0) rs k = 0
    rw [dotR_zero, Nat.zero_mul]
theorem sumR_take : ∀ {i : Nat} {ns : List Nat} {rs : List (List Nat)} {acc : List Nat} {n : Nat} {r : List Nat}, ns[i]? = some n → rs[i]? = some r → sumR (ns.take (i + 1)) rs acc = (sumR (ns.take i) rs acc).zipWith (· + ·) (r.map (n * ·))
  | 0, n :: ns, r :: rs, acc, _, _, h1, h2 => by cases h1; cases h2; cases rs <;> rfl
  | i + 1, n :: ns, r :: rs, acc, m, q, h1, h2 => by
    show sumR (ns.take (i + 1)) rs _ = (sumR (ns.take i) rs _).zipWith (· + ·) _
    exact sumR_take (by simpa using h1) (by simpa using h2)
theorem each_len : ∀ r ∈ eachN, r.length = 15 := by decide
theorem each_le : ∀ r ∈ eachN, ∀ n ∈ r, n ≤ 100000 := by decide
theorem turn_len (ns : List Nat) : (turnT ns).length = 15 := sumR_len each_len rfl
theorem turn_get (ns : List Nat) {k : Nat} (hk : k < 15) : (turnT ns).getD k 0 = alwaysN.getD k 0 + dotR ns eachN k := sumR_get each_len rfl hk
def spTurned (K : PySem.W.Frag) : Sp := fun vs H Q _ => ∃ a ns, vs = [.ref a] ∧ SqT K H a (List.map nv ns) ∧ ns.length = 15 ∧ ∀ p H', Same H H' → SqT K H' p ((turnT ns).map nv) → Q (.ref p) H'
def spTally6 (K : PySem.W.Frag) : Sp := fun vs H Q _ => ∃ (a : Addr) (k : Int) (cs : List Int), vs = [.ref a, .int k] ∧ SqL K H a (cs.map V.int) ∧ 0 ≤ k ∧ k ≤ 900 ∧ ∀ p ns H', Same H H' → SqT K H' p (List.map nv ns) → ns.length = 15 → Q (.ref p) H'
def spGood6 (K : PySem.W.Frag) : Sp := fun vs H Q _ => ∃ a ns, vs = [.ref a] ∧ SqT K H a (List.map nv ns) ∧ ns.length = 15 ∧ ∀ H', Same H H' → Q (.bl true) H'
theorem nv_get {ns : List Nat} {i : Nat} (h : i < ns.length) : (ns.map nv)[i]? = some (nv (ns.getD i 0)) := by
  rw [List.getElem?_map, List.getElem?_eq_getElem h, List.getD_eq_getElem?_getD, List.getElem?_eq_getElem h]; rfl
/-- for x, y in zip(a, b) -/
theorem for_zip {K : PySem.W.Frag} {a b : Addr} {xs ys : List V} {tb : TS} {D : Ends} {σ : Sg} {H : Hp} {g : TG} (Pv : Nat → Sg → Hp → Prop) (h0 : Pv 0 σ H) (he : xs.length = ys.length) (hl : ∀ i σ H, i ≤ xs.length → Pv i σ H → SqT K H a xs ∧ SqT K H b ys)
    (hs : ∀ i x y σ H p, xs[i]? = some x → ys[i]? = some y → Pv i σ H → H p = none → g (.ref p) σ (upd H p (.tup [x, y])) fun σ2 H2 => tb { D with nx := Pv (i + 1), ct := Pv (i + 1), bk := D.nx } σ2 H2) (hd : ∀ σ H, Pv xs.length σ H → D.nx σ H) :
    ∃ W : Nat → Nat → Sg → Hp → Prop, (∃ m, W 0 m σ H) ∧ ∀ i m σ H, W i m σ H →
      ((Itz K a b).stop i H ∧ D.nx σ H) ∨ ((Itz K a b).go i H ∧ ∃ N : Sg → Hp → Prop, (∀ σ' H', N σ' H' → ∃ m', m' < m ∧ W (i + 1) m' σ' H') ∧ ∀ x H', (Itz K a b).yld i H x H' → g x σ H' fun σ2 H2 => tb { D with nx := N, ct := N, bk := D.nx } σ2 H2) := by
  refine ⟨fun i m σ H => m = xs.length - i ∧ i ≤ xs.length ∧ Pv i σ H, ⟨xs.length, rfl, Nat.zero_le _, h0⟩, ?_⟩
  rintro i m σ H ⟨rfl, hi, p⟩
  obtain ⟨qa, qb⟩ := hl i σ H hi p
  by_cases hlt : i < xs.length
  · have ex : xs[i]? = some xs[i] := List.getElem?_eq_getElem hlt
    have ey : ys[i]? = some ys[i] := List.getElem?_eq_getElem (by omega)
    refine .inr ⟨⟨_, _, _, _, qa, qb, ex, ey⟩, Pv (i + 1), fun σ' H' p' => ⟨xs.length - (i + 1), by omega, rfl, hlt, p'⟩, fun v H' y => ?_⟩
    obtain ⟨q, x, y, rfl, hq, rfl, hx, hy⟩ := y
    exact hs i x y σ _ q (hx _ qa) (hy _ qb) p hq
  · have e : i = xs.length := by omega
    subst e
    exact .inl ⟨⟨_, qa, Nat.le_refl _⟩, hd σ H p⟩
/-- a comprehension over a tuple of numbers that makes a number of each -/
theorem lc_num {K : PySem.W.Frag} {a : Addr} {H1 : Hp} {ns : List Nat} {f : Nat → Nat} {σ : Sg} {js : List Nat} {te : TE} {Q : VK} (hn : ns.length ≤ 1000) (ha : SqT K H1 a (ns.map nv))
    (hte : ∀ (i : Nat) (H' : Hp) (R : VK), i ∈ ns → R (nv (f i)) H' → te (some (nv i) :: frv σ js) H' R)
    (q : ∀ D H', Same H1 H' → H' D = some (.lst ((ns.map f).map nv)) → Q (.ref D) H') : LcRun (Itt K a) js te σ Q H1 := by
  refine lc_tupI (K := K) (xs := ns.map nv) (fun D i ys H' => H1 D = none ∧ Same H1 H' ∧ H' D = some (.lst ys) ∧ ys = ((ns.take i).map f).map nv ∧ i ≤ ns.length) (small (by rw [List.length_map]; omega)) (fun D hD => ⟨hD, same_new hD _, upd_same, rfl, Nat.zero_le _⟩) (fun D i ys H' j => ⟨j.2.2.1, ?_, sqT_mono (.of j.2.1) ha⟩) (fun D i x ys H' R hx j hR => ?_) (fun D ys H' j => ?_)
  · rw [j.2.2.2.1, List.length_map, List.length_map, List.length_take]
    exact Nat.min_eq_left j.2.2.2.2
  · obtain ⟨hD, S, h1, h2, _⟩ := j
    rw [List.getElem?_map] at hx
    cases hh : ns[i]? with
    | none => rw [hh] at hx; cases hx
    | some m =>
      rw [hh] at hx
      cases hx
      refine hte m _ _ (List.mem_of_getElem? hh) (hR _ _ h1 ⟨hD, same_upd S hD, upd_same, ?_, (List.getElem?_eq_some_iff.mp hh).1⟩)
      rw [h2, List.take_succ, hh, List.map_append, List.map_append]
      rfl
  · obtain ⟨hD, S, h1, h2, _⟩ := j
    rw [List.length_map, List.take_of_length_le (Nat.le_refl _)] at h2
    exact q D H' S (by rw [h1, h2])

theorem call_isinstK {X : Cx} {K : PySem.W.Frag} (hK : X.K = K) : CallR X (.builtin "isinstance") (fun xs H Q => ∃ x T t b, xs = [x, .ty T] ∧ TyOf K H x t ∧ PySem.W.kitOne K t (.type T) = some b ∧ Q (.bl b) H) := by subst hK; exact call_isinst
def spCell6 (K : PySem.W.Frag) : Sp := fun vs H Q _ => ∃ (a : Addr) (k : Int) (cs : List Int), vs = [.ref a, .int k] ∧ SqL K H a (cs.map V.int) ∧ 0 ≤ k ∧ k ≤ 1000 ∧ ∀ i H', Same H H' → Q (.int i) H'
theorem ok_added (m_tuple : mg "tuple" = none) (m_zip : mg "zip" = none) 
    (F : Fun K "added" "added" s_added f fd) : FnOk P w K mg base CX0 31 f fd ["one", "other"] (spAdded K) := by
  refine okQ F sc_added (fun vs H Q E h => ?_) (fun cdv A outer s H vs Q E hr h => ?_)
  · obtain ⟨a, b, ns, ms, rfl, _⟩ := h
    rfl
  obtain ⟨a, b, ns, ms, rfl, ha, hb, hn, hm, q⟩ := h
  refine ⟨_, (qss_one (qs_ret (qe_callTy call_tuple_of rfl m_tuple bt_tuple (qa_cons (qe_lc2 rfl (lc_free (fr := []) (js := []) (sc := defScope s_added) rfl rfl rfl (by decide +kernel) (by decide +kernel) (by decide +kernel) (by decide +kernel) (by exact trivial) (by decide +kernel) (fun y hy => cell_has hy)) rfl (by decide) (qi_zip rfl m_zip (qa_cons (qv 0) (qa_cons (qv 1) qa_nil))) (fun _ _ _ _ _ => (qe_op op_add (qv 0) (qv 1)))) qa_nil)))), ?_⟩
  refine ⟨_, rfl, _, rfl, a, b, _, _, rfl, ha, hb, lc_add (K := K) (by omega) (by omega) ha hb (fun i j H' R r => ⟨_, rfl, _, rfl, _, _, rfl, rfl, r⟩) (fun D H' S hD => ?_)⟩
  exact ⟨D, _, rfl, .inl ⟨SqL.of hD, fun l hl => q _ _ (S.trans (same_new hl _)) (SqT.of upd_same)⟩⟩
theorem ok_turned (m_zip : mg "zip" = none) (m_tuple : mg "tuple" = none) {a_ALWAYS : Addr} (m_ALWAYS : mg "ALWAYS" = some (.ref a_ALWAYS)) (q_ALWAYS : ∀ H, SqT K H a_ALWAYS [.int 2, .int 2, .int 0, .int 1, .int 2, .int 2, .int 2, .int 0, .int 0, .int 0, .int 1, .int 0, .int 1, .int 0, .int 0]) {a_EACH : Addr} (m_EACH : mg "EACH" = some (.ref a_EACH)) (q_EACH : ∀ H, RowsO K H a_EACH eachN) 
    {a_added : Addr} {d_added : FuncData} (F_added : Fun K "added" "added" s_added a_added d_added) (G_added : FnOk P w K mg base CX0 31 a_added d_added ["one", "other"] (spAdded K)) (b_added : Binds K d_added ["one", "other"] []) (m_added : mg "added" = some (.ref a_added))
    (F : Fun K "turned" "turned" s_turned f fd) : FnOk P w K mg base CX0 32 f fd ["tally"] (spTurned K) := by
  refine okQ F sc_turned (fun vs H Q E h => ?_) (fun cdv A outer s H vs Q E hr h => ?_)
  · obtain ⟨a, ns, rfl, _⟩ := h
    rfl
  obtain ⟨a, ns, rfl, ha, hn, q⟩ := h
  refine ⟨_, (qss_cons (qs_set (i := 1) sc_turned.nd rfl (Or.inl rfl) (qe_glob (v := .ref a_ALWAYS) rfl m_ALWAYS rfl))
      (qss_cons (qs_for PassesOwn.never rfl (qi_zip rfl m_zip (qa_cons (qv 0) (qa_cons (qe_glob (v := .ref a_EACH) rfl m_EACH rfl) qa_nil))) (qg_tup rfl (qgs_cons (qg_name (i := 2) sc_turned.nd rfl (Or.inr rfl)) (qgs_cons (qg_name (i := 3) sc_turned.nd rfl (Or.inl rfl)) qgs_nil))) (qss_one (qs_set (i := 1) sc_turned.nd rfl (Or.inl rfl) (qe_call G_added hr rfl m_added F_added.kp b_added .nil pass0 (qa_cons (qv 1) (qa_cons (qe_callTy call_tuple_of rfl m_tuple bt_tuple (qa_cons (qe_lc rfl (lc_free (fr := ["times"]) (js := [2]) (sc := defScope s_turned) rfl rfl rfl (by decide +kernel) (by decide +kernel) (by decide +kernel) (by decide +kernel) (by exact ⟨⟨rfl, rfl, rfl⟩, trivial⟩) (by decide +kernel) (fun y hy => cell_has hy)) (qi_tup (qv 3)) (fun _ _ _ _ _ => (qe_op op_mul (qv 1) (qv 0)))) qa_nil)) qa_nil))))))
      (qss_one (qs_ret (qv 1))))), ?_⟩
  obtain ⟨ys, hy, hr2⟩ := q_EACH H
  have hyl := hr2.length
  have e15 : eachN.length = 15 := rfl
  refine ⟨_, rfl, a, a_EACH, _, _, rfl, ha, hy, ?_⟩
  refine for_zip (K := K) (xs := ns.map nv) (ys := ys) (fun i σ' H' => ∃ p o2 o3, σ' = [some (.ref a), some (.ref p), o2, o3] ∧ Same H H' ∧ SqT K H' p ((sumR (ns.take i) eachN alwaysN).map nv)) ?_ (by rw [List.length_map]; omega) ?_ ?_ ?_
  · exact ⟨a_ALWAYS, _, _, rfl, Same.refl _, (show SqT K H a_ALWAYS (alwaysN.map nv) from q_ALWAYS _)⟩
  · rintro i σ' H' _ ⟨p, o2, o3, rfl, S, hp⟩
    exact ⟨sqT_mono (.of S) ha, sqT_mono (.of S) hy⟩
  · rintro i x y σ' H' p2 hx hyi ⟨p, o2, o3, rfl, S, hp⟩ g2
    have S2 := same_new g2 (.tup [x, y])
    have hi : i < ns.length := by have := (List.getElem?_eq_some_iff.mp hx).1; rw [List.length_map] at this; exact this
    have en : ns[i]? = some ns[i] := List.getElem?_eq_getElem hi
    rw [List.getElem?_map, en] at hx
    cases hx
    obtain ⟨r, er, b, rfl, hb⟩ := hr2.get hyi
    refine ⟨p2, _, rfl, SqT.of upd_same, rfl, _, _, rfl, _, _, rfl, rfl, ?_⟩
    have hrl := each_len r (List.mem_of_getElem? er)
    have hb' := sqT_mono (.of (S.trans S2)) hb
    refine ⟨_, rfl, _, rfl, b, rfl, ⟨_, hb'⟩, lc_num (K := K) (ns := r) (f := (ns[i] * ·)) (by omega) hb' (fun j H3 R hj r1 => ?_) (fun D H3 S3 hD => ?_)⟩
    · have hle := each_le r (List.mem_of_getElem? er) j hj
      have big : (2 ^ 64 : Int) = 18446744073709551616 := by decide
      refine ⟨_, rfl, _, rfl, _, _, rfl, rfl, .inr ⟨by omega, by omega⟩, ?_⟩
      show R (V.int ((ns[i] : Int) * (j : Int))) H3
      rw [show V.int ((ns[i] : Int) * (j : Int)) = nv (ns[i] * j) from congrArg V.int (Int.natCast_mul _ _).symm]
      exact r1
    · refine ⟨D, _, rfl, .inl ⟨SqL.of hD, fun l hl => ⟨p, l, _, _, rfl, sqT_mono (.of (S2.trans (S3.trans (same_new hl _)))) hp, SqT.of upd_same, sumR_len each_len rfl, by rw [List.length_map]; exact hrl, fun p4 H4 S4 hp4 => ?_⟩⟩⟩
      exact ⟨p4, _, _, rfl, S.trans (S2.trans (S3.trans ((same_new hl _).trans S4))), by rw [sumR_take en er]; exact hp4⟩
  · rintro σ' H' ⟨p, o2, o3, rfl, S, hp⟩
    rw [List.length_map, List.take_of_length_le (Nat.le_refl _)] at hp
    exact ⟨_, rfl, q p H' S hp⟩
theorem ok__law_cell_at (m_len : mg "len" = none) 
    (F : Fun K "_law_cell_at" "_law_cell_at" s__law_cell_at f fd) : FnOk P w K mg base CX0 31 f fd ["_law_script", "_law_k"] (spCell6 K) := by
  refine okQ F sc__law_cell_at (fun vs H Q E h => ?_) (fun cdv A outer s H vs Q E hr h => ?_)
  · obtain ⟨a, k, cs, rfl, _⟩ := h
    rfl
  obtain ⟨a, k, cs, rfl, hl, hk, hk2, q⟩ := h
  refine ⟨_, (qss_cons (qs_if (qt_cmpR op_lt (qv 1) (qe_callB call_len_seq rfl m_len bt_len (qa_cons (qv 0) qa_nil)) (nomark _)) (qss_one (qs_ret (qe_ix ix_list (qv 0) (qv 1) (fun _ _ => rfl)))) qss_nil)
      (qss_one (qs_ret (qe_op op_add (qe_op op_mul (qe_op op_mul qe_int (qv 1)) (qv 1)) qe_int)))), ?_⟩
  have hlen : (cs.map V.int).length = cs.length := List.length_map ..
  refine ⟨_, rfl, _, rfl, a, _, rfl, .inl hl, _, _, rfl, rfl, _, rfl, ite2 (fun hb => ?_) (fun _ => ?_)⟩
  · obtain ⟨z, _, ez⟩ := at_mem (ns := cs) (k := k) hk (by have := of_decide_eq_true hb; rw [hlen] at this; exact this)
    exact ⟨_, rfl, _, rfl, a, _, _, _, rfl, rfl, hl, ez, q _ _ (Same.refl _)⟩
  · have big : (2 ^ 64 : Int) = 18446744073709551616 := by decide
    exact ⟨_, rfl, _, _, rfl, rfl, .inl ⟨by decide, by decide⟩, _, rfl, _, _, rfl, rfl, .inr ⟨by omega, by omega⟩, _, _, rfl, rfl, q _ _ (Same.refl _)⟩
theorem ok__law_tally (m_range : mg "range" = none) (m_tuple : mg "tuple" = none) 
    {a__law_cell_at : Addr} {d__law_cell_at : FuncData} (F__law_cell_at : Fun K "_law_cell_at" "_law_cell_at" s__law_cell_at a__law_cell_at d__law_cell_at) (G__law_cell_at : FnOk P w K mg base CX0 31 a__law_cell_at d__law_cell_at ["_law_script", "_law_k"] (spCell6 K)) (b__law_cell_at : Binds K d__law_cell_at ["_law_script", "_law_k"] []) (m__law_cell_at : mg "_law_cell_at" = some (.ref a__law_cell_at))
    (F : Fun K "_law_tally" "_law_tally" s__law_tally f fd) : FnOk P w K mg base CX0 32 f fd ["_law_script", "_law_start"] (spTally6 K) := by
  refine okQ F sc__law_tally (fun vs H Q E h => ?_) (fun cdv A outer s H vs Q E hr h => ?_)
  · obtain ⟨a, k, cs, rfl, _⟩ := h
    rfl
  obtain ⟨a, k, cs, rfl, hl, hk, hk2, q⟩ := h
  refine ⟨_, (qss_cons (qs_set (i := 2) sc__law_tally.nd rfl (Or.inl rfl) (qe_lst qa_nil))
      (qss_cons (qs_for PassesOwn.never rfl (qi_range1 rfl m_range (qa_cons qe_int qa_nil)) (qg_name (i := 3) sc__law_tally.nd rfl (Or.inl rfl)) (qss_cons (qs_set (i := 4) sc__law_tally.nd rfl (Or.inl rfl) (qe_call G__law_cell_at hr rfl m__law_cell_at F__law_cell_at.kp b__law_cell_at .nil pass0 (qa_cons (qv 0) (qa_cons (qe_op op_add (qv 1) (qv 3)) qa_nil))))
      (qss_one (qs_if (qt_cmpR op_eq (qe_op op_mod (qv 4) qe_int) qe_int (nomark _)) (qss_one (qs_expr (qe_bm PySem.F.plainAttrs_list PySem.F.slot_list_append PySem.F.type_list_append mt_append (qv 2) (qa_cons qe_int qa_nil)))) (qss_one (qs_expr (qe_bm PySem.F.plainAttrs_list PySem.F.slot_list_append PySem.F.type_list_append mt_append (qv 2) (qa_cons (qe_op op_mod (qe_op op_fdiv (qv 4) qe_int) (qe_op op_pow qe_int qe_int)) qa_nil))))))))
      (qss_one (qs_ret (qe_callTy call_tuple_of rfl m_tuple bt_tuple (qa_cons (qv 2) qa_nil)))))), ?_⟩
  refine ⟨Nat.zero_le _, fun p1 g1 => ?_⟩
  have S1 := same_new g1 (.lst [])
  refine ⟨15, rfl, by decide, by decide, ?_⟩
  refine for_range (n := 15) (fun i σ' H' => ∃ (ds : List Nat) (o3 o4 : Option V), σ' = [some (.ref a), some (.int k), some (.ref p1), o3, o4] ∧ Same H H' ∧ H' p1 = some (.lst (ds.map nv)) ∧ ds.length = i) ?_ ?_ ?_
  · exact ⟨[], _, _, rfl, S1, upd_same, rfl⟩
  · rintro i σ' H' hi ⟨ds, o3, o4, rfl, S, h1, hd⟩
    dsimp only [gName]
    refine setQ (fun v => [some (.ref a), some (.int k), some (.ref p1), some (.int (0 + (i : Int))), some v]) (fun _ => rfl) (fun v H2 => ∃ z : Int, v = .int z ∧ Same H' H2) (fun R r => ⟨_, rfl, _, rfl, _, rfl, _, _, rfl, rfl, a, _, cs, rfl, S.seq hl, by omega, by omega, fun z H2 S2 => r _ _ ⟨z, rfl, S2⟩⟩) (fun v2 H2 h2 => ?_)
    obtain ⟨z, rfl, S2⟩ := h2
    have h12 := S2 _ _ h1
    refine ⟨_, rfl, _, _, rfl, rfl, (by show (0 : Int) < 3; decide), rfl, _, rfl, ite2 (fun _ => ?_) (fun _ => ?_)⟩
    · refine ⟨_, rfl, .inl ⟨rfl, _, SqL.of h12⟩, p1, _, _, rfl, rfl, h12, smallL (by rw [List.length_map]; omega), ?_⟩
      exact ⟨ds ++ [0], _, _, rfl, same_upd (S.trans S2) g1, by rw [upd_same, List.map_append]; rfl, by rw [List.length_append, hd]; rfl⟩
    · refine ⟨_, rfl, .inl ⟨rfl, _, SqL.of h12⟩, _, rfl, _, _, rfl, rfl, ⟨by decide, by decide⟩, _, _, rfl, rfl, ⟨by decide, by decide, by decide⟩, _, _, rfl, rfl, (by show (0 : Int) < 10 ^ 18; decide), p1, _, _, rfl, rfl, h12, smallL (by rw [List.length_map]; omega), ?_⟩
      have e : V.int (z / 3 % 10 ^ (18 : Int).toNat) = nv (z / 3 % 10 ^ 18).toNat := congrArg V.int (Int.toNat_of_nonneg (Int.emod_nonneg _ (by decide))).symm
      exact ⟨ds ++ [(z / 3 % 10 ^ 18).toNat], _, _, rfl, same_upd (S.trans S2) g1, by rw [upd_same, List.map_append]; show some (HO.lst (List.map nv ds ++ [V.int (z / 3 % 10 ^ (18 : Int).toNat)])) = _; rw [e]; rfl, by rw [List.length_append, hd]; rfl⟩
  · rintro σ' H' ⟨ds, o3, o4, rfl, S, h1, hd⟩
    exact ⟨_, rfl, p1, _, rfl, .inl ⟨SqL.of h1, fun l hl' => q l ds _ (S.trans (same_new hl' _)) (SqT.of upd_same) hd⟩⟩
theorem ok__law_good (m_len : mg "len" = none) (m_isinstance : mg "isinstance" = none) (m_tuple : mg "tuple" = none) (m_all : mg "all" = none) (m_bool : mg "bool" = none) (m_int : mg "int" = none) 
    (F : Fun K "_law_good" "_law_good" s__law_good f fd) : FnOk P w K mg base CX0 31 f fd ["_law_tally_here"] (spGood6 K) := by
  refine okQ F sc__law_good (fun vs H Q E h => ?_) (fun cdv A outer s H vs Q E hr h => ?_)
  · obtain ⟨a, ns, rfl, _⟩ := h
    rfl
  obtain ⟨a, ns, rfl, ha, hn, q⟩ := h
  refine ⟨_, (qss_cons (qs_if (QW.pt (qw_or (qt_not (qt_val (qe_callB call_isinstT rfl m_isinstance bt_isinstance (qa_cons (qv 0) (qa_cons (qe_bltn (v := .ty "tuple") rfl m_tuple bt_tuple rfl) qa_nil))))) (qw_or1 (qt_cmpR op_ne (qe_callB call_len_seq rfl m_len bt_len (qa_cons (qv 0) qa_nil)) qe_int (nomark _))))) (qss_one (qs_ret qe_bl)) qss_nil)
      (qss_one (qs_ret (qe_callB (call_all rfl) rfl m_all bt_all (qa_cons (qe_lc rfl (lc_free (fr := []) (js := []) (sc := defScope s__law_good) rfl rfl rfl (by decide +kernel) (by decide +kernel) (by decide +kernel) (by decide +kernel) (by exact trivial) (by decide +kernel) (fun y hy => cell_has hy)) (qi_tup (qv 0)) (fun _ _ _ _ _ => (qe_and (qe_callB (call_isinstK (K := K) rfl) rfl m_isinstance bt_isinstance (qa_cons (qv 0) (qa_cons (qe_bltn (v := .ty "int") rfl m_int bt_int rfl) qa_nil))) (qe_and (qe_not (qe_callB (call_isinstK (K := K) rfl) rfl m_isinstance bt_isinstance (qa_cons (qv 0) (qa_cons (qe_bltn (v := .ty "bool") rfl m_bool bt_bool rfl) qa_nil)))) (qe_one (qe_cmpR op_ge (qv 0) qe_int (nomark _))))))) qa_nil))))), ?_⟩
  refine ⟨_, rfl, a, _, "tuple", true, rfl, ha, by rfl, _, rfl, iteF ?_⟩
  refine ⟨_, rfl, a, _, rfl, .inr ha, rfl, _, rfl, ?_⟩
  rw [show (!decide (V.int ((List.map nv ns).length : Int) = V.int 15)) = false by rw [List.length_map, hn]; rfl]
  refine iteF ?_
  refine ⟨_, rfl, a, rfl, ⟨_, ha⟩, ?_⟩
  refine lc_tupI (K := K) (xs := ns.map nv) (fun D i ys H' => H D = none ∧ Same H H' ∧ H' D = some (.lst ys) ∧ ys = List.replicate i (.bl true)) (small (by rw [List.length_map]; omega)) (fun D hD => ⟨hD, same_new hD _, upd_same, rfl⟩) (fun D i ys H' j => ⟨j.2.2.1, by rw [j.2.2.2, List.length_replicate], sqT_mono (.of j.2.1) ha⟩) (fun D i x ys H' R hx j hR => ?_) (fun D ys H' j => ?_)
  · obtain ⟨hD, S, h1, h2⟩ := j
    rw [List.getElem?_map] at hx
    cases hh : ns[i]? with
    | none => rw [hh] at hx; cases hx
    | some m =>
      rw [hh] at hx
      cases hx
      refine ⟨_, rfl, .int m, "int", .type "int", true, rfl, TyOf.int _, by rfl, _, rfl, iteT ⟨_, rfl, .int m, "bool", .type "int", false, rfl, TyOf.int _, by rfl, _, rfl, _, rfl, iteT ⟨_, rfl, _, _, rfl, rfl, ?_⟩⟩⟩
      have e : decide ((m : Int) ≥ 0) = true := decide_eq_true (Int.natCast_nonneg m)
      show R (.bl (decide ((m : Int) ≥ 0))) H'
      rw [e]
      exact hR _ _ h1 ⟨hD, same_upd S hD, upd_same, by rw [h2, ← List.replicate_succ']⟩
  · obtain ⟨hD, S, h1, h2⟩ := j
    refine ⟨D, List.replicate (ns.map nv).length true, rfl, SqL.of (by rw [h1, h2, List.map_replicate]), ?_⟩
    rw [show (List.replicate (ns.map nv).length true).all id = true from by rw [List.all_eq_true]; intro b hb; rw [List.eq_of_mem_replicate hb]; rfl]
    exact q _ S
theorem ok_law (m_tuple : mg "tuple" = none) (m_zip : mg "zip" = none) (m_all : mg "all" = none) (m_range : mg "range" = none) 
    {a__law_tally : Addr} {d__law_tally : FuncData} (F__law_tally : Fun K "_law_tally" "_law_tally" s__law_tally a__law_tally d__law_tally) (G__law_tally : FnOk P w K mg base CX0 33 a__law_tally d__law_tally ["_law_script", "_law_start"] (spTally6 K)) (b__law_tally : Binds K d__law_tally ["_law_script", "_law_start"] []) (m__law_tally : mg "_law_tally" = some (.ref a__law_tally))
    {a__law_cell_at : Addr} {d__law_cell_at : FuncData} (F__law_cell_at : Fun K "_law_cell_at" "_law_cell_at" s__law_cell_at a__law_cell_at d__law_cell_at) (G__law_cell_at : FnOk P w K mg base CX0 33 a__law_cell_at d__law_cell_at ["_law_script", "_law_k"] (spCell6 K)) (b__law_cell_at : Binds K d__law_cell_at ["_law_script", "_law_k"] []) (m__law_cell_at : mg "_law_cell_at" = some (.ref a__law_cell_at))
    {a_turned : Addr} {d_turned : FuncData} (F_turned : Fun K "turned" "turned" s_turned a_turned d_turned) (G_turned : FnOk P w K mg base CX0 33 a_turned d_turned ["tally"] (spTurned K)) (b_turned : Binds K d_turned ["tally"] []) (m_turned : mg "turned" = some (.ref a_turned))
    {a__law_good : Addr} {d__law_good : FuncData} (F__law_good : Fun K "_law_good" "_law_good" s__law_good a__law_good d__law_good) (G__law_good : FnOk P w K mg base CX0 33 a__law_good d__law_good ["_law_tally_here"] (spGood6 K)) (b__law_good : Binds K d__law_good ["_law_tally_here"] []) (m__law_good : mg "_law_good" = some (.ref a__law_good))
    (F : Fun K "law" "law" s_law f fd) : FnOk P w K mg base CX0 34 f fd ["_law_script"] (spLaw K) := by
  refine okQ F sc_law (fun vs H Q E h => ?_) (fun cdv A outer s H vs Q E hr h => ?_)
  · obtain ⟨a, ns, rfl, _⟩ := h
    rfl
  obtain ⟨a, ns, rfl, hl, h63, q⟩ := h
  have hE := hr.un
  have hE : (A.deeper (envOfC "law" (defScope s_law) s.heap.objs.size f cdv)).units + 401 < cLine := by omega
  refine ⟨_, (qss_cons (qs_set (i := 1) sc_law.nd rfl (Or.inl rfl) (qe_call G__law_tally hr rfl m__law_tally F__law_tally.kp b__law_tally .nil pass0 (qa_cons (qv 0) (qa_cons qe_int qa_nil))))
      (qss_cons (qs_set (i := 2) sc_law.nd rfl (Or.inl rfl) (qe_call G__law_tally hr rfl m__law_tally F__law_tally.kp b__law_tally .nil pass0 (qa_cons (qv 0) (qa_cons qe_int qa_nil))))
      (qss_cons (qs_set (i := 3) sc_law.nd rfl (Or.inr rfl) (qe_op op_mod (qe_call G__law_cell_at hr rfl m__law_cell_at F__law_cell_at.kp b__law_cell_at .nil pass0 (qa_cons (qv 0) (qa_cons qe_int qa_nil))) qe_int))
      (qss_cons (qs_set (i := 4) sc_law.nd rfl (Or.inl rfl) (qe_call G_turned hr rfl m_turned F_turned.kp b_turned .nil pass0 (qa_cons (qe_op op_repTA (qe_tup (qa_cons qe_int qa_nil)) qe_int) qa_nil)))
      (qss_cons (qs_set (i := 5) sc_law.nd rfl (Or.inl rfl) (qe_call G_turned hr rfl m_turned F_turned.kp b_turned .nil pass0 (qa_cons (qv 1) qa_nil)))
      (qss_cons (qs_set (i := 6) sc_law.nd rfl (Or.inl rfl) (qe_call G_turned hr rfl m_turned F_turned.kp b_turned .nil pass0 (qa_cons (qv 2) qa_nil)))
      (qss_cons (qs_set (i := 7) sc_law.nd rfl (Or.inl rfl) (qe_call G_turned hr rfl m_turned F_turned.kp b_turned .nil pass0 (qa_cons (qe_callTy call_tuple_of rfl m_tuple bt_tuple (qa_cons (qe_lc2 rfl (lc_free (fr := []) (js := []) (sc := defScope s_law) rfl rfl rfl (by decide +kernel) (by decide +kernel) (by decide +kernel) (by decide +kernel) (by exact trivial) (by decide +kernel) (fun y hy => cell_has hy)) rfl (by decide) (qi_zip rfl m_zip (qa_cons (qv 1) (qa_cons (qv 2) qa_nil))) (fun _ _ _ _ _ => (qe_op op_add (qv 0) (qv 1)))) qa_nil)) qa_nil)))
      (qss_cons (qs_set (i := 8) sc_law.nd rfl (Or.inl rfl) (qe_call G_turned hr rfl m_turned F_turned.kp b_turned .nil pass0 (qa_cons (qe_callTy call_tuple_of rfl m_tuple bt_tuple (qa_cons (qe_lc rfl (lc_free (fr := ["_law_many"]) (js := [3]) (sc := defScope s_law) rfl rfl rfl (by decide +kernel) (by decide +kernel) (by decide +kernel) (by decide +kernel) (by exact ⟨⟨rfl, rfl, rfl⟩, trivial⟩) (by decide +kernel) (fun y hy => cell_has hy)) (qi_tup (qv 1)) (fun _ _ _ _ _ => (qe_op op_mul (qv 1) (qv 0)))) qa_nil)) qa_nil)))
      (qss_cons (qs_if (qt_not (qt_truth (qe_callB (call_all rfl) rfl m_all bt_all (qa_cons (qe_lc rfl (lc_free (fr := []) (js := []) (sc := defScope s_law) rfl rfl rfl (by decide +kernel) (by decide +kernel) (by decide +kernel) (by decide +kernel) (by exact trivial) (by decide +kernel) (fun y hy => cell_has hy)) (qi_list (qe_lst (qa_cons (qv 4) (qa_cons (qv 5) (qa_cons (qv 6) (qa_cons (qv 7) (qa_cons (qv 8) qa_nil))))))) (fun _ _ _ _ _ => (qe_call G__law_good hr rfl m__law_good F__law_good.kp b__law_good .nil pass0 (qa_cons (qv 0) qa_nil)))) qa_nil)) (fun _ => rfl))) (qss_one (qs_ret qe_bl)) qss_nil)
      (qss_cons (qs_for PassesOwn.never rfl (qi_range1 rfl m_range (qa_cons qe_int qa_nil)) (qg_name (i := 9) sc_law.nd rfl (Or.inl rfl)) (qss_cons (qs_if (qt_cmpR op_ne (qe_op op_add (qe_ix ix_tup (qv 7) (qv 9) (fun _ _ => rfl)) (qe_ix ix_tup (qv 4) (qv 9) (fun _ _ => rfl))) (qe_op op_add (qe_ix ix_tup (qv 5) (qv 9) (fun _ _ => rfl)) (qe_ix ix_tup (qv 6) (qv 9) (fun _ _ => rfl))) (nomark _)) (qss_one (qs_ret qe_bl)) qss_nil)
      (qss_one (qs_if (qt_cmpR op_ne (qe_ix ix_tup (qv 8) (qv 9) (fun _ _ => rfl)) (qe_op op_add (qe_ix ix_tup (qv 4) (qv 9) (fun _ _ => rfl)) (qe_op op_mul (qv 3) (qe_op op_sub (qe_ix ix_tup (qv 5) (qv 9) (fun _ _ => rfl)) (qe_ix ix_tup (qv 4) (qv 9) (fun _ _ => rfl))))) (nomark _)) (qss_one (qs_ret qe_bl)) qss_nil))))
      (qss_one (qs_ret (qe_cmpR (op_eqTI hE) (qe_call G_turned hr rfl m_turned F_turned.kp b_turned .nil pass0 (qa_cons (qv 1) qa_nil)) (qv 5) (nomark _)))))))))))))), ?_⟩
  have tl : ∀ ns : List Nat, (turnT ns).length = 15 := turn_len
  refine setQ (fun v => [some (.ref a), some v, none, none, none, none, none, none, none, none]) (fun _ => rfl) (fun v H' => ∃ p o, v = .ref p ∧ Same H H' ∧ SqT K H' p (List.map nv o) ∧ o.length = 15) (fun R r => ⟨_, rfl, a, 0, ns, rfl, hl, by decide, by decide, fun p o H2 S2 h2 l2 => r _ _ ⟨p, o, rfl, S2, h2, l2⟩⟩) (fun v1 H1 h1 => ?_)
  obtain ⟨p1, o1, rfl, S1, q1, l1⟩ := h1
  refine setQ (fun v => [some (.ref a), some (.ref p1), some v, none, none, none, none, none, none, none]) (fun _ => rfl) (fun v H' => ∃ p o, v = .ref p ∧ Same H1 H' ∧ SqT K H' p (List.map nv o) ∧ o.length = 15) (fun R r => ⟨_, rfl, a, 15, ns, rfl, S1.seq hl, by decide, by decide, fun p o H2 S2 h2 l2 => r _ _ ⟨p, o, rfl, S2, h2, l2⟩⟩) (fun v2 H2 h2 => ?_)
  obtain ⟨p2, o2, rfl, S2, q2, l2⟩ := h2
  refine setQ (fun v => [some (.ref a), some (.ref p1), some (.ref p2), some v, none, none, none, none, none, none]) (fun _ => rfl) (fun v H' => ∃ m : Nat, v = nv m ∧ m ≤ 1000 ∧ Same H2 H') (fun R r => ⟨_, rfl, a, 30, ns, rfl, (S1.trans S2).seq hl, by decide, by decide, fun i H3 S3 => ⟨_, _, rfl, rfl, (by show (0 : Int) < 1001; decide), ?_⟩⟩) (fun v3 H3 h3 => ?_)
  · have e0 := Int.emod_nonneg i (b := 1001) (by decide)
    have e1 := Int.emod_lt_of_pos i (b := 1001) (by decide)
    exact r _ _ ⟨(i % 1001).toNat, congrArg V.int (Int.toNat_of_nonneg e0).symm, by omega, S3⟩
  obtain ⟨m, rfl, hm, S3⟩ := h3
  have q13 := sqT_mono (.of (S2.trans S3)) q1
  have q23 := sqT_mono (.of S3) q2
  refine setQ (fun v => [some (.ref a), some (.ref p1), some (.ref p2), some (nv m), some v, none, none, none, none, none]) (fun _ => rfl) (fun v H' => ∃ p, v = .ref p ∧ Same H3 H' ∧ SqT K H' p ((turnT (List.replicate 15 0)).map nv)) (fun R r => ⟨(by show 1 ≤ sizeLine; decide), fun p4 g4 => ⟨p4, 15, [.int 0], rfl, rfl, SqT.of upd_same, by decide, by decide, (by show 1 * 15 ≤ sizeLine; decide), fun p5 H5 S5 h5 => ⟨p5, List.replicate 15 0, rfl, h5, rfl, fun p6 H6 S6 h6 => r _ _ ⟨p6, rfl, (same_new g4 _).trans (S5.trans S6), h6⟩⟩⟩⟩) (fun v4 H4 h4 => ?_)
  obtain ⟨p4, rfl, S4, q4⟩ := h4
  have q14 := sqT_mono (.of S4) q13
  have q24 := sqT_mono (.of S4) q23
  refine setQ (fun v => [some (.ref a), some (.ref p1), some (.ref p2), some (nv m), some (.ref p4), some v, none, none, none, none]) (fun _ => rfl) (fun v H' => ∃ p, v = .ref p ∧ Same H4 H' ∧ SqT K H' p ((turnT o1).map nv)) (fun R r => ⟨_, rfl, p1, o1, rfl, q14, l1, fun p6 H6 S6 h6 => r _ _ ⟨p6, rfl, S6, h6⟩⟩) (fun v5 H5 h5 => ?_)
  obtain ⟨p5, rfl, S5, q5⟩ := h5
  refine setQ (fun v => [some (.ref a), some (.ref p1), some (.ref p2), some (nv m), some (.ref p4), some (.ref p5), some v, none, none, none]) (fun _ => rfl) (fun v H' => ∃ p, v = .ref p ∧ Same H5 H' ∧ SqT K H' p ((turnT o2).map nv)) (fun R r => ⟨_, rfl, p2, o2, rfl, sqT_mono (.of S5) q24, l2, fun p6 H6 S6 h6 => r _ _ ⟨p6, rfl, S6, h6⟩⟩) (fun v6 H6 h6 => ?_)
  obtain ⟨p6, rfl, S6, q6⟩ := h6
  have S46 := S5.trans S6
  have q16 := sqT_mono (.of S46) q14
  have q26 := sqT_mono (.of S46) q24
  have l12 : (o1.zipWith (· + ·) o2).length = 15 := by rw [List.length_zipWith, l1, l2]; rfl
  refine setQ (fun v => [some (.ref a), some (.ref p1), some (.ref p2), some (nv m), some (.ref p4), some (.ref p5), some (.ref p6), some v, none, none]) (fun _ => rfl) (fun v H' => ∃ p, v = .ref p ∧ Same H6 H' ∧ SqT K H' p ((turnT (o1.zipWith (· + ·) o2)).map nv)) (fun R r => ⟨_, rfl, _, rfl, p1, p2, _, _, rfl, q16, q26, lc_add (K := K) (by omega) (by omega) q16 q26 (fun i j H' R r => ⟨_, rfl, _, rfl, _, _, rfl, rfl, r⟩) (fun D H' S hD => ⟨D, _, rfl, .inl ⟨SqL.of hD, fun l hl => ⟨l, _, rfl, SqT.of upd_same, l12, fun p7 H7 S7 h7 => r _ _ ⟨p7, rfl, S.trans ((same_new hl _).trans S7), h7⟩⟩⟩⟩)⟩) (fun v7 H7 h7 => ?_)
  obtain ⟨p7, rfl, S7, q7⟩ := h7
  have q17 := sqT_mono (.of S7) q16
  have lm : (o1.map (m * ·)).length = 15 := by rw [List.length_map, l1]
  refine setQ (fun v => [some (.ref a), some (.ref p1), some (.ref p2), some (nv m), some (.ref p4), some (.ref p5), some (.ref p6), some (.ref p7), some v, none]) (fun _ => rfl) (fun v H' => ∃ p, v = .ref p ∧ Same H7 H' ∧ SqT K H' p ((turnT (o1.map (m * ·))).map nv)) (fun R r => ⟨_, rfl, p1, rfl, ⟨_, q17⟩, lc_num (K := K) (ns := o1) (f := (m * ·)) (by omega) q17 (fun j H' R hj r1 => ?_) (fun D H' S hD => ⟨D, _, rfl, .inl ⟨SqL.of hD, fun l hl => ⟨l, _, rfl, SqT.of upd_same, lm, fun p8 H8 S8 h8 => r _ _ ⟨p8, rfl, S.trans ((same_new hl _).trans S8), h8⟩⟩⟩⟩)⟩) (fun v8 H8 h8 => ?_)
  · have big : (2 ^ 64 : Int) = 18446744073709551616 := by decide
    refine ⟨_, rfl, _, rfl, _, _, rfl, rfl, .inl ⟨by omega, by omega⟩, ?_⟩
    show R (V.int ((m : Int) * (j : Int))) H'
    rw [show V.int ((m : Int) * (j : Int)) = nv (m * j) from congrArg V.int (Int.natCast_mul _ _).symm]
    exact r1
  obtain ⟨p8, rfl, S8, q8⟩ := h8
  have q78 := sqT_mono (.of S8) q7
  have q68 := sqT_mono (.of (S7.trans S8)) q6
  have q58 := sqT_mono (.of (S6.trans (S7.trans S8))) q5
  have q48 := sqT_mono (.of (S46.trans (S7.trans S8))) q4
  -- all good
  refine ⟨_, rfl, _, rfl, _, rfl, _, rfl, _, rfl, (by show 5 ≤ sizeLine; decide), fun p9 g9 => ?_⟩
  have S9 := same_new g9 (.lst [.ref p4, .ref p5, .ref p6, .ref p7, .ref p8])
  refine ⟨p9, rfl, ⟨_, SqL.of upd_same⟩, ?_⟩
  have hall : ∀ x ∈ ([.ref p4, .ref p5, .ref p6, .ref p7, .ref p8] : List V), ∃ p o, x = V.ref p ∧ SqT K H8 p (List.map nv o) ∧ o.length = 15 := by
    intro x hx
    simp only [List.mem_cons, List.not_mem_nil, or_false] at hx
    rcases hx with rfl | rfl | rfl | rfl | rfl
    · exact ⟨p4, _, rfl, q48, tl _⟩
    · exact ⟨p5, _, rfl, q58, tl _⟩
    · exact ⟨p6, _, rfl, q68, tl _⟩
    · exact ⟨p7, _, rfl, q78, tl _⟩
    · exact ⟨p8, _, rfl, q8, tl _⟩
  refine lc_listI (K := K) (xs := [.ref p4, .ref p5, .ref p6, .ref p7, .ref p8]) (fun D i ys H' => D ≠ p9 ∧ H8 D = none ∧ Same H8 H' ∧ H' p9 = some (.lst [.ref p4, .ref p5, .ref p6, .ref p7, .ref p8]) ∧ H' D = some (.lst ys) ∧ ys = List.replicate i (.bl true)) (by show 5 ≤ sizeLine; decide) (fun D hD => ?_) (fun D i ys H' j => ⟨j.2.2.2.2.1, by rw [j.2.2.2.2.2, List.length_replicate], SqL.of j.2.2.2.1⟩) (fun D i x ys H' R hx j hR => ?_) (fun D ys H' j => ?_)
  · have hne : D ≠ p9 := fun z => by rw [z, upd_same] at hD; cases hD
    exact ⟨hne, S9.free hD, S9.trans (same_new hD _), by rw [upd_ne hne.symm]; exact upd_same, upd_same, rfl⟩
  · obtain ⟨hne, hD, S, h9, h1, h2⟩ := j
    obtain ⟨p, o, rfl, hp, lo⟩ := hall x (List.mem_of_getElem? hx)
    refine ⟨_, rfl, p, o, rfl, sqT_mono (.of S) hp, lo, fun H3 S3 => hR _ _ (S3 _ _ h1) ⟨hne, hD, same_upd (S.trans S3) hD, by rw [upd_ne hne.symm]; exact S3 _ _ h9, upd_same, by rw [h2, ← List.replicate_succ']⟩⟩
  obtain ⟨hne, hD, S10, h9, h1, h2⟩ := j
  refine ⟨D, List.replicate 5 true, rfl, SqL.of (by rw [h1, h2]; rfl), ?_⟩
  refine ⟨_, rfl, iteF ?_⟩
  dsimp only [tNext]
  have q4' := sqT_mono (.of S10) q48
  have q5' := sqT_mono (.of S10) q58
  have q6' := sqT_mono (.of S10) q68
  have q7' := sqT_mono (.of S10) q78
  have q8' := sqT_mono (.of S10) q8
  have q1' := sqT_mono (.of (S8.trans S10)) q17
  refine ⟨15, rfl, by decide, by decide, ?_⟩
  refine for_range (n := 15) (fun i σ' H2 => ∃ o9, σ' = [some (.ref a), some (.ref p1), some (.ref p2), some (nv m), some (.ref p4), some (.ref p5), some (.ref p6), some (.ref p7), some (.ref p8), o9] ∧ H2 = H') ⟨_, rfl, rfl⟩ ?_ ?_
  · rintro i σ' H2 hi ⟨o9, rfl, rfl⟩
    have e : (0 : Int) + (i : Int) = (i : Int) := by omega
    have big : (2 ^ 64 : Int) = 18446744073709551616 := by decide
    dsimp only [gName]
    have g0 := turn_get (List.replicate 15 0) hi
    have g1 := turn_get o1 hi
    have g2 := turn_get o2 hi
    have g3 := turn_get (o1.zipWith (· + ·) o2) hi
    have g4 := turn_get (o1.map (m * ·)) hi
    rw [dotR_zero] at g0
    rw [dotR_add (by omega)] at g3
    rw [dotR_mul] at g4
    rw [e]
    refine ⟨_, rfl, _, rfl, p7, _, _, _, rfl, rfl, q7', nv_at (k := i) (by rw [tl]; exact hi), _, rfl, _, rfl, p4, _, _, _, rfl, rfl, q4', nv_at (k := i) (by rw [tl]; exact hi), _, _, rfl, rfl, _, rfl, _, rfl, p5, _, _, _, rfl, rfl, q5', nv_at (k := i) (by rw [tl]; exact hi), _, rfl, _, rfl, p6, _, _, _, rfl, rfl, q6', nv_at (k := i) (by rw [tl]; exact hi), _, _, rfl, rfl, rfl, _, rfl, ?_⟩
    rw [g0, g1, g2, g3, show (!decide (V.int (((alwaysN.getD i 0 + (dotR o1 eachN i + dotR o2 eachN i) : Nat) : Int) + ((alwaysN.getD i 0 + 0 : Nat) : Int)) = V.int (((alwaysN.getD i 0 + dotR o1 eachN i : Nat) : Int) + ((alwaysN.getD i 0 + dotR o2 eachN i : Nat) : Int)))) = false by rw [decide_eq_true (congrArg V.int (by omega))]; rfl]
    refine iteF ?_
    dsimp only [tNext]
    refine ⟨_, rfl, _, rfl, p8, _, _, _, rfl, rfl, q8', nv_at (k := i) (by rw [tl]; exact hi), _, rfl, _, rfl, p4, _, _, _, rfl, rfl, q4', nv_at (k := i) (by rw [tl]; exact hi), _, rfl, _, rfl, _, rfl, p5, _, _, _, rfl, rfl, q5', nv_at (k := i) (by rw [tl]; exact hi), _, rfl, _, rfl, p4, _, _, _, rfl, rfl, q4', nv_at (k := i) (by rw [tl]; exact hi), _, _, rfl, rfl, _, _, rfl, rfl, .inl ⟨by omega, by omega⟩, _, _, rfl, rfl, rfl, _, rfl, ?_⟩
    rw [g0, g1, g4]
    have e2 : ((alwaysN.getD i 0 + m * dotR o1 eachN i : Nat) : Int) = ((alwaysN.getD i 0 + 0 : Nat) : Int) + (m : Int) * (((alwaysN.getD i 0 + dotR o1 eachN i : Nat) : Int) - ((alwaysN.getD i 0 + 0 : Nat) : Int)) := by
      rw [show ((alwaysN.getD i 0 + dotR o1 eachN i : Nat) : Int) - ((alwaysN.getD i 0 + 0 : Nat) : Int) = ((dotR o1 eachN i : Nat) : Int) by omega, ← Int.natCast_mul]
      omega
    rw [show (!decide (V.int ((alwaysN.getD i 0 + m * dotR o1 eachN i : Nat) : Int) = V.int (((alwaysN.getD i 0 + 0 : Nat) : Int) + (m : Int) * (((alwaysN.getD i 0 + dotR o1 eachN i : Nat) : Int) - ((alwaysN.getD i 0 + 0 : Nat) : Int))))) = false by rw [decide_eq_true (congrArg V.int e2)]; rfl]
    refine iteF ?_
    exact ⟨_, rfl, rfl⟩
  · rintro σ' H2 ⟨o9, rfl, rfl⟩
    refine ⟨_, rfl, p1, o1, rfl, q1', l1, fun p10 H3 S3 h10 => ⟨_, rfl, p10, p5, (turnT o1).map fun n : Nat => (n : Int), (turnT o1).map fun n : Nat => (n : Int), rfl, rfl, by rw [← nv_int]; exact h10, by rw [← nv_int]; exact sqT_mono (.of S3) q5', ?_⟩⟩
    rw [decide_eq_true rfl]
    exact q _
end
end Sw60

namespace Sw60
open PySem PySem.Spec PyProof.Rows L2 Sw
theorem all_mk {l : PySem.W.OpenLaw} {w : World} {K : PySem.W.Frag} {h : Heap} {mg : Str → Option Value} {fa f1 f2 f3 f4 f5 f6 : Addr} (X : K.In h) (G : h.Ns mainGlobals mg) (hfa : mg "law" = some (.ref fa))  {bE0 bE1 bE2 bE3 bE4 bE5 bE6 bE7 bE8 bE9 bE10 bE11 bE12 bE13 bE14 : Addr} {oE0 oE1 oE2 oE3 oE4 oE5 oE6 oE7 oE8 oE9 oE10 oE11 oE12 oE13 oE14 : Obj} {a_ALWAYS : Addr} {o_ALWAYS : Obj} {a_EACH : Addr} {o_EACH : Obj}
    {od1 an1 od2 an2 od3 an3 od4 an4 od5 an5 od6 an6 : Option Addr} {sl1 sl2 sl3 sl4 sl5 sl6 : Array (Option Value)} {oc1 kV1 dc1 pm1 cd1 ct1 oc2 kV2 dc2 pm2 cd2 ct2 oc3 kV3 dc3 pm3 cd3 ct3 oc4 kV4 dc4 pm4 cd4 ct4 oc5 kV5 dc5 pm5 cd5 ct5 oc6 kV6 dc6 pm6 cd6 ct6 : Value}
    (a1 : PySem.W.nsIn K mainGlobals "added" = some (some (.ref f1))) (l1 : K.lookup f1 = some ⟨oc1, od1, .func (PySem.W.fnOf "added" "added" (defArgs s_added) (defBody s_added) (defScope s_added) .none kV1 dc1 pm1 an1 cd1 ct1), sl1⟩) (c1 : PySem.W.codeIn K cd1 "added" = true) (k1 : PySem.W.keepIn K (.ref f1) = true)
    (a2 : PySem.W.nsIn K mainGlobals "turned" = some (some (.ref f2))) (l2 : K.lookup f2 = some ⟨oc2, od2, .func (PySem.W.fnOf "turned" "turned" (defArgs s_turned) (defBody s_turned) (defScope s_turned) .none kV2 dc2 pm2 an2 cd2 ct2), sl2⟩) (c2 : PySem.W.codeIn K cd2 "turned" = true) (k2 : PySem.W.keepIn K (.ref f2) = true)
    (a3 : PySem.W.nsIn K mainGlobals "_law_cell_at" = some (some (.ref f3))) (l3 : K.lookup f3 = some ⟨oc3, od3, .func (PySem.W.fnOf "_law_cell_at" "_law_cell_at" (defArgs s__law_cell_at) (defBody s__law_cell_at) (defScope s__law_cell_at) .none kV3 dc3 pm3 an3 cd3 ct3), sl3⟩) (c3 : PySem.W.codeIn K cd3 "_law_cell_at" = true) (k3 : PySem.W.keepIn K (.ref f3) = true)
    (a4 : PySem.W.nsIn K mainGlobals "_law_tally" = some (some (.ref f4))) (l4 : K.lookup f4 = some ⟨oc4, od4, .func (PySem.W.fnOf "_law_tally" "_law_tally" (defArgs s__law_tally) (defBody s__law_tally) (defScope s__law_tally) .none kV4 dc4 pm4 an4 cd4 ct4), sl4⟩) (c4 : PySem.W.codeIn K cd4 "_law_tally" = true) (k4 : PySem.W.keepIn K (.ref f4) = true)
    (a5 : PySem.W.nsIn K mainGlobals "_law_good" = some (some (.ref f5))) (l5 : K.lookup f5 = some ⟨oc5, od5, .func (PySem.W.fnOf "_law_good" "_law_good" (defArgs s__law_good) (defBody s__law_good) (defScope s__law_good) .none kV5 dc5 pm5 an5 cd5 ct5), sl5⟩) (c5 : PySem.W.codeIn K cd5 "_law_good" = true) (k5 : PySem.W.keepIn K (.ref f5) = true)
    (a6 : PySem.W.nsIn K mainGlobals "law" = some (some (.ref f6))) (l6 : K.lookup f6 = some ⟨oc6, od6, .func (PySem.W.fnOf "law" "law" (defArgs s_law) (defBody s_law) (defScope s_law) .none kV6 dc6 pm6 an6 cd6 ct6), sl6⟩) (c6 : PySem.W.codeIn K cd6 "law" = true) (k6 : PySem.W.keepIn K (.ref f6) = true)
    (e_ALWAYS : PySem.W.nsIn K mainGlobals "ALWAYS" = some (some (.ref a_ALWAYS)))
    (l_ALWAYS : K.lookup a_ALWAYS = some o_ALWAYS)
    (t_ALWAYS : TupO o_ALWAYS [.int 2, .int 2, .int 0, .int 1, .int 2, .int 2, .int 2, .int 0, .int 0, .int 0, .int 1, .int 0, .int 1, .int 0, .int 0])
    (e_EACH : PySem.W.nsIn K mainGlobals "EACH" = some (some (.ref a_EACH)))
    (l_EACH : K.lookup a_EACH = some o_EACH)
    (t_EACH : TupO o_EACH [.ref bE0, .ref bE1, .ref bE2, .ref bE3, .ref bE4, .ref bE5, .ref bE6, .ref bE7, .ref bE8, .ref bE9, .ref bE10, .ref bE11, .ref bE12, .ref bE13, .ref bE14])
    (lE0 : K.lookup bE0 = some oE0) (tE0 : TupO oE0 [.int 0, .int 1, .int 0, .int 1, .int 2, .int 3, .int 4, .int 1, .int 1, .int 1, .int 0, .int 0, .int 3, .int 0, .int 1169])
    (lE1 : K.lookup bE1 = some oE1) (tE1 : TupO oE1 [.int 0, .int 4, .int 0, .int 3, .int 1, .int 5, .int 0, .int 2, .int 1, .int 1, .int 0, .int 0, .int 4, .int 0, .int 1169])
    (lE2 : K.lookup bE2 = some oE2) (tE2 : TupO oE2 [.int 0, .int 4, .int 1, .int 6, .int 3, .int 6, .int 1, .int 3, .int 1, .int 1, .int 0, .int 0, .int 5, .int 0, .int 1169])
    (lE3 : K.lookup bE3 = some oE3) (tE3 : TupO oE3 [.int 0, .int 5, .int 0, .int 8, .int 3, .int 8, .int 1, .int 4, .int 1, .int 1, .int 0, .int 0, .int 6, .int 0, .int 1169])
    (lE4 : K.lookup bE4 = some oE4) (tE4 : TupO oE4 [.int 0, .int 6, .int 0, .int 7, .int 3, .int 9, .int 1, .int 5, .int 1, .int 1, .int 0, .int 0, .int 7, .int 0, .int 1169])
    (lE5 : K.lookup bE5 = some oE5) (tE5 : TupO oE5 [.int 0, .int 7, .int 0, .int 8, .int 3, .int 10, .int 2, .int 6, .int 1, .int 1, .int 0, .int 0, .int 8, .int 0, .int 1169])
    (lE6 : K.lookup bE6 = some oE6) (tE6 : TupO oE6 [.int 0, .int 8, .int 0, .int 12, .int 4, .int 12, .int 2, .int 7, .int 1, .int 1, .int 0, .int 0, .int 9, .int 0, .int 1169])
    (lE7 : K.lookup bE7 = some oE7) (tE7 : TupO oE7 [.int 0, .int 9, .int 0, .int 9, .int 3, .int 12, .int 4, .int 9, .int 1, .int 1, .int 0, .int 0, .int 11, .int 0, .int 1169])
    (lE8 : K.lookup bE8 = some oE8) (tE8 : TupO oE8 [.int 0, .int 9, .int 0, .int 8, .int 3, .int 12, .int 4, .int 8, .int 2, .int 1, .int 0, .int 0, .int 11, .int 0, .int 1169])
    (lE9 : K.lookup bE9 = some oE9) (tE9 : TupO oE9 [.int 0, .int 0, .int 1, .int 19, .int 15, .int 14, .int 7, .int 10, .int 1, .int 1, .int 0, .int 0, .int 12, .int 0, .int 1169])
    (lE10 : K.lookup bE10 = some oE10) (tE10 : TupO oE10 [.int 0, .int 1, .int 0, .int 17, .int 11, .int 12, .int 4, .int 9, .int 2, .int 1, .int 0, .int 0, .int 12, .int 0, .int 1169])
    (lE11 : K.lookup bE11 = some oE11) (tE11 : TupO oE11 [.int 0, .int 10, .int 0, .int 8, .int 1, .int 11, .int 0, .int 10, .int 0, .int 1, .int 0, .int 0, .int 11, .int 0, .int 1169])
    (lE12 : K.lookup bE12 = some oE12) (tE12 : TupO oE12 [.int 0, .int 1, .int 0, .int 0, .int 0, .int 1, .int 0, .int 0, .int 1, .int 1, .int 0, .int 0, .int 2, .int 0, .int 1169])
    (lE13 : K.lookup bE13 = some oE13) (tE13 : TupO oE13 [.int 0, .int 0, .int 0, .int 0, .int 0, .int 0, .int 0, .int 0, .int 0, .int 0, .int 0, .int 0, .int 0, .int 1, .int 0])
    (lE14 : K.lookup bE14 = some oE14) (tE14 : TupO oE14 [.int 0, .int 0, .int 0, .int 0, .int 0, .int 0, .int 0, .int 0, .int 0, .int 0, .int 0, .int 0, .int 0, .int 1, .int 0])
    (z_tuple : PySem.W.nsIn K mainGlobals "tuple" = some none) (z_zip : PySem.W.nsIn K mainGlobals "zip" = some none) (z_len : PySem.W.nsIn K mainGlobals "len" = some none) (z_range : PySem.W.nsIn K mainGlobals "range" = some none) (z_isinstance : PySem.W.nsIn K mainGlobals "isinstance" = some none) (z_all : PySem.W.nsIn K mainGlobals "all" = some none) (z_bool : PySem.W.nsIn K mainGlobals "bool" = some none) (z_int : PySem.W.nsIn K mainGlobals "int" = some none) :
    ∃ fd : FuncData, (∀ (s : Shared) (v : Value), BindsTo s fd ⟨[v], []⟩ [("_law_script", v)]) ∧ ∀ base : Heap, K.In base → base.Ns mainGlobals mg → FnOk l.prog w K mg base CX0 34 fa fd ["_law_script"] (spLaw K) := by
  have e := hfa.symm.trans (PySem.W.mg_of X G a6)
  cases e
  have F1 := fun_mk (st := s_added) l1 c1 k1
  have F2 := fun_mk (st := s_turned) l2 c2 k2
  have F3 := fun_mk (st := s__law_cell_at) l3 c3 k3
  have F4 := fun_mk (st := s__law_tally) l4 c4 k4
  have F5 := fun_mk (st := s__law_good) l5 c5 k5
  have F6 := fun_mk (st := s_law) l6 c6 k6
  have b1 := F1.binds (ps := ["one", "other"]) fun _ _ _ _ _ _ us hl => match us, hl with | [_, _], _ => rfl
  have m1 := PySem.W.mg_of X G a1
  have b2 := F2.binds (ps := ["tally"]) fun _ _ _ _ _ _ us hl => match us, hl with | [_], _ => rfl
  have m2 := PySem.W.mg_of X G a2
  have b3 := F3.binds (ps := ["_law_script", "_law_k"]) fun _ _ _ _ _ _ us hl => match us, hl with | [_, _], _ => rfl
  have m3 := PySem.W.mg_of X G a3
  have b4 := F4.binds (ps := ["_law_script", "_law_start"]) fun _ _ _ _ _ _ us hl => match us, hl with | [_, _], _ => rfl
  have m4 := PySem.W.mg_of X G a4
  have b5 := F5.binds (ps := ["_law_tally_here"]) fun _ _ _ _ _ _ us hl => match us, hl with | [_], _ => rfl
  have m5 := PySem.W.mg_of X G a5
  have m_tuple := PySem.W.mg_none_of X G z_tuple
  have m_zip := PySem.W.mg_none_of X G z_zip
  have m_len := PySem.W.mg_none_of X G z_len
  have m_range := PySem.W.mg_none_of X G z_range
  have m_isinstance := PySem.W.mg_none_of X G z_isinstance
  have m_all := PySem.W.mg_none_of X G z_all
  have m_bool := PySem.W.mg_none_of X G z_bool
  have m_int := PySem.W.mg_none_of X G z_int
  have m_ALWAYS := PySem.W.mg_of X G e_ALWAYS
  have q_ALWAYS := fun H => t_ALWAYS.sq (H := H) l_ALWAYS
  have m_EACH := PySem.W.mg_of X G e_EACH
  have q_EACH := fun H => t_EACH.sq (H := H) l_EACH
  have q_EACH : ∀ H, RowsO K H a_EACH eachN := fun H => ⟨_, q_EACH H, .cons ⟨bE0, rfl, tE0.sq lE0⟩ (.cons ⟨bE1, rfl, tE1.sq lE1⟩ (.cons ⟨bE2, rfl, tE2.sq lE2⟩ (.cons ⟨bE3, rfl, tE3.sq lE3⟩ (.cons ⟨bE4, rfl, tE4.sq lE4⟩ (.cons ⟨bE5, rfl, tE5.sq lE5⟩ (.cons ⟨bE6, rfl, tE6.sq lE6⟩ (.cons ⟨bE7, rfl, tE7.sq lE7⟩ (.cons ⟨bE8, rfl, tE8.sq lE8⟩ (.cons ⟨bE9, rfl, tE9.sq lE9⟩ (.cons ⟨bE10, rfl, tE10.sq lE10⟩ (.cons ⟨bE11, rfl, tE11.sq lE11⟩ (.cons ⟨bE12, rfl, tE12.sq lE12⟩ (.cons ⟨bE13, rfl, tE13.sq lE13⟩ (.cons ⟨bE14, rfl, tE14.sq lE14⟩ (.nil)))))))))))))))⟩
  refine ⟨PySem.W.fnOf "law" "law" (defArgs s_law) (defBody s_law) (defScope s_law) .none kV6 dc6 pm6 an6 cd6 ct6, fun s v => .of_eq rfl, fun base _ _ => ?_⟩
  have O1 := ok_added (P := l.prog) (w := w) (mg := mg) (base := base) m_tuple m_zip F1
  have O3 := ok__law_cell_at (P := l.prog) (w := w) (mg := mg) (base := base) m_len F3
  have O5 := ok__law_good (P := l.prog) (w := w) (mg := mg) (base := base) m_len m_isinstance m_tuple m_all m_bool m_int F5
  have O2 := ok_turned (P := l.prog) (w := w) (mg := mg) (base := base) m_zip m_tuple m_ALWAYS q_ALWAYS m_EACH q_EACH F1 (O1.mono (by decide)) b1 m1 F2
  have O4 := ok__law_tally (P := l.prog) (w := w) (mg := mg) (base := base) m_range m_tuple F3 (O3.mono (by decide)) b3 m3 F4
  exact ok_law (P := l.prog) (w := w) (mg := mg) (base := base) m_tuple m_zip m_all m_range F4 (O4.mono (by decide)) b4 m4 F3 (O3.mono (by decide)) b3 m3 F2 (O2.mono (by decide)) b2 m2 F5 (O5.mono (by decide)) b5 m5 F6
theorem walk {l : PySem.W.OpenLaw} {q : Program} {loose : List Str} {XP : (Str → Option Value) → Heap → Prop} {YP : World → Heap → Prop} {d : DefRec} {K : Params → PySem.W.Frag} (hn : l.most = some 63) (hdf : d.params.defaults = [])
    (hY : ∀ (w : World) (h : Heap), YP w h → (K w.params).In h)
    (F : ∀ (w : World) (mg : Str → Option Value) (fa : Addr) (h : Heap), (K w.params).In h → h.Ns mainGlobals mg → mg d.name = some (.ref fa) →
      ∃ fd : FuncData, (∀ (s : Shared) (u : Value), BindsTo s fd ⟨[u], []⟩ [("_law_script", u)]) ∧ ∀ base : Heap, (K w.params).In base → base.Ns mainGlobals mg → FnOk l.prog w (K w.params) mg base CX0 34 fa fd ["_law_script"] (spLaw (K w.params))) :
    PySem.W.WalkO q loose XP YP l.row.toRowW d [] (fun f vs => PySem.call f vs) :=
  L2.walk_of (n := 63) (k := 34) (x := "_law_script") (CX := fun _ => CX0) (sp := fun w => spLaw (K w.params)) hn (by decide) hdf ⟨rfl, by decide, by decide⟩ hY F (fun _ _ a ns hl _ hS => ⟨a, ns, rfl, hS, hl, fun _ => rfl⟩) fun _ _ _ _ _ z => z
end Sw60
open PySem PySem.W PyProof.Rows
set_option maxRecDepth 100000 in
set_option maxHeartbeats 0 in
theorem PySem.Challenge.cw_selfword_k60_one_form_holds : PySem.Challenge.rw_selfword_k60_one_form.Holds := by
  w_on; o_law; k_head; (case hw => w_witness2)
  k_fill
  refine Sw60.walk (l := PySem.Challenge.rw_selfword_k60_one_form) rfl rfl (fun w h Y => PySem.W.kIn_of Y) ?F
  case F =>
    intro w mg fa h KX G hmg
    refine' Sw60.all_mk KX G hmg ?a1 ?l1 ?c1 ?k1 ?a2 ?l2 ?c2 ?k2 ?a3 ?l3 ?c3 ?k3 ?a4 ?l4 ?c4 ?k4 ?a5 ?l5 ?c5 ?k5 ?a6 ?l6 ?c6 ?k6 ?e_ALWAYS ?l_ALWAYS ?t_ALWAYS ?e_EACH ?l_EACH ?t_EACH ?lE0 ?tE0 ?lE1 ?tE1 ?lE2 ?tE2 ?lE3 ?tE3 ?lE4 ?tE4 ?lE5 ?tE5 ?lE6 ?tE6 ?lE7 ?tE7 ?lE8 ?tE8 ?lE9 ?tE9 ?lE10 ?tE10 ?lE11 ?tE11 ?lE12 ?tE12 ?lE13 ?tE13 ?lE14 ?tE14 ?z_tuple ?z_zip ?z_len ?z_range ?z_isinstance ?z_all ?z_bool ?z_int
    (case a1 => k_is); (case l1 => k_is); (case c1 => k_is); (case k1 => k_is)
    (case a2 => k_is); (case l2 => k_is); (case c2 => k_is); (case k2 => k_is)
    (case a3 => k_is); (case l3 => k_is); (case c3 => k_is); (case k3 => k_is)
    (case a4 => k_is); (case l4 => k_is); (case c4 => k_is); (case k4 => k_is)
    (case a5 => k_is); (case l5 => k_is); (case c5 => k_is); (case k5 => k_is)
    (case a6 => k_is); (case l6 => k_is); (case c6 => k_is); (case k6 => k_is)
    (case e_ALWAYS => k_is)
    (case l_ALWAYS => k_is)
    (case t_ALWAYS => exact ⟨_, _, rfl, rfl, by decide, by repeat (first | exact .nil | refine .cons ⟨_, rfl⟩ ?_)⟩)
    (case e_EACH => k_is)
    (case l_EACH => k_is)
    (case t_EACH => exact ⟨_, _, rfl, rfl, by decide, by repeat (first | exact .nil | refine .cons rfl ?_)⟩)
    (case lE0 => k_is)
    (case tE0 => exact ⟨_, _, rfl, rfl, by decide, by repeat (first | exact .nil | refine .cons ⟨_, rfl⟩ ?_)⟩)
    (case lE1 => k_is)
    (case tE1 => exact ⟨_, _, rfl, rfl, by decide, by repeat (first | exact .nil | refine .cons ⟨_, rfl⟩ ?_)⟩)
    (case lE2 => k_is)
    (case tE2 => exact ⟨_, _, rfl, rfl, by decide, by repeat (first | exact .nil | refine .cons ⟨_, rfl⟩ ?_)⟩)
    (case lE3 => k_is)
    (case tE3 => exact ⟨_, _, rfl, rfl, by decide, by repeat (first | exact .nil | refine .cons ⟨_, rfl⟩ ?_)⟩)
    (case lE4 => k_is)
    (case tE4 => exact ⟨_, _, rfl, rfl, by decide, by repeat (first | exact .nil | refine .cons ⟨_, rfl⟩ ?_)⟩)
    (case lE5 => k_is)
    (case tE5 => exact ⟨_, _, rfl, rfl, by decide, by repeat (first | exact .nil | refine .cons ⟨_, rfl⟩ ?_)⟩)
    (case lE6 => k_is)
    (case tE6 => exact ⟨_, _, rfl, rfl, by decide, by repeat (first | exact .nil | refine .cons ⟨_, rfl⟩ ?_)⟩)
    (case lE7 => k_is)
    (case tE7 => exact ⟨_, _, rfl, rfl, by decide, by repeat (first | exact .nil | refine .cons ⟨_, rfl⟩ ?_)⟩)
    (case lE8 => k_is)
    (case tE8 => exact ⟨_, _, rfl, rfl, by decide, by repeat (first | exact .nil | refine .cons ⟨_, rfl⟩ ?_)⟩)
    (case lE9 => k_is)
    (case tE9 => exact ⟨_, _, rfl, rfl, by decide, by repeat (first | exact .nil | refine .cons ⟨_, rfl⟩ ?_)⟩)
    (case lE10 => k_is)
    (case tE10 => exact ⟨_, _, rfl, rfl, by decide, by repeat (first | exact .nil | refine .cons ⟨_, rfl⟩ ?_)⟩)
    (case lE11 => k_is)
    (case tE11 => exact ⟨_, _, rfl, rfl, by decide, by repeat (first | exact .nil | refine .cons ⟨_, rfl⟩ ?_)⟩)
    (case lE12 => k_is)
    (case tE12 => exact ⟨_, _, rfl, rfl, by decide, by repeat (first | exact .nil | refine .cons ⟨_, rfl⟩ ?_)⟩)
    (case lE13 => k_is)
    (case tE13 => exact ⟨_, _, rfl, rfl, by decide, by repeat (first | exact .nil | refine .cons ⟨_, rfl⟩ ?_)⟩)
    (case lE14 => k_is)
    (case tE14 => exact ⟨_, _, rfl, rfl, by decide, by repeat (first | exact .nil | refine .cons ⟨_, rfl⟩ ?_)⟩)
    (case z_tuple => k_is)
    (case z_zip => k_is)
    (case z_len => k_is)
    (case z_range => k_is)
    (case z_isinstance => k_is)
    (case z_all => k_is)
    (case z_bool => k_is)
    (case z_int => k_is)
#print axioms PySem.Challenge.cw_selfword_k60_one_form_holds
