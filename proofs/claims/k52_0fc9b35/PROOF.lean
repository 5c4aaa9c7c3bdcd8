import PyProof.Rows.All
import Wide.All
import OpenK.AllK
import Wide.FinOn
import Lean
import PyProof.EqAt
import PyProof.EqKinds
import PyProof.TupleCall
import PySem.Challenge.RW_tellroads_k52_sources
set_option Elab.async false
set_option linter.all false
set_option maxRecDepth 100000
/-! THE HAND LAYER, for ints, bools, texts, own classes, LISTS and tuples (index, slices, in, append, pop ..), calls, loops. Paste it whole ahead of your own text; what your proof does not reach may be deleted. -/
namespace L2
open PySem PySem.Spec PyProof.Rows

/-- a key: an int or a str -/
abbrev Key := Sum Int Str
def keyIs : Key → Value → Bool
  | .inl k, v => Value.isInt k v
  | .inr x, v => Value.isStrOf x v
def keyH (w : World) : Key → Int
  | .inl k => hashInt k
  | .inr x => hashStr w x
theorem keyIs_shape : ∀ {k : Key} {v : Value}, keyIs k v = true → (∃ i t, k = Sum.inl i ∧ v = Value.int i t) ∨ (∃ x t, k = Sum.inr x ∧ v = Value.str x t)
  | .inl i, v, h => by
    obtain ⟨t, e⟩ := Value.isInt_shape (k := i) (v := v) h
    exact .inl ⟨i, t, rfl, e⟩
  | .inr x, v, h => by
    obtain ⟨t, e⟩ := Value.isStrOf_shape (x := x) (v := v) h
    exact .inr ⟨x, t, rfl, e⟩
theorem keyIs_int (i : Int) (t : Tok) : keyIs (.inl i) (.int i t) = true := by simp [keyIs, Value.isInt]
theorem keyIs_str (x : Str) (t : Tok) : keyIs (.inr x) (.str x t) = true := by simp [keyIs, Value.isStrOf]
theorem key_ll (a b : Int) : decide ((Sum.inl a : Key) = Sum.inl b) = (a == b) := by
  by_cases e : a = b
  · subst e; simp
  · have h : ¬ (Sum.inl a : Key) = Sum.inl b := fun q => e (Sum.inl.inj q)
    rw [decide_eq_false h]
    exact (beq_eq_false_iff_ne.mpr e).symm
theorem key_rr (a b : Str) : decide ((Sum.inr a : Key) = Sum.inr b) = decide (a = b) := by
  by_cases e : a = b
  · subst e; simp
  · have h : ¬ (Sum.inr a : Key) = Sum.inr b := fun q => e (Sum.inr.inj q)
    rw [decide_eq_false h, decide_eq_false e]
theorem key_lr (a : Int) (b : Str) : decide ((Sum.inl a : Key) = Sum.inr b) = false := decide_eq_false (fun q => nomatch q)
theorem key_rl (a : Str) (b : Int) : decide ((Sum.inr a : Key) = Sum.inl b) = false := decide_eq_false (fun q => nomatch q)

def mixKind (prog : Program) (w : World) : PySem.KeyKind prog w Key where
  is := keyIs
  hash := keyH w
  inj := fun v a b ha hb => by
    rcases keyIs_shape ha with ⟨i, t, rfl, rfl⟩ | ⟨x, t, rfl, rfl⟩
    · rcases keyIs_shape hb with ⟨j, u, rfl, e⟩ | ⟨y, u, rfl, e⟩
      · injection e with e1 _; rw [e1]
      · exact nomatch e
    · rcases keyIs_shape hb with ⟨j, u, rfl, e⟩ | ⟨y, u, rfl, e⟩
      · exact nomatch e
      · injection e with e1 _; rw [e1]
  byValue := fun k v h => by
    rcases keyIs_shape h with ⟨i, t, rfl, rfl⟩ | ⟨x, t, rfl, rfl⟩ <;> rfl
  pyHash := fun hv h => by
    rcases keyIs_shape hv with ⟨i, t, rfl, rfl⟩ | ⟨x, t, rfl, rfl⟩
    · exact wpAny_pyHash_int h
    · exact wpAny_pyHash_str h
  eqBool := fun hu hv h => by
    rcases keyIs_shape hu with ⟨i, t, rfl, rfl⟩ | ⟨x, t, rfl, rfl⟩
    · rcases keyIs_shape hv with ⟨j, u, rfl, rfl⟩ | ⟨y, u, rfl, rfl⟩
      · rw [key_ll] at h; exact wpAny_eqBool_int h
      · rw [key_lr] at h; exact SeqAt.EqAt.int_str i t y u _ _ _ _ h
    · rcases keyIs_shape hv with ⟨j, u, rfl, rfl⟩ | ⟨y, u, rfl, rfl⟩
      · rw [key_rl] at h; exact SeqAt.EqAt.str_int x t j u _ _ _ _ h
      · rw [key_rr] at h; exact wpAny_eqBool_str h
  «strs» := fun k x t v h => by
    rcases keyIs_shape h with ⟨i, u, rfl, e⟩ | ⟨y, u, rfl, e⟩
    · exact nomatch e
    · injection e with e1 _
      subst e1
      cases v <;> rfl

theorem mixKind_int (prog : Program) (w : World) (i : Int) (t : Tok) : (mixKind prog w).is (.inl i) (.int i t) = true := keyIs_int i t
theorem mixKind_str (prog : Program) (w : World) (x : Str) (t : Tok) : (mixKind prog w).is (.inr x) (.str x t) = true := keyIs_str x t
end L2

namespace L2
open PySem PySem.Spec PyProof.Rows

/-- a value, without the heap -/
inductive V where
  | non | bl (b : Bool) | int (i : Int) | str (x : Str) | byt (b : Array UInt8) | flt (b : UInt64) | ref (a : Addr) | ty (n : String)
  deriving DecidableEq

def RelV : V → Value → Prop
  | .non, u => u = Value.none
  | .bl b, u => u = Value.bool b
  | .int i, u => ∃ t, u = Value.int i t
  | .str x, u => ∃ t, u = Value.str x t
  | .byt b, u => ∃ t, u = Value.bytes b t
  | .flt b, u => ∃ t, u = Value.float b t
  | .ref a, u => u = Value.ref a
  | .ty n, u => u = Value.type n

abbrev Vals : List V → List Value → Prop := Paired RelV
theorem Vals.length {xs : List V} {us : List Value} (r : Vals xs us) : xs.length = us.length := Paired.length r
theorem Vals.get : ∀ {xs : List V} {us : List Value} {i : Nat} {x : V}, Vals xs us → xs[i]? = some x → ∃ u, us[i]? = some u ∧ RelV x u
  | _, _, _, _, .nil, e => by simp at e
  | _, _, 0, _, .cons r _, e => by simp at e; subst e; exact ⟨_, rfl, r⟩
  | _, _, i + 1, x, .cons _ t, e => by
    obtain ⟨u, h1, h2⟩ := Vals.get (i := i) (x := x) t (by simpa using e)
    exact ⟨u, by simpa using h1, h2⟩
theorem Vals.set {x : V} {u : Value} (r : RelV x u) : ∀ {xs : List V} {us : List Value} (i : Nat), Vals xs us → Vals (xs.set i x) (us.set i u)
  | _, _, _, .nil => .nil
  | _, _, 0, .cons _ t => .cons r t
  | _, _, i + 1, .cons q t => .cons q (Vals.set r i t)
theorem Vals.append : ∀ {xs ys : List V} {us ws : List Value}, Vals xs us → Vals ys ws → Vals (xs ++ ys) (us ++ ws)
  | _, _, _, _, .nil, s => s
  | _, _, _, _, .cons r t, s => .cons r (Vals.append t s)
theorem Vals.take : ∀ {xs : List V} {us : List Value} (n : Nat), Vals xs us → Vals (xs.take n) (us.take n)
  | _, _, 0, _ => .nil
  | _, _, _ + 1, .nil => .nil
  | _, _, n + 1, .cons r t => .cons r (Vals.take n t)
theorem Vals.drop : ∀ {xs : List V} {us : List Value} (n : Nat), Vals xs us → Vals (xs.drop n) (us.drop n)
  | _, _, 0, r => r
  | _, _, _ + 1, .nil => .nil
  | _, _, n + 1, .cons _ t => Vals.drop n t
theorem Vals.none_of : ∀ {xs : List V} {us : List Value} {i : Nat}, Vals xs us → xs[i]? = none → us[i]? = none := fun {xs us i} r e => by
  have h1 := r.length
  have h2 : xs.length ≤ i := List.getElem?_eq_none_iff.mp e
  exact List.getElem?_eq_none_iff.mpr (by omega)

def RelO : Option V → Option Value → Prop
  | some v, some u => RelV v u
  | none, none => True
  | _, _ => False
def KV {κ : Type} : List (κ × V) → List (κ × Value) → Prop := Paired fun (p : κ × V) (q : κ × Value) => p.1 = q.1 ∧ RelV p.2 q.2

/-- a key of a dict (00_mix): an int or a text -/
def kV : Key → V
  | .inl i => .int i
  | .inr x => .str x

/-- what stands at a tracked address -/
inductive HO where
  /-- a list -/
  | lst (xs : List V)
  /-- a tuple (never changes) -/
  | tup (xs : List V)
  /-- a dict whose keys are ints and texts; one whose keys are tuples of ints and texts (the empty one is both) -/
  | dK (kvs : List (Key × V)) | dT (kvs : List (List Key × V))
  /-- a set of ints: its members, its size -/
  | set (S : Int → Bool) (n : Nat)
  /-- an instance of the class at C, its dict at dx, its attributes -/
  | ins (C dx : Addr) (fs : List (Str × V))
  /-- the dict of the instance at x -/
  | own (x : Addr)
  /-- the dict of an exception -/
  | xd (fs : List (Str × V))
  /-- a bound method, f of x -/
  | met (f x : Addr)
  /-- a range object lo, lo + 1, .. below hi -/
  | rng (lo hi : Int)
  /-- a thing that is known to the object (the script; a dict while a loop walks it): read, never written while it is so -/
  | frz (o : Obj) (u : HO)
  /-- a code object's table -/
  | tbl (ps : Array Value)
  /-- any other thing, by what is true of its one object (a def of one's own: SetO a S n := HO.ext fun h => ..) -/
  | ext (φ : Heap → Prop)

abbrev Hp := Addr → Option HO
def upd (H : Hp) (a : Addr) (o : HO) : Hp := fun b => if b = a then some o else H b
theorem upd_same {H : Hp} {a : Addr} {o : HO} : upd H a o a = some o := by unfold upd; rw [if_pos rfl]
theorem upd_ne {H : Hp} {a b : Addr} {o : HO} (h : b ≠ a) : upd H a o b = H b := by unfold upd; rw [if_neg h]
theorem upd_upd {H : Hp} {a : Addr} {o u : HO} : upd (upd H a o) a u = upd H a u := by
  funext b; unfold upd; split <;> rfl
/-- two objects of different content stand apart -/
theorem ne_of {H : Hp} {a b : Addr} {o u : HO} (h : H a = some o) (h' : H b = some u) (d : o ≠ u) : a ≠ b := by
  intro e; subst e; rw [h] at h'; exact d (Option.some.inj h')
theorem ne_of_none {H : Hp} {a b : Addr} {o : HO} (h : H a = some o) (h' : H b = none) : a ≠ b := by
  intro e; subst e; rw [h] at h'; cases h'

section
variable (P : Program) (w : World)
def ObjOk (H : Hp) (h : Heap) (a : Addr) : HO → Prop
  | .lst xs => xs.length ≤ sizeLine ∧ ∃ (its : List Value) (n : Nat), Vals xs its ∧ h.get? a = some { cls := .type "list", data := .seq its.toArray n }
  | .tup xs => xs.length ≤ sizeLine ∧ ∃ its : List Value, Vals xs its ∧ IsTup h a its.toArray
  | .dK kvs => kvs.length ≤ sizeLine ∧ (a == sysModules) = false ∧ ∃ vs, KV kvs vs ∧ h.DictOf (mixKind P w) a vs
  | .dT kvs => kvs.length ≤ sizeLine ∧ (a == sysModules) = false ∧ ∃ xs : List (List Key × Addr × Value),
      Paired (fun (p : List Key × V) (q : List Key × Addr × Value) => p.1 = q.1 ∧ H q.2.1 = some (.tup (p.1.map kV)) ∧ RelV p.2 q.2.2) kvs xs ∧
      ∃ o es ep, h.get? a = some o ∧ o.ExactDict ∧ o.data = .dict es ep ∧ es.toList = xs.map (entryOfKey (tupleKind (mixKind P w))) ∧ (xs.map (·.1)).Nodup
  | .set S n => h.SetOf (intKind P w) a S n
  | .ins C dx fs => H dx = some (.own a) ∧ fs.length ≤ 1000 ∧ dx ≠ a ∧ h.get? a = some (PySem.W.instObj C dx) ∧
      ∃ mA, h.Ns1 dx mA ∧ (∀ f, RelO (fs.lookup f) (mA f)) ∧ PySem.Within mA (fs.map (·.1))
  | .own _ => ∃ o, h.get? a = some o
  | .xd fs => ∃ mA, h.Ns1 a mA ∧ ∀ f, RelO (fs.lookup f) (mA f)
  | .rng lo hi => ∃ t u v, h.get? a = some { cls := .type "range", data := .fields #[.int lo t, .int hi u, .int 1 v] }
  | .frz o u => h.get? a = some o ∧ ObjOk H h a u
  | .tbl ps => h.get? a = some { cls := .none, data := .fields ps }
  | .met f x => h.get? a = some (PySem.W.methodObj (.ref f) (.ref x))
  | .ext φ => φ h ∧ (∃ o, h.get? a = some o) ∧ ∀ h1 h2 : Heap, φ h1 → (∀ o, h1.get? a = some o → h2.get? a = some o) → φ h2
/-- the abstract heap is held -/
def HOk (H : Hp) (h : Heap) : Prop := ∀ a o, H a = some o → ObjOk P w H h a o
end

section
variable {P : Program} {w : World} {H H' : Hp} {h h' : Heap} {a : Addr} {o : HO}
theorem ObjOk.lt (x : ObjOk P w H h a o) : a < h.objs.size := by
  cases o with
  | lst xs => obtain ⟨_, _, _, _, e⟩ := x; exact Heap.lt_size e
  | tup xs => obtain ⟨_, _, _, p⟩ := x; exact p.lt
  | dK kvs => obtain ⟨_, _, _, _, o, _, _, e, _⟩ := x; exact Heap.lt_size e
  | dT kvs => obtain ⟨_, _, _, _, o, _, _, e, _⟩ := x; exact Heap.lt_size e
  | set S n => obtain ⟨o, _, _, _, e, _⟩ := x; exact Heap.lt_size e
  | ins C dx fs => obtain ⟨_, _, _, e, _⟩ := x; exact Heap.lt_size e
  | own y => obtain ⟨_, e⟩ := x; exact Heap.lt_size e
  | xd fs => obtain ⟨_, ⟨_, _, _, e, _⟩, _⟩ := x; exact Heap.lt_size e
  | rng lo hi => obtain ⟨_, _, _, e⟩ := x; exact Heap.lt_size e
  | frz ob u => obtain ⟨e, _⟩ := x; exact Heap.lt_size e
  | tbl ps => exact Heap.lt_size (show h.get? a = some _ from x)
  | met f y => exact Heap.lt_size (show h.get? a = some _ from x)
  | ext φ => obtain ⟨_, ⟨_, e⟩, _⟩ := x; exact Heap.lt_size e
theorem Paired.mapP {α β : Type} {F G : α → β → Prop} : ∀ {l₁ : List α} {l₂ : List β}, Paired F l₁ l₂ → (∀ a b, F a b → G a b) → Paired G l₁ l₂
  | _, _, .nil, _ => .nil
  | _, _, .cons r t, f => .cons (f _ _ r) (Paired.mapP t f)
/-- what an object's description leans on: its own object, its own dict, the tuples -/
theorem ObjOk.stay (x : ObjOk P w H h a o) (k : ∀ b u, (b = a ∨ H b = some (.own a)) → h.get? b = some u → h'.get? b = some u)
    (ho : ∀ b, H b = some (.own a) → H' b = some (.own a)) (ht : ∀ b xs, H b = some (.tup xs) → H' b = some (.tup xs)) : ObjOk P w H' h' a o := by
  induction o with
  | lst xs => obtain ⟨z, its, n, r, e⟩ := x; exact ⟨z, its, n, r, k _ _ (.inl rfl) e⟩
  | tup xs => obtain ⟨z, its, r, ob, e, c⟩ := x; exact ⟨z, its, r, ob, k _ _ (.inl rfl) e, c⟩
  | dK kvs => obtain ⟨z, y, vs, r, ob, es, ep, e, c⟩ := x; exact ⟨z, y, vs, r, ob, es, ep, k _ _ (.inl rfl) e, c⟩
  | dT kvs =>
    obtain ⟨z, y, xs, r, ob, es, ep, e, c⟩ := x
    exact ⟨z, y, xs, Paired.mapP r fun p q z => ⟨z.1, ht _ _ z.2.1, z.2.2⟩, ob, es, ep, k _ _ (.inl rfl) e, c⟩
  | set S n => obtain ⟨ob, es, ep, t, e, c⟩ := x; exact ⟨ob, es, ep, t, k _ _ (.inl rfl) e, c⟩
  | ins C dx fs =>
    obtain ⟨d, z, ne, e, mA, ⟨od, es, ep, e2, c⟩, r⟩ := x
    exact ⟨ho _ d, z, ne, k _ _ (.inl rfl) e, mA, ⟨od, es, ep, k _ _ (.inr d) e2, c⟩, r⟩
  | own y => obtain ⟨ob, e⟩ := x; exact ⟨ob, k _ _ (.inl rfl) e⟩
  | xd fs => obtain ⟨mA, ⟨od, es, ep, e, c⟩, r⟩ := x; exact ⟨mA, ⟨od, es, ep, k _ _ (.inl rfl) e, c⟩, r⟩
  | rng lo hi => obtain ⟨t, u, v, e⟩ := x; exact ⟨t, u, v, k _ _ (.inl rfl) e⟩
  | frz ob u ih => obtain ⟨e, q⟩ := x; exact ⟨k _ _ (.inl rfl) e, ih q⟩
  | tbl ps =>
    have e : h.get? a = some { cls := .none, data := .fields ps } := x
    show h'.get? a = some { cls := .none, data := .fields ps }
    exact k a _ (.inl rfl) e
  | met f y =>
    have e : h.get? a = some (PySem.W.methodObj (.ref f) (.ref y)) := x
    show h'.get? a = some (PySem.W.methodObj (.ref f) (.ref y))
    exact k a _ (.inl rfl) e
  | ext φ => obtain ⟨p, ⟨o, e⟩, st⟩ := x; exact ⟨st _ _ p fun o q => k _ _ (.inl rfl) q, ⟨o, k _ _ (.inl rfl) e⟩, st⟩
theorem HOk.lt (x : HOk P w H h) (e : H a = some o) : a < h.objs.size := (x a o e).lt
theorem HOk.fresh (x : HOk P w H h) (e : h.objs.size ≤ a) : H a = none := by
  cases q : H a with
  | none => rfl
  | some u => exact absurd (Nat.lt_of_lt_of_le (x.lt q) e) (Nat.lt_irrefl _)
/-- every object of the heap is kept -/
theorem HOk.kept (x : HOk P w H h) (k : ∀ b u, h.get? b = some u → h'.get? b = some u) : HOk P w H h' := fun a o e =>
  (x a o e).stay (fun b u _ q => k b u q) (fun _ q => q) fun _ _ q => q
/-- a new object is laid and tracked -/
theorem HOk.laid (x : HOk P w H h) (k : ∀ b u, h.get? b = some u → h'.get? b = some u) (hp : h.objs.size ≤ a) (new : ObjOk P w (upd H a o) h' a o) : HOk P w (upd H a o) h' := fun b u e => by
  have hn := x.fresh hp
  by_cases hb : b = a
  · subst hb; rw [upd_same] at e; cases e; exact new
  · rw [upd_ne hb] at e
    exact (x b u e).stay (fun c v _ q => k c v q) (fun c q => by rw [upd_ne (ne_of_none q hn)]; exact q) fun c xs q => by rw [upd_ne (ne_of_none q hn)]; exact q
end

/-- what may be read as u: it is u, or a known u -/
def Rd (H : Hp) (a : Addr) (u : HO) : Prop := H a = some u ∨ ∃ o, H a = some (.frz o u)
theorem Rd.of {H : Hp} {a : Addr} {u : HO} (h : H a = some u) : Rd H a u := .inl h
theorem Rd.ok {P : Program} {w : World} {H : Hp} {h : Heap} {a : Addr} {u : HO} (r : Rd H a u) (x : HOk P w H h) : ObjOk P w H h a u := by
  rcases r with r | ⟨o, r⟩
  · exact x a u r
  · obtain ⟨_, q⟩ := x a _ r
    exact q
/-- what may be written -/
def Mut : Option HO → Prop
  | some (.lst _) => True
  | some (.dK _) => True
  | some (.dT _) => True
  | some (.set _ _) => True
  | some (.ins _ _ _) => True
  | some (.ext _) => True
  | _ => False
section
variable {P : Program} {w : World} {H : Hp} {h h' : Heap} {x e : Addr} {o' : HO}
/-- the object at e is changed: x itself, or the dict of the instance x -/
theorem HOk.write (ok : HOk P w H h) (mu : Mut (H x)) (he : e = x ∨ H e = some (.own x)) (k : ∀ b u, b ≠ e → h.get? b = some u → h'.get? b = some u) (heo : ∃ u, h'.get? e = some u)
    (new : ObjOk P w (upd H x o') h' x o') : HOk P w (upd H x o') h' := fun b u q => by
  have nown : ∀ c y, H c = some (.own y) → c ≠ x := fun c y r z => by subst z; rw [r] at mu; exact mu
  have ntup : ∀ c xs, H c = some (.tup xs) → c ≠ x := fun c xs r z => by subst z; rw [r] at mu; exact mu
  by_cases hb : b = x
  · subst hb; rw [upd_same] at q; cases q; exact new
  · rw [upd_ne hb] at q
    by_cases hbe : b = e
    · have q' : H b = some (.own x) := by
        rcases he with z | z
        · exact absurd (hbe.trans z) hb
        · rw [hbe]; exact z
      rw [q] at q'; cases q'
      obtain ⟨v, hv⟩ := heo
      exact ⟨v, by rw [hbe]; exact hv⟩
    · refine (ok b u q).stay (fun c v hc r => k c v ?_ r) (fun c r => by rw [upd_ne (nown c b r)]; exact r) fun c xs r => by rw [upd_ne (ntup c xs r)]; exact r
      rcases hc with rfl | hc
      · exact hbe
      · rintro rfl
        rcases he with z | z
        · exact nown c b hc z
        · rw [hc] at z; cases z; exact hb rfl
end

/-! ### kept unless tracked; of the frames at fs (the callers') the slots may change (an exception that passes writes there); of the records at ex (iterators) nothing is said -/
structure Un (fs ex : List Addr) (H H' : Hp) (h h' : Heap) : Prop where
  keep : ∀ b o, h.get? b = some o → H b = none → b ∉ fs → b ∉ ex → h'.get? b = some o
  slot : ∀ b o, h.get? b = some o → H b = none → b ∈ fs → b ∉ ex → ∃ sl, h'.get? b = some { o with slots := sl }
  free : ∀ b o, h.get? b = some o → H b = none → b ∉ ex → H' b = none
  there : ∀ b o, h.get? b = some o → b ∉ ex → ∃ o', h'.get? b = some o'
  tups : ∀ b xs, H b = some (.tup xs) → H' b = some (.tup xs)
  frzs : ∀ b o u, H b = some (.frz o u) → H' b = some (.frz o u)
  tbls : ∀ b ps, H b = some (.tbl ps) → ∃ more, H' b = some (.tbl (ps ++ more))
section
variable {fs fs' ex ex' : List Addr} {H H1 H2 : Hp} {h h1 h2 h' : Heap} {a x e : Addr} {o : HO}
theorem Un.any (u : Un fs ex H H1 h h1) {b : Addr} {ob : Obj} (q : h.get? b = some ob) (n : H b = none) (hx : b ∉ ex) : ∃ sl, h1.get? b = some { ob with slots := sl } := by
  by_cases hb : b ∈ fs
  · exact u.slot b ob q n hb hx
  · exact ⟨ob.slots, u.keep b ob q n hb hx⟩
theorem Un.trans (a : Un fs ex H H1 h h1) (b : Un fs ex H1 H2 h1 h2) : Un fs ex H H2 h h2 where
  keep := fun c ob q n hc hx => b.keep c ob (a.keep c ob q n hc hx) (a.free c ob q n hx) hc hx
  slot := fun c ob q n hc hx => by
    obtain ⟨sl, e1⟩ := a.slot c ob q n hc hx
    obtain ⟨sl', e2⟩ := b.slot c _ e1 (a.free c ob q n hx) hc hx
    exact ⟨sl', e2⟩
  free := fun c ob q n hx => by
    obtain ⟨o', e1⟩ := a.there c ob q hx
    exact b.free c o' e1 (a.free c ob q n hx) hx
  there := fun c ob q hx => by
    obtain ⟨o', e1⟩ := a.there c ob q hx
    exact b.there c o' e1 hx
  tups := fun c xs q => b.tups c xs (a.tups c xs q)
  frzs := fun c ob xs q => b.frzs c ob xs (a.frzs c ob xs q)
  tbls := fun c ps q => by
    obtain ⟨m1, e1⟩ := a.tbls c ps q
    obtain ⟨m2, e2⟩ := b.tbls c _ e1
    exact ⟨m1 ++ m2, by rw [e2, Array.append_assoc]⟩
theorem Un.kept (k : ∀ b u, h.get? b = some u → h'.get? b = some u) : Un fs ex H H h h' :=
  ⟨fun b ob q _ _ _ => k b ob q, fun b ob q _ _ _ => ⟨ob.slots, k b ob q⟩, fun _ _ _ n _ => n, fun b ob q _ => ⟨ob, k b ob q⟩, fun _ _ q => q, fun _ _ _ q => q, fun _ ps q => ⟨#[], by rw [q]; simp⟩⟩
theorem Un.refl : Un fs ex H H h h := Un.kept fun _ _ q => q
theorem Un.laid (k : ∀ b u, h.get? b = some u → h'.get? b = some u) (hp : h.objs.size ≤ a) (hn : H a = none) : Un fs ex H (upd H a o) h h' where
  keep := fun b u q _ _ _ => k b u q
  slot := fun b u q _ _ _ => ⟨u.slots, k b u q⟩
  free := fun b u q n _ => by rw [upd_ne (Nat.ne_of_lt (Nat.lt_of_lt_of_le (Heap.lt_size q) hp))]; exact n
  there := fun b u q _ => ⟨u, k b u q⟩
  tups := fun b xs q => by rw [upd_ne (ne_of_none q hn)]; exact q
  frzs := fun b u xs q => by rw [upd_ne (ne_of_none q hn)]; exact q
  tbls := fun b ps q => ⟨#[], by rw [upd_ne (ne_of_none q hn), q]; simp⟩
theorem Un.write (mu : Mut (H x)) (he : e = x ∨ H e = some (.own x)) (k : ∀ b u, b ≠ e → h.get? b = some u → h'.get? b = some u) (heo : ∃ u, h'.get? e = some u) : Un fs ex H (upd H x o) h h' := by
  have hx : ∀ b, H b = none → b ≠ x := fun b n z => by subst z; rw [n] at mu; exact mu
  have hb : ∀ b, H b = none → b ≠ e := fun b n z => by
    subst z
    rcases he with r | r
    · exact hx b n r
    · rw [n] at r; cases r
  have hm : ∀ b u, H b = some u → ¬ Mut (some u) → b ≠ x := fun b u q nm z => by subst z; rw [q] at mu; exact nm mu
  refine ⟨fun b u q n _ _ => k b u (hb b n) q, fun b u q n _ _ => ⟨u.slots, k b u (hb b n) q⟩, fun b u q n _ => by rw [upd_ne (hx b n)]; exact n, fun b u q _ => ?_,
    fun b xs q => by rw [upd_ne (hm b _ q fun z => z)]; exact q, fun b u xs q => by rw [upd_ne (hm b _ q fun z => z)]; exact q, fun b ps q => ⟨#[], by rw [upd_ne (hm b _ q fun z => z), q]; simp⟩⟩
  by_cases hbe : b = e
  · subst hbe; exact heo
  · exact ⟨u, k b u hbe q⟩
theorem Un.mono (u : Un fs ex H H1 h h1) (hs : ∀ b ∈ fs, b ∈ fs') (hx : ∀ b ∈ ex, b ∈ ex') : Un fs' ex' H H1 h h1 :=
  ⟨fun b ob q n hb he => u.keep b ob q n (fun z => hb (hs b z)) fun z => he (hx b z), fun _ _ q n _ he => u.any q n fun z => he (hx _ z), fun b ob q n he => u.free b ob q n fun z => he (hx b z), fun b ob q he => u.there b ob q fun z => he (hx b z), u.tups, u.frzs, u.tbls⟩
end

/-! ### the heap without what is tracked -/
def trk (h : Heap) (H : Hp) : List Addr := (List.range h.objs.size).filter fun a => (H a).isSome
def hidT (h : Heap) (H : Hp) : Heap := PySem.W.hideAll h (trk h H)
theorem hidT_size (h : Heap) (H : Hp) : (hidT h H).objs.size = h.objs.size := PySem.W.hideAll_size _ _
theorem hidT_get {h : Heap} {H : Hp} {b : Addr} {o : Obj} (e : h.get? b = some o) (n : H b = none) : (hidT h H).get? b = some o :=
  PySem.W.hideAll_get _ e fun hm => by
    have q : (H b).isSome = true := (List.mem_filter.mp hm).2
    rw [n] at q; simp at q
theorem of_hidT {h : Heap} {H : Hp} {b : Addr} {o : Obj} (e : (hidT h H).get? b = some o) : h.get? b = some o ∧ H b = none := by
  have e' : h.get? b = some o := PySem.W.of_hideAll (trk h H) e
  refine ⟨e', ?_⟩
  cases q : H b with
  | none => rfl
  | some x =>
    have hm : b ∈ trk h H := List.mem_filter.mpr ⟨List.mem_range.mpr (Heap.lt_size e'), by simp [q]⟩
    have z : (hidT h H).get? b = none := PySem.W.hideAll_none (trk h H) hm
    rw [z] at e; cases e

/-! ### OpenK's ledger, filled with every new object but one -/
def allNews (g h : Heap) (L : Addr) : List (Addr × Obj) := (List.range h.objs.size).filterMap fun a => if a = L ∨ (g.get? a).isSome = true then none else (h.get? a).map fun o => (a, o)
def rest (g h : Heap) (L d : Addr) : List (Addr × Obj) := (allNews g h L).filter fun p => decide (p.1 ≠ d)
end L2

namespace L2
open PySem PySem.Spec PyProof.Rows

/-- the module's facts, over the base: the heap at the law's entry without what is tracked there -/
structure Mod (K : PySem.W.Frag) (mg : Str → Option Value) (base : Heap) : Prop where
  kin : K.In base
  glob : base.Ns mainGlobals mg
  blt : ∃ mb, base.Ns builtinsNs mb ∧ ∀ x : Str, x ≠ "__name__" → mb x = bootBuiltins x
  nolimit : base.NoLimit

/-- the context: a def's body (or a comprehension's block) running. base: fixed through the whole law; s₀, H₀: the entry; outer: the frames whose slots others may change (a def's callers); stack: all frames that run;
   ex: iterators that were made ahead of the entry and are walked here (a comprehension's); fn: the names whose cells were made at the entry (a def: all; a comprehension's block: its own); calm: not within an except suite; pn: pins that every state bears; xe: what is wanted of an exception that leaves the code -/
structure Cx where
  prog : Program
  w : World
  K : PySem.W.Frag
  mg : Str → Option Value
  base : Heap
  A : Around
  N : List Str
  s₀ : Shared
  H₀ : Hp
  env : Env
  outer : List Env
  stack : List Env
  ex : List Addr
  fn : Str → Bool
  calm : Bool
  pn : List (Addr × Obj)
  xe : Value → Shared → Prop
/-- the callers' frames -/
def frs (l : List Env) : List Addr := l.filterMap (·.frame)
abbrev Cx.fs (X : Cx) : List Addr := frs X.outer

def Vis (sc : Scope) (x : Str) : Prop := sc.names.lookup x = some .local ∨ sc.names.lookup x = some .cell ∨ sc.names.lookup x = some .free
def Loc (sc : Scope) (x : Str) : Prop := sc.names.lookup x = some .local ∨ sc.names.lookup x = some .cell
def Look (env : Env) (h : Heap) (m : Str → Option Value) (x : Str) (u : Value) : Prop :=
  (env.kindOf x = some .local ∧ m x = some u) ∨ ((env.kindOf x = some .cell ∨ env.kindOf x = some .free) ∧ ∃ c, env.cells.lookup x = some c ∧ h.IsCell c (some u))

structure Cx.Ok (X : Cx) : Prop where
  mod : Mod X.K X.mg X.base
  kind : X.env.scope.kind = .function
  glob : X.env.globals = mainGlobals
  blt : X.env.builtins = builtinsNs
  above : X.s₀.heap.objs.size ≤ X.env.locals
  inj : ∀ x y c, X.env.cells.lookup x = some c → X.env.cells.lookup y = some c → x = y
  has : ∀ x, (X.env.kindOf x = some .cell ∨ X.env.kindOf x = some .free) → ∃ c, X.env.cells.lookup x = some c
  cab : ∀ x c, X.fn x = true → X.env.cells.lookup x = some c → X.s₀.heap.objs.size ≤ c
  hd : X.calm = true → X.A.handled = none
  frames : X.A.frames = some X.stack
  stk : X.stack = X.outer ∨ (X.stack = X.env :: X.outer ∧ X.env.frame = some X.env.locals)
  exf : ∀ b ∈ X.ex, b ≠ X.env.locals ∧ ∀ x c, X.env.cells.lookup x = some c → c ≠ b
  bs : ∀ b o, X.base.get? b = some o → X.s₀.heap.get? b = some o ∧ X.H₀ b = none
  bsz : X.base.objs.size ≤ X.s₀.heap.objs.size
  noex : ∀ b o, X.base.get? b = some o → b ∉ X.ex
  exfs : ∀ b ∈ X.ex, b ∉ X.fs
  funs : X.s₀.heap.FunFrames X.base X.outer
  frf : ∀ b ∈ X.fs, X.H₀ b = none

structure Inv (X : Cx) (pins : List (Addr × Obj)) (σ : List (Option V)) (H : Hp) (s : Shared) : Prop where
  ok : X.Ok
  os : s.os = X.s₀.os
  bare : AllBare s.gens
  base : Un X.fs X.ex X.H₀ H X.s₀.heap s.heap
  loc : ∃ m, s.heap.Ns X.env.locals m ∧ ∀ (i : Nat) (x : Str) (v : V), X.N[i]? = some x → σ[i]? = some (some v) → Vis X.env.scope x → ∃ u, RelV v u ∧ Look X.env s.heap m x u
  cell : ∀ x c, X.env.cells.lookup x = some c → ∃ v, s.heap.IsCell c v
  free : H X.env.locals = none
  freeC : ∀ x c, X.env.cells.lookup x = some c → H c = none
  pin : ∀ p ∈ X.pn ++ pins, s.heap.get? p.1 = some p.2 ∧ H p.1 = none ∧ p.1 ≠ X.env.locals ∧ p.1 ∉ X.fs ∧ ∀ v, p.2.data ≠ .cell v
  hok : HOk X.prog X.w H s.heap
  len : σ.length = X.N.length

section
variable {X : Cx} {pins : List (Addr × Obj)} {σ : List (Option V)} {H H' : Hp} {s : Shared} {h' : Heap}

theorem Cx.Ok.nofr (ok : X.Ok) {b : Addr} {o : Obj} (e : X.base.get? b = some o) : b ∉ X.fs := fun hb => by
  have := (ok.funs.mem hb).1
  rw [e] at this; cases this
theorem Inv.bs (I : Inv X pins σ H s) : ∀ b o, X.base.get? b = some o → s.heap.get? b = some o ∧ H b = none := fun b o e =>
  ⟨I.base.keep b o (I.ok.bs b o e).1 (I.ok.bs b o e).2 (I.ok.nofr e) (I.ok.noex b o e), I.base.free b o (I.ok.bs b o e).1 (I.ok.bs b o e).2 (I.ok.noex b o e)⟩
theorem Inv.bk (I : Inv X pins σ H s) : ∀ b o, X.base.get? b = some o → s.heap.get? b = some o := fun b o e => (I.bs b o e).1
theorem Inv.mod (I : Inv X pins σ H s) : Mod X.K X.mg X.base := I.ok.mod
theorem Inv.kIn (I : Inv X pins σ H s) : X.K.In s.heap := I.ok.mod.kin.keeps I.bk
theorem Inv.nolimit (I : Inv X pins σ H s) : s.heap.NoLimit := I.ok.mod.nolimit.keeps I.bk
/-- the frame over the base: for OpenK's rules (K.In X.base is I.mod.kin) -/
theorem Inv.fr (I : Inv X pins σ H s) : ∃ m, Fr X.base X.env.locals s.heap m :=
  let ⟨m, hn, _⟩ := I.loc
  ⟨m, hn, I.bk, Nat.le_trans I.ok.bsz I.ok.above⟩
theorem Inv.lt (I : Inv X pins σ H s) : X.env.locals < s.heap.objs.size := let ⟨_, hn, _⟩ := I.loc; hn.lt
theorem Inv.sz (I : Inv X pins σ H s) : X.s₀.heap.objs.size ≤ s.heap.objs.size := Nat.le_trans I.ok.above (Nat.le_of_lt I.lt)
theorem Inv.nofs (I : Inv X pins σ H s) {a : Addr} (h : s.heap.objs.size ≤ a) : a ∉ X.fs := fun hb => by
  obtain ⟨_, o, ho, _⟩ := I.ok.funs.mem hb
  exact absurd (Nat.lt_of_lt_of_le (Heap.lt_size ho) (Nat.le_trans I.sz h)) (Nat.lt_irrefl _)
theorem Inv.cne (I : Inv X pins σ H s) : ∀ x c, X.env.cells.lookup x = some c → c ≠ X.env.locals := fun x c e z => by
  obtain ⟨v, o, ho, hd⟩ := I.cell x c e
  obtain ⟨m, ⟨o', es, ep, ho', hd', _⟩, _⟩ := I.loc
  rw [z, ho'] at ho; cases ho; rw [hd'] at hd; cases hd
theorem Inv.funs (I : Inv X pins σ H s) : s.heap.FunFrames X.base X.outer := by
  have all : ∀ (l : List Env), (∀ b ∈ frs l, b ∈ X.fs) → X.s₀.heap.FunFrames X.base l → s.heap.FunFrames X.base l := by
    intro l
    induction l with
    | nil => intro _ _; trivial
    | cons env r ih =>
      intro hs hl
      obtain ⟨hk, ⟨L, o, hf, hn, ho, hd⟩, hr⟩ := hl
      have hL : L ∈ X.fs := hs L (by unfold frs; rw [List.filterMap_cons, hf]; exact List.mem_cons_self)
      obtain ⟨sl, e⟩ := I.base.slot L o ho (I.ok.frf L hL) hL fun z => I.ok.exfs L z hL
      exact ⟨hk, ⟨L, _, hf, hn, e, hd⟩, ih (fun b hb => hs b (by unfold frs; rw [List.filterMap_cons, hf]; exact List.mem_cons_of_mem _ hb)) hr⟩
  exact all X.outer (fun _ hb => hb) I.ok.funs

/-- the frames that run, for a call -/
theorem Inv.stack (I : Inv X pins σ H s) : s.heap.FunFrames X.base X.stack := by
  rcases I.ok.stk with e | ⟨e, hf⟩
  · rw [e]; exact I.funs
  · rw [e]
    obtain ⟨m, hn, _⟩ := I.loc
    refine .cons (by rw [I.ok.kind]; decide) hf hn ?_ I.funs
    exact Heap.get?_none_of_le (Nat.le_trans I.ok.bsz I.ok.above)
theorem Inv.stkSub (I : Inv X pins σ H s) : ∀ b ∈ frs X.stack, b ∈ X.env.locals :: X.fs := fun b hb => by
  rcases I.ok.stk with e | ⟨e, hf⟩
  · rw [e] at hb; exact List.mem_cons_of_mem _ hb
  · rw [e] at hb
    unfold frs at hb
    rw [List.filterMap_cons, hf] at hb
    exact hb
theorem Inv.stkFree (I : Inv X pins σ H s) : ∀ b ∈ frs X.stack, H b = none := fun b hb => by
  rcases List.mem_cons.mp (I.stkSub b hb) with e | hb
  · rw [e]; exact I.free
  · obtain ⟨_, o, ho, _⟩ := I.ok.funs.mem hb
    exact I.base.free b o ho (I.ok.frf b hb) fun z => I.ok.exfs b z hb

/-- THE STEP: the untracked objects but the frame and the records at ch are kept (the callers' frames up to slots), the frame's map is kept, the new abstract heap is held -/
theorem Inv.step {g' : Array GenState} {t' : Nat} {d' : Drawn} {ch : List Addr} (I : Inv X pins σ H s)
    (hch : ∀ b ∈ ch, (b ∈ X.ex ∨ X.s₀.heap.objs.size ≤ b) ∧ b ≠ X.env.locals ∧ (∀ x c, X.env.cells.lookup x = some c → c ≠ b) ∧ ∀ p ∈ X.pn ++ pins, p.1 ≠ b)
    (keep : ∀ b o, b ≠ X.env.locals → b ∉ X.fs → b ∉ ch → s.heap.get? b = some o → H b = none → h'.get? b = some o)
    (slot : ∀ b o, b ≠ X.env.locals → b ∈ X.fs → b ∉ ch → s.heap.get? b = some o → H b = none → ∃ sl, h'.get? b = some { o with slots := sl }) (free : ∀ b o, b ∉ ch → s.heap.get? b = some o → H b = none → H' b = none)
    (there : ∀ b o, b ∉ ch → s.heap.get? b = some o → ∃ o', h'.get? b = some o')
    (tups : ∀ b xs, H b = some (.tup xs) → H' b = some (.tup xs)) (frzs : ∀ b o u, H b = some (.frz o u) → H' b = some (.frz o u)) (tbls : ∀ b ps, H b = some (.tbl ps) → ∃ more, H' b = some (.tbl (ps ++ more)))
    (ns : ∀ m, s.heap.Ns X.env.locals m → h'.Ns X.env.locals m) (hok : HOk X.prog X.w H' h') (hg : AllBare g') :
    Inv X pins σ H' { s with heap := h', gens := g', drawn := d', toks := t' } := by
  have neL : ∀ b o, X.s₀.heap.get? b = some o → b ≠ X.env.locals := fun b o e => Nat.ne_of_lt (Nat.lt_of_lt_of_le (Heap.lt_size e) I.ok.above)
  have neC : ∀ b o, X.s₀.heap.get? b = some o → b ∉ X.ex → b ∉ ch := fun b o e hx hb => by
    rcases (hch b hb).1 with z | z
    · exact hx z
    · exact absurd (Nat.lt_of_lt_of_le (Heap.lt_size e) z) (Nat.lt_irrefl _)
  have cellK : ∀ x c, X.env.cells.lookup x = some c → ∀ v, s.heap.IsCell c v → h'.IsCell c v := fun x c e v ⟨o, ho, hd⟩ => by
    have nch : c ∉ ch := fun z => (hch c z).2.2.1 x c e rfl
    by_cases hc : c ∈ X.fs
    · obtain ⟨sl, q⟩ := slot c o (I.cne x c e) hc nch ho (I.freeC x c e)
      exact ⟨_, q, hd⟩
    · exact ⟨o, keep c o (I.cne x c e) hc nch ho (I.freeC x c e), hd⟩
  refine ⟨I.ok, I.os, hg, ⟨fun b o e n hb hx => ?_, fun b o e n hb hx => ?_, fun b o e n hx => ?_, fun b o e hx => ?_, fun b xs e => tups b xs (I.base.tups b xs e), fun b o xs e => frzs b o xs (I.base.frzs b o xs e), fun b ps e => ?_⟩, ?_, fun x c e => ?_, ?_, fun x c e => ?_, fun p hp => ?_, hok, I.len⟩
  · exact keep b o (neL b o e) hb (neC b o e hx) (I.base.keep b o e n hb hx) (I.base.free b o e n hx)
  · obtain ⟨sl, e1⟩ := I.base.slot b o e n hb hx
    obtain ⟨sl', e2⟩ := slot b _ (neL b o e) hb (neC b o e hx) e1 (I.base.free b o e n hx)
    exact ⟨sl', e2⟩
  · obtain ⟨o', e1⟩ := I.base.there b o e hx
    exact free b o' (neC b o e hx) e1 (I.base.free b o e n hx)
  · obtain ⟨o', e1⟩ := I.base.there b o e hx
    exact there b o' (neC b o e hx) e1
  · obtain ⟨m1, e1⟩ := I.base.tbls b ps e
    obtain ⟨m2, e2⟩ := tbls b _ e1
    exact ⟨m1 ++ m2, by rw [e2, Array.append_assoc]⟩
  · obtain ⟨m, hn, hl⟩ := I.loc
    refine ⟨m, ns m hn, fun i x v e1 e2 e3 => ?_⟩
    obtain ⟨u, r, l⟩ := hl i x v e1 e2 e3
    refine ⟨u, r, ?_⟩
    rcases l with l | ⟨k, c, e, z⟩
    · exact .inl l
    · exact .inr ⟨k, c, e, cellK x c e _ z⟩
  · obtain ⟨v, z⟩ := I.cell x c e
    exact ⟨v, cellK x c e v z⟩
  · obtain ⟨m, ⟨o, _, _, ho, _⟩, _⟩ := I.loc
    exact free _ o (fun z => (hch _ z).2.1 rfl) ho I.free
  · obtain ⟨v, o, ho, hd⟩ := I.cell x c e
    exact free c o (fun z => (hch c z).2.2.1 x c e rfl) ho (I.freeC x c e)
  · obtain ⟨e, n, ne, nf, d⟩ := I.pin p hp
    have nch : p.1 ∉ ch := fun z => (hch p.1 z).2.2.2 p hp rfl
    exact ⟨keep p.1 p.2 ne nf nch e n, free p.1 p.2 nch e n, ne, nf, d⟩
/-- .. where the frame's own object is kept too -/
theorem Inv.un {t' : Nat} (I : Inv X pins σ H s) (u : Un X.fs [] H H' s.heap h') (hok : HOk X.prog X.w H' h') : Inv X pins σ H' { s with heap := h', toks := t' } := by
  obtain ⟨m, ⟨o, es, ep, ho, r⟩, _⟩ := id I.loc
  obtain ⟨sl, hL⟩ := u.any ho I.free (by simp)
  exact I.step (g' := s.gens) (d' := s.drawn) (ch := []) (fun _ z => nomatch z) (fun b o _ hb _ e n => u.keep b o e n hb (by simp)) (fun b o _ hb _ e n => u.slot b o e n hb (by simp)) (fun b o _ e n => u.free b o e n (by simp)) (fun b o _ e => u.there b o e (by simp)) u.tups u.frzs u.tbls (fun m' hm => by
    obtain ⟨o', es', ep', ho', r'⟩ := hm
    rw [ho] at ho'; cases ho'
    exact ⟨_, es', ep', hL, r'⟩) hok I.bare
/-- behind a call (or a comprehension's block): the slots of this frame may have changed too, the records at ch may have turned -/
theorem Inv.call {g' : Array GenState} {t' : Nat} {d' : Drawn} {ch : List Addr} (I : Inv X pins σ H s) (u : Un (frs X.stack) ch H H' s.heap h') (hok : HOk X.prog X.w H' h') (hg : AllBare g')
    (hch : ∀ b ∈ ch, (b ∈ X.ex ∨ X.s₀.heap.objs.size ≤ b) ∧ b ≠ X.env.locals ∧ (∀ x c, X.env.cells.lookup x = some c → c ≠ b) ∧ ∀ p ∈ X.pn ++ pins, p.1 ≠ b) :
    Inv X pins σ H' { s with heap := h', gens := g', drawn := d', toks := t' } := by
  obtain ⟨m, ⟨o, es, ep, ho, r⟩, _⟩ := id I.loc
  obtain ⟨sl, hL⟩ := u.any ho I.free fun z => (hch _ z).2.1 rfl
  exact I.step (ch := ch) hch (fun b o hL hb hc e n => u.keep b o e n (fun z => (List.mem_cons.mp (I.stkSub b z)).elim hL hb) hc) (fun b o _ _ hc e n => u.any e n hc) (fun b o hc e n => u.free b o e n hc) (fun b o hc e => u.there b o e hc) u.tups u.frzs u.tbls (fun m' hm => by
    obtain ⟨o', es', ep', ho', r'⟩ := hm
    rw [ho] at ho'; cases ho'
    exact ⟨_, es', ep', hL, r'⟩) hok hg
/-- an untracked record of ours (an iterator) has turned -/
theorem Inv.turned {t' : Nat} {it : Addr} (I : Inv X pins σ H s) (k : ∀ b o, b ≠ it → s.heap.get? b = some o → h'.get? b = some o) (hn : H it = none) (hL : it ≠ X.env.locals)
    (h1 : it ∈ X.ex ∨ X.s₀.heap.objs.size ≤ it) (h2 : ∀ x c, X.env.cells.lookup x = some c → c ≠ it) (h3 : ∀ p ∈ X.pn ++ pins, p.1 ≠ it) : Inv X pins σ H { s with heap := h', toks := t' } := by
  have nit : ∀ b u, H b = some u → b ≠ it := fun b u e z => by rw [z, hn] at e; cases e
  refine I.step (g' := s.gens) (d' := s.drawn) (ch := [it]) (fun b hb => ?_) (fun b o _ _ hc e _ => k b o (fun z => hc (by simp [z])) e) (fun b o _ _ hc e _ => ⟨o.slots, k b o (fun z => hc (by simp [z])) e⟩) (fun _ _ _ _ n => n)
    (fun b o hc e => ⟨o, k b o (fun z => hc (by simp [z])) e⟩) (fun _ _ e => e) (fun _ _ _ e => e) (fun b ps e => ⟨#[], by rw [e]; simp⟩) (fun m hm => ?_) (fun b u e => ?_) I.bare
  · have e : b = it := by simpa using hb
    subst e
    exact ⟨h1, hL, h2, h3⟩
  · obtain ⟨o, es, ep, ho, r⟩ := hm
    exact ⟨o, es, ep, k _ o (Ne.symm hL) ho, r⟩
  · refine (I.hok b u e).stay (fun c v hc q => k c v ?_ q) (fun _ q => q) fun _ _ q => q
    rcases hc with z | z
    · rw [z]; exact nit b u e
    · exact nit c _ z
theorem Inv.tok (I : Inv X pins σ H s) (t : Nat) : Inv X pins σ H { s with toks := t } := I.un (h' := s.heap) (t' := t) Un.refl I.hok
/-- all objects kept -/
theorem Inv.kept {t' : Nat} (I : Inv X pins σ H s) (k : ∀ b u, s.heap.get? b = some u → h'.get? b = some u) : Inv X pins σ H { s with heap := h', toks := t' } := I.un (Un.kept k) (I.hok.kept k)
/-- a new object laid and tracked -/
theorem Inv.laid {a : Addr} {o : HO} {t' : Nat} (I : Inv X pins σ H s) (k : ∀ b u, s.heap.get? b = some u → h'.get? b = some u) (hp : s.heap.objs.size ≤ a) (new : ObjOk X.prog X.w (upd H a o) h' a o) :
    Inv X pins σ (upd H a o) { s with heap := h', toks := t' } := I.un (Un.laid k hp (I.hok.fresh hp)) (I.hok.laid k hp new)
/-- an object written -/
theorem Inv.write {x e : Addr} {o : HO} {t' : Nat} (I : Inv X pins σ H s) (mu : Mut (H x)) (he : e = x ∨ H e = some (.own x)) (k : ∀ b u, b ≠ e → s.heap.get? b = some u → h'.get? b = some u) (heo : ∃ u, h'.get? e = some u)
    (new : ObjOk X.prog X.w (upd H x o) h' x o) : Inv X pins σ (upd H x o) { s with heap := h', toks := t' } := I.un (Un.write mu he k heo) (I.hok.write mu he k heo new)
/-- forgetting slots, pins -/
theorem Inv.weak {σ' : List (Option V)} (I : Inv X pins σ H s) (hl : σ'.length = σ.length) (w : ∀ (i : Nat) v, σ'[i]? = some (some v) → σ[i]? = some (some v)) : Inv X pins σ' H s :=
  ⟨I.ok, I.os, I.bare, I.base, let ⟨m, hn, hl'⟩ := I.loc; ⟨m, hn, fun i x v e1 e2 e3 => hl' i x v e1 (w i v e2) e3⟩, I.cell, I.free, I.freeC, I.pin, I.hok, hl.trans I.len⟩
theorem Inv.pins_of {pins' : List (Addr × Obj)} (I : Inv X pins σ H s) (h : ∀ p ∈ pins', s.heap.get? p.1 = some p.2 ∧ H p.1 = none ∧ p.1 ≠ X.env.locals ∧ p.1 ∉ X.fs ∧ ∀ v, p.2.data ≠ .cell v) : Inv X pins' σ H s :=
  ⟨I.ok, I.os, I.bare, I.base, I.loc, I.cell, I.free, I.freeC, fun p hp => (List.mem_append.mp hp).elim (fun z => I.pin p (List.mem_append_left _ z)) (h p), I.hok, I.len⟩

theorem nodup_ix {N : List Str} (hN : N.Nodup) {i j : Nat} {x : Str} (a : N[i]? = some x) (b : N[j]? = some x) : i = j := by
  obtain ⟨h1, e1⟩ := List.getElem?_eq_some_iff.mp a
  obtain ⟨h2, e2⟩ := List.getElem?_eq_some_iff.mp b
  exact (List.getElem_inj hN).mp (e1.trans e2.symm)

/-- a name is stored; what changed -/
theorem store_ok2 {M : Model} {A : Around} {E : Value → Shared → Prop} {i : Nat} {x : Str} {v : V} {u : Value} {Q : Unit → Shared → Prop} (I : Inv X pins σ H s) (hN : X.N.Nodup) (hi : X.N[i]? = some x) (hx : Loc X.env.scope x) (r : RelV v u)
    (h : ∀ s', Inv X pins (σ.set i (some v)) H s' → (∃ a, Heap.SameBut a s.heap s'.heap ∧ (a = X.env.locals ∨ X.env.cells.lookup x = some a)) → Q () s') (hf : X.fn x = true ∨ X.env.scope.names.lookup x = some .local := by first | exact .inl rfl | exact .inr rfl | assumption) : wpAny M A (storeName X.env x u) Q E s := by
  obtain ⟨m, hn, hl⟩ := id I.loc
  have hcls : (X.env.scope.kind == .class || (X.env.scope.kind == .module && X.env.locals != X.env.globals)) = false := by rw [I.ok.kind]; rfl
  have hiσ : i < σ.length := by rw [I.len]; exact (List.getElem?_eq_some_iff.mp hi).1
  have cne := I.cne
  have tracked : ∀ {a : Addr} {h' : Heap}, (∃ o, s.heap.get? a = some o ∧ H a = none) → Heap.SameBut a s.heap h' → HOk X.prog X.w H h' := fun {a h'} ha hs b ob e => by
    obtain ⟨_, _, hfree⟩ := ha
    refine (I.hok b ob e).stay (fun c w' hc q => (hs.2 c ?_).trans q) (fun _ q => q) fun _ _ q => q
    rintro rfl
    rcases hc with rfl | hc
    · rw [hfree] at e; cases e
    · rw [hfree] at hc; cases hc
  rcases hx with hk | hk
  · refine wpAny_storeName_local hk hn (fun h' hn' hs => ?_) hcls
    obtain ⟨oL, _, _, hoL, _⟩ := id hn
    refine h _ ⟨I.ok, I.os, I.bare, ⟨fun b o e n hb hx => ?_, fun b o e n hb hx => ?_, I.base.free, fun b o e hx => ?_, I.base.tups, I.base.frzs, I.base.tbls⟩, ⟨_, hn', fun j y v' e1 e2 e3 => ?_⟩, fun y c e => ?_, I.free, I.freeC, fun p hp => ?_, tracked ⟨oL, hoL, I.free⟩ hs, by simpa using I.len⟩ ⟨_, hs, .inl rfl⟩
    · exact (hs.2 b (Nat.ne_of_lt (Nat.lt_of_lt_of_le (Heap.lt_size e) I.ok.above))).trans (I.base.keep b o e n hb hx)
    · obtain ⟨sl, e1⟩ := I.base.slot b o e n hb hx
      exact ⟨sl, (hs.2 b (Nat.ne_of_lt (Nat.lt_of_lt_of_le (Heap.lt_size e) I.ok.above))).trans e1⟩
    · obtain ⟨o', e1⟩ := I.base.there b o e hx
      exact ⟨o', (hs.2 b (Nat.ne_of_lt (Nat.lt_of_lt_of_le (Heap.lt_size e) I.ok.above))).trans e1⟩
    · by_cases hj : j = i
      · subst hj
        rw [hi] at e1; cases e1
        rw [List.getElem?_set_self hiσ] at e2
        cases e2
        exact ⟨u, r, .inl ⟨hk, by simp⟩⟩
      · rw [List.getElem?_set_ne (Ne.symm hj)] at e2
        obtain ⟨u', r', q⟩ := hl j y v' e1 e2 e3
        refine ⟨u', r', ?_⟩
        rcases q with ⟨k, e⟩ | ⟨k, c, e, z⟩
        · refine .inl ⟨k, ?_⟩
          have : y ≠ x := fun e => hj (nodup_ix hN e1 (e ▸ hi))
          simp [this, e]
        · exact .inr ⟨k, c, e, z.sameBut hs (cne y c e)⟩
    · obtain ⟨w', z⟩ := I.cell y c e
      exact ⟨w', z.sameBut hs (cne y c e)⟩
    · obtain ⟨e, n, ne, nf, d⟩ := I.pin p hp
      exact ⟨(hs.2 p.1 ne).trans e, n, ne, nf, d⟩
  · have hfn : X.fn x = true := by
      rcases hf with z | z
      · exact z
      · rw [z] at hk; cases hk
    obtain ⟨c, hc⟩ := I.ok.has x (.inl hk)
    obtain ⟨w', z⟩ := I.cell x c hc
    refine wpAny_storeName_cell I.ok.kind hk hc z (fun h' hc' hs => ?_)
    obtain ⟨oc, hoc, hocd⟩ := id z
    refine h { s with heap := h' } ⟨I.ok, I.os, I.bare, ⟨fun b o e n hb hx => ?_, fun b o e n hb hx => ?_, I.base.free, fun b o e hx => ?_, I.base.tups, I.base.frzs, I.base.tbls⟩, ⟨m, hn.sameBut hs (Ne.symm (cne x c hc)), fun j y v' e1 e2 e3 => ?_⟩, fun y c' e => ?_, I.free, I.freeC, fun p hp => ?_, tracked ⟨oc, hoc, I.freeC x c hc⟩ hs, by simpa using I.len⟩ ⟨c, hs, .inr hc⟩
    · exact (hs.2 b (Nat.ne_of_lt (Nat.lt_of_lt_of_le (Heap.lt_size e) (I.ok.cab x c hfn hc)))).trans (I.base.keep b o e n hb hx)
    · obtain ⟨sl, e1⟩ := I.base.slot b o e n hb hx
      exact ⟨sl, (hs.2 b (Nat.ne_of_lt (Nat.lt_of_lt_of_le (Heap.lt_size e) (I.ok.cab x c hfn hc)))).trans e1⟩
    · obtain ⟨o', e1⟩ := I.base.there b o e hx
      exact ⟨o', (hs.2 b (Nat.ne_of_lt (Nat.lt_of_lt_of_le (Heap.lt_size e) (I.ok.cab x c hfn hc)))).trans e1⟩
    · by_cases hj : j = i
      · subst hj
        rw [hi] at e1; cases e1
        rw [List.getElem?_set_self hiσ] at e2
        cases e2
        exact ⟨u, r, .inr ⟨.inl hk, c, hc, hc'⟩⟩
      · rw [List.getElem?_set_ne (Ne.symm hj)] at e2
        obtain ⟨u', r', q⟩ := hl j y v' e1 e2 e3
        refine ⟨u', r', ?_⟩
        rcases q with q | ⟨k, c', e, z'⟩
        · exact .inl q
        · refine .inr ⟨k, c', e, z'.sameBut hs ?_⟩
          rintro rfl
          exact hj (nodup_ix hN e1 (I.ok.inj _ _ _ e hc ▸ hi))
    · by_cases hcc : c' = c
      · subst hcc; exact ⟨_, hc'⟩
      · obtain ⟨w2, z2⟩ := I.cell y c' e
        exact ⟨w2, z2.sameBut hs hcc⟩
    · obtain ⟨e, n, ne, nf, d⟩ := I.pin p hp
      refine ⟨(hs.2 p.1 ?_).trans e, n, ne, nf, d⟩
      intro q
      rw [q, hoc] at e
      have q' : oc = p.2 := Option.some.inj e
      exact d w' (by rw [← q']; exact hocd)
theorem store_ok {M : Model} {A : Around} {E : Value → Shared → Prop} {i : Nat} {x : Str} {v : V} {u : Value} {Q : Unit → Shared → Prop} (I : Inv X pins σ H s) (hN : X.N.Nodup) (hi : X.N[i]? = some x) (hx : Loc X.env.scope x) (r : RelV v u)
    (h : ∀ s', Inv X pins (σ.set i (some v)) H s' → Q () s') (hf : X.fn x = true ∨ X.env.scope.names.lookup x = some .local := by first | exact .inl rfl | exact .inr rfl | assumption) : wpAny M A (storeName X.env x u) Q E s :=
  store_ok2 I hN hi hx r (fun s' I' _ => h s' I') hf
/-- behind a call or a block, the state as it is -/
theorem Inv.call' {s' : Shared} {ch : List Addr} (I : Inv X pins σ H s) (ho : s'.os = s.os) (u : Un (frs X.stack) ch H H' s.heap s'.heap) (hok : HOk X.prog X.w H' s'.heap) (hg : AllBare s'.gens)
    (hch : ∀ b ∈ ch, (b ∈ X.ex ∨ X.s₀.heap.objs.size ≤ b) ∧ b ≠ X.env.locals ∧ (∀ x c, X.env.cells.lookup x = some c → c ≠ b) ∧ ∀ p ∈ X.pn ++ pins, p.1 ≠ b) : Inv X pins σ H' s' := by
  obtain ⟨h', g', d', t', o'⟩ := s'
  have e : o' = s.os := ho
  subst e
  exact I.call (g' := g') (t' := t') (d' := d') u hok hg hch
end

/-! ### the judgements -/
/-- an exception: its class, its own dict's address (where it has one), the abstract heap behind it -/
abbrev XK := Value → Option Addr → Hp → Prop
abbrev St := List (Option V)
abbrev VK := V → Hp → Prop
/-- an expression's reading; a test's; an argument list's -/
abbrev TE := St → Hp → VK → Prop
abbrev TT := St → Hp → (Bool → Hp → Prop) → Prop
abbrev TA := St → Hp → (List V → Hp → Prop) → Prop
/-- what is wanted behind a statement -/
structure Ends where
  nx : St → Hp → Prop
  rt : VK
  bk : St → Hp → Prop := fun _ _ => False
  ct : St → Hp → Prop := fun _ _ => False
abbrev TS := Ends → St → Hp → Prop

def EP (X : Cx) (pins : List (Addr × Obj)) (σ : St) (Q : VK) (u : Value) (s' : Shared) : Prop := ∃ v H', Inv X pins σ H' s' ∧ RelV v u ∧ Q v H'
def TP (X : Cx) (pins : List (Addr × Obj)) (σ : St) (Q : Bool → Hp → Prop) (b : Bool) (s' : Shared) : Prop := ∃ H', Inv X pins σ H' s' ∧ Q b H'
def AP (X : Cx) (pins : List (Addr × Obj)) (σ : St) (Q : List V → Hp → Prop) (us : List Value) (s' : Shared) : Prop := ∃ vs H', Inv X pins σ H' s' ∧ Vals vs us ∧ Q vs H'
def SP (X : Cx) (pins : List (Addr × Obj)) (D : Ends) (f : Flow) (s' : Shared) : Prop :=
  match f with
  | .next => ∃ σ' H', Inv X pins σ' H' s' ∧ D.nx σ' H'
  | .brk => ∃ σ' H', Inv X pins σ' H' s' ∧ D.bk σ' H'
  | .cont => ∃ σ' H', Inv X pins σ' H' s' ∧ D.ct σ' H'
  | .ret u => ∃ v σ' H', Inv X pins σ' H' s' ∧ RelV v u ∧ D.rt v H'

def PE (X : Cx) (e : Expr) (t : TE) : Prop :=
  ∀ (pins : List (Addr × Obj)) (s : Shared) (σ : St) (H : Hp) (Q : VK), Inv X pins σ H s → t σ H Q → wpAny (model X.prog X.w) X.A (eval e X.env) (EP X pins σ Q) X.xe s
def PT (X : Cx) (e : Expr) (t : TT) : Prop :=
  ∀ (pins : List (Addr × Obj)) (s : Shared) (σ : St) (H : Hp) (Q : Bool → Hp → Prop), Inv X pins σ H s → t σ H Q → wpAny (model X.prog X.w) X.A (isTrue e X.env (eval e X.env)) (TP X pins σ Q) X.xe s
/-- a test whatever its 'whole' is (and, or) -/
def PW (X : Cx) (e : Expr) (t : TT) : Prop :=
  ∀ (whole : Sem Value) (pins : List (Addr × Obj)) (s : Shared) (σ : St) (H : Hp) (Q : Bool → Hp → Prop), Inv X pins σ H s → t σ H Q → wpAny (model X.prog X.w) X.A (isTrue e X.env whole) (TP X pins σ Q) X.xe s
theorem PW.pt {X : Cx} {e : Expr} {t : TT} (h : PW X e t) : PT X e t := h _
/-- an argument list (no star), from the left -/
def PA (X : Cx) (es : List Expr) (t : TA) : Prop :=
  ∀ (pos : Pos) (pins : List (Addr × Obj)) (s : Shared) (σ : St) (H : Hp) (Q : List V → Hp → Prop), Inv X pins σ H s → t σ H Q → wpAny (model X.prog X.w) X.A (spliced (backTo pos (starEach es X.env))) (AP X pins σ Q) X.xe s
def PS (X : Cx) (st : Stmt) (t : TS) : Prop :=
  ∀ (pins : List (Addr × Obj)) (s : Shared) (σ : St) (H : Hp) (D : Ends), Inv X pins σ H s → t D σ H → wpAny (model X.prog X.w) X.A (exec st X.env) (SP X pins D) X.xe s
def PSs (X : Cx) (st : List Stmt) (t : TS) : Prop :=
  ∀ (pins : List (Addr × Obj)) (s : Shared) (σ : St) (H : Hp) (D : Ends), Inv X pins σ H s → t D σ H → wpAny (model X.prog X.w) X.A (execs st X.env) (SP X pins D) X.xe s
/-- weaken the end -/
theorem thn {α : Type} {t : Sem α} {Q Q' : α → Shared → Prop} {M : Model} {A : Around} {E : Value → Shared → Prop} {s : Shared} (h : wpAny M A t Q E s) (hQ : ∀ a s, Q a s → Q' a s) : wpAny M A t Q' E s := wpAny_mono h hQ fun _ _ x => x
end L2

namespace L2
open PySem PySem.Spec PyProof.Rows
section
variable {X : Cx}

/-! ### names and constants -/
def tVar (i : Nat) : TE := fun σ H Q => ∃ v, σ[i]? = some (some v) ∧ Q v H
def tC (v : V) : TE := fun _ H Q => Q v H
theorem pe_var {i : Nat} {x : Str} {pos : Pos} (hN : X.N[i]? = some x) (hv : Vis X.env.scope x) (hd : (x == ("__debug__" : Str)) = false := by decide) (hcd : (x == ("__classdict__" : Str)) = false := by decide) : PE X (.Name x pos) (tVar i) := by
  intro pins s σ H Q I h
  obtain ⟨v, e, h⟩ := h
  obtain ⟨m, hn, hl⟩ := I.loc
  obtain ⟨u, r, l⟩ := hl i x v hN e hv
  have fin : EP X pins σ Q u s := ⟨v, H, I, r, h⟩
  rcases l with ⟨hk, hm⟩ | ⟨hk, c, hc, hcell⟩
  · exact wpAny_Name (wpAny_loadName_local I.ok.kind hk hn hm fin) hd
  · rcases hk with hk | hk
    · exact wpAny_Name (wpAny_loadName_cell I.ok.kind hk hc hcell fin) hd
    · exact wpAny_Name (wpAny_loadName_free I.ok.kind hk hc hcell fin hcd) hd
theorem pe_int {i j pos} : PE X (.Constant (.int i) j pos) (tC (.int i)) := fun _ _ _ H _ I h => wpAny_Constant_int ⟨.int i, H, I.tok _, ⟨_, rfl⟩, h⟩
theorem pe_bl {b j pos} : PE X (.Constant (.bool b) j pos) (tC (.bl b)) := fun _ _ _ H _ I h => Constant_bool ⟨.bl b, H, I, rfl, h⟩
theorem pe_non {j pos} : PE X (.Constant .none j pos) (tC .non) := fun _ _ _ H _ I h => Constant_none ⟨.non, H, I, rfl, h⟩
theorem pe_str {x j pos} : PE X (.Constant (.str x) j pos) (tC (.str x)) := fun _ _ _ H _ I h => Calls.Constant_str ⟨.str x, H, I.tok _, ⟨_, rfl⟩, h⟩

/-- a global name of the def -/
def Gl (X : Cx) (x : Str) : Prop := X.env.kindOf x = some .globalImplicit
theorem ld_glob {E : Value → Shared → Prop} {pins : List (Addr × Obj)} {s : Shared} {σ : St} {H : Hp} {x : Str} {u : Value} {pos : Pos} {Q : Value → Shared → Prop} (I : Inv X pins σ H s) (hg : Gl X x) (hm : X.mg x = some u) (h : Q u s)
    (hd : (x == ("__debug__" : Str)) = false := by decide) : wpAny (model X.prog X.w) X.A (eval (.Name x pos) X.env) Q E s :=
  Calls.Name_function_global I.ok.kind hg (Calls.loadGlobal_global (by rw [I.ok.glob]; exact I.mod.glob.keeps I.bk) hm h) hd
theorem ld_blt {E : Value → Shared → Prop} {pins : List (Addr × Obj)} {s : Shared} {σ : St} {H : Hp} {x : Str} {u : Value} {pos : Pos} {Q : Value → Shared → Prop} (I : Inv X pins σ H s) (hg : Gl X x) (hm : X.mg x = none) (hv : bootBuiltins x = some u) (h : Q u s)
    (hn : x ≠ "__name__" := by decide) (hd : (x == ("__debug__" : Str)) = false := by decide) : wpAny (model X.prog X.w) X.A (eval (.Name x pos) X.env) Q E s := by
  obtain ⟨mb, h1, h2⟩ := I.mod.blt
  exact Calls.Name_function_global I.ok.kind hg (Calls.loadGlobal_builtin (by rw [I.ok.glob]; exact I.mod.glob.keeps I.bk) hm (by rw [I.ok.blt]; exact h1.keeps I.bk) ((h2 x hn).trans hv) h) hd
/-- a module's constant, a class, a function, as a value -/
theorem pe_glob {x : Str} {v : V} {u : Value} {pos : Pos} (hg : Gl X x) (hm : X.mg x = some u) (r : RelV v u) (hd : (x == ("__debug__" : Str)) = false := by decide) : PE X (.Name x pos) (tC v) :=
  fun _ _ _ H _ I h => ld_glob I hg hm ⟨v, H, I, r, h⟩ hd
theorem pe_bltn {x : Str} {v : V} {u : Value} {pos : Pos} (hg : Gl X x) (hm : X.mg x = none) (hv : bootBuiltins x = some u) (r : RelV v u) (hn : x ≠ "__name__" := by decide) (hd : (x == ("__debug__" : Str)) = false := by decide) : PE X (.Name x pos) (tC v) :=
  fun _ _ _ H _ I h => ld_blt I hg hm hv ⟨v, H, I, r, h⟩ hn hd

/-! ### arithmetic -/
variable {a b : Expr} {ta tb : TE} {pos : Pos}
/-! ### comparisons -/
def PC (X : Cx) (op : CmpOp) (a b : Expr) (t : TE) : Prop :=
  ∀ (pins : List (Addr × Obj)) (s : Shared) (σ : St) (H : Hp) (Q : VK), Inv X pins σ H s → t σ H Q →
    wpAny (model X.prog X.w) X.A (eval a X.env) (fun v s₁ => wpAny (model X.prog X.w) X.A (eval b X.env) (fun u s₂ => wpAny (model X.prog X.w) X.A (compareOp op v u) (EP X pins σ Q) X.xe s₂) X.xe s₁) X.xe s
theorem nobehind (b : Expr) {op : CmpOp} (h : op ≠ .In) (h2 : op ≠ .NotIn) : behindInMarks op b = false := by
  have e1 : (op == CmpOp.In) = false := by cases op <;> first | rfl | exact absurd rfl h
  have e2 : (op == CmpOp.NotIn) = false := by cases op <;> first | rfl | exact absurd rfl h2
  cases b <;> simp [behindInMarks, e1, e2]
/-- a comparison as a value, as a test -/
def tB (t : TE) : TT := fun σ H Q => t σ H fun x H1 => ∃ c, x = .bl c ∧ Q c H1
theorem pt_cmp {op : CmpOp} {t : TE} (h : PC X op a b t) (h1 : behindInMarks op b = false := by first | exact nobehind _ (by decide) (by decide) | rfl) : PT X (.Compare a [op] [b] pos) (tB t) := by
  intro pins s σ H Q I hw
  refine wpAny_isTrue_Compare1 (thn (h pins s σ H _ I hw) fun v s1 h1 => thn h1 fun u s2 h2 => thn h2 fun c s3 ⟨x, H1, I1, r1, q1⟩ => ?_) h1
  obtain ⟨d, rfl, q⟩ := q1
  cases r1
  exact wpAny_truthy_bool ⟨H1, I1, q⟩
/-- an expression whose value is a bool, as a test -/
theorem pt_val {e : Expr} {t : TE} (h : PE X e t) (he : ∀ whole, isTrue e X.env whole = (do let v ← whole; standAt e.pos; holding [v] (truthy v)) := by intro _; rfl) : PT X e (tB t) := by
  intro pins s σ H Q I hw
  refine isTrue_plain (thn (h pins s σ H _ I hw) fun v s1 ⟨x, H1, I1, r1, q1⟩ => ?_) (he _)
  obtain ⟨d, rfl, q⟩ := q1
  cases r1
  exact wpAny_truthy_bool ⟨H1, I1, q⟩

/-! ### and, or, not -/
variable {tA tB' : TT} {rest : List Expr}
def tOr (t u : TT) : TT := fun σ H Q => t σ H fun c H1 => if c = true then Q true H1 else u σ H1 Q
def tNot (t : TT) : TT := fun σ H Q => t σ H fun c H1 => Q (!c) H1
theorem pw_or1 (ha : PT X a tA) : PW X (.BoolOp .Or [a] pos) tA := by
  intro wh pins s σ H Q I h
  refine isTrue_or (thn (ha pins s σ H Q I h) fun c s1 e => ?_)
  cases c with
  | false => exact isTrue_or_nil e
  | true => exact e
theorem pw_or (ha : PT X a tA) (hb : PW X (.BoolOp .Or (b :: rest) pos) tB') : PW X (.BoolOp .Or (a :: b :: rest) pos) (tOr tA tB') := by
  intro wh pins s σ H Q I h
  refine isTrue_or (thn (ha pins s σ H _ I h) fun c s1 ⟨H1, I1, q1⟩ => ?_)
  cases c with
  | true => exact ⟨H1, I1, q1⟩
  | false => exact hb wh pins s1 σ H1 Q I1 q1
theorem pt_not (ha : PT X a tA) : PT X (.UnaryOp .Not a pos) (tNot tA) := by
  intro pins s σ H Q I h
  exact isTrue_not (ha pins s σ H (fun c H1 => Q (!c) H1) I h)
/-- .. as values (bools) -/
def tAndV (ta tb : TE) : TE := fun σ H Q => ta σ H fun x H1 => ∃ c, x = .bl c ∧ if c = true then tb σ H1 Q else Q (.bl false) H1
theorem pe_one {op} {t : TE} (h : PE X a t) : PE X (.BoolOp op [a] pos) t := fun pins s σ H Q I hw => BoolOp_one (h pins s σ H Q I hw)
theorem pe_and (ha : PE X a ta) (hb : PE X (.BoolOp .And (b :: rest) pos) tb) : PE X (.BoolOp .And (a :: b :: rest) pos) (tAndV ta tb) := by
  intro pins s σ H Q I h
  refine BoolOp_and (thn (ha pins s σ H _ I h) fun v s1 ⟨x, H1, I1, r1, q1⟩ => ?_)
  obtain ⟨c, rfl, q1⟩ := q1
  cases r1
  refine wpAny_truthy_bool ?_
  cases c with
  | true => exact hb pins s1 σ H1 Q I1 q1
  | false => exact ⟨.bl false, H1, I1, rfl, q1⟩
end
end L2

namespace L2
open PySem PySem.Spec PyProof.Rows

/-! ### a list, a tuple that is read: tracked, frozen, or an object of the module -/
def SqL (K : PySem.W.Frag) (H : Hp) (a : Addr) (xs : List V) : Prop :=
  Rd H a (.lst xs) ∨
    ∃ (o : Obj) (its : Array Value) (n : Nat), K.lookup a = some o ∧ o.cls = .type "list" ∧ o.dict = none ∧ o.data = .seq its n ∧ its.size ≤ sizeLine ∧ Vals xs its.toList
def SqT (K : PySem.W.Frag) (H : Hp) (a : Addr) (xs : List V) : Prop :=
  Rd H a (.tup xs) ∨
    ∃ (o : Obj) (its : Array Value) (n : Nat), K.lookup a = some o ∧ o.cls = .type "tuple" ∧ o.data = .seq its n ∧ its.size ≤ sizeLine ∧ Vals xs its.toList
def absV : Value → Option V
  | .none => some .non
  | .bool b => some (.bl b)
  | .int i _ => some (.int i)
  | .str x _ => some (.str x)
  | .bytes b _ => some (.byt b)
  | .float b _ => some (.flt b)
  | .ref a => some (.ref a)
  | .type n => some (.ty n)
  | _ => none
theorem RelV.abs {x : V} {u : Value} (r : RelV x u) : absV u = some x := by
  cases x with
  | non => cases r; rfl
  | bl _ => cases r; rfl
  | int _ => obtain ⟨t, rfl⟩ := r; rfl
  | str _ => obtain ⟨t, rfl⟩ := r; rfl
  | byt _ => obtain ⟨t, rfl⟩ := r; rfl
  | flt _ => obtain ⟨t, rfl⟩ := r; rfl
  | ref _ => cases r; rfl
  | ty _ => cases r; rfl
theorem RelV.inj {x y : V} {u : Value} (r : RelV x u) (q : RelV y u) : x = y := Option.some.inj (r.abs.symm.trans q.abs)
theorem Vals.inj : ∀ {xs ys : List V} {us : List Value}, Vals xs us → Vals ys us → xs = ys
  | _, _, _, .nil, .nil => rfl
  | _, _, _, .cons r t, .cons r' t' => by rw [r.inj r', Vals.inj t t']
section
variable {X : Cx} {pins : List (Addr × Obj)} {σ : St} {H : Hp} {s : Shared} {a : Addr} {xs ys : List V}
theorem SqL.of {K : PySem.W.Frag} (h : H a = some (.lst xs)) : SqL K H a xs := .inl (.inl h)
theorem SqT.of {K : PySem.W.Frag} (h : H a = some (.tup xs)) : SqT K H a xs := .inl (.inl h)
theorem Inv.list (I : Inv X pins σ H s) (h : SqL X.K H a xs) : ∃ its : List Value, Vals xs its ∧ PlainL s.heap a its.toArray ∧ xs.length ≤ sizeLine := by
  rcases h with h | ⟨o, its, n, hk, hc, hd, hs, hz, r⟩
  · obtain ⟨z, its, n, r, e⟩ := h.ok I.hok
    exact ⟨its, r, ⟨_, n, e, rfl, rfl, rfl⟩, z⟩
  · refine ⟨its.toList, r, ⟨o, n, I.kIn a o hk, hc, hd, by simpa using hs⟩, ?_⟩
    have e := r.length
    simp only [Array.length_toList] at e
    omega
theorem Inv.tuple (I : Inv X pins σ H s) (h : SqT X.K H a xs) : ∃ its : List Value, Vals xs its ∧ IsTup s.heap a its.toArray ∧ xs.length ≤ sizeLine := by
  rcases h with h | ⟨o, its, n, hk, hc, hs, hz, r⟩
  · obtain ⟨z, its, r, p⟩ := h.ok I.hok
    exact ⟨its, r, p, z⟩
  · refine ⟨its.toList, r, ⟨o, I.kIn a o hk, hc, n, by simpa using hs⟩, ?_⟩
    have e := r.length
    simp only [Array.length_toList] at e
    omega
theorem Inv.list_inj (I : Inv X pins σ H s) (h : SqL X.K H a xs) (h' : SqL X.K H a ys) : xs = ys := by
  obtain ⟨its, r, ⟨o, n, e, _, _, d⟩, _⟩ := I.list h
  obtain ⟨its', r', ⟨o', n', e', _, _, d'⟩, _⟩ := I.list h'
  rw [e] at e'; cases e'
  rw [d] at d'
  injection d' with d1 _
  have : its = its' := by simpa using congrArg Array.toList d1
  subst this
  exact r.inj r'
end

/-! ### another wish about exceptions -/
abbrev Cx.wish (X : Cx) (E : Value → Shared → Prop) : Cx := { X with xe := E }
/-- no exception leaves -/
abbrev Cx.nox (X : Cx) : Cx := X.wish fun _ _ => False
theorem Cx.Ok.wish {X : Cx} (ok : X.Ok) (E : Value → Shared → Prop) : (X.wish E).Ok :=
  ⟨ok.mod, ok.kind, ok.glob, ok.blt, ok.above, ok.inj, ok.has, ok.cab, ok.hd, ok.frames, ok.stk, ok.exf, ok.bs, ok.bsz, ok.noex, ok.exfs, ok.funs, ok.frf⟩
theorem Cx.Ok.unwish {X : Cx} {E : Value → Shared → Prop} (ok : (X.wish E).Ok) : X.Ok :=
  ⟨ok.mod, ok.kind, ok.glob, ok.blt, ok.above, ok.inj, ok.has, ok.cab, ok.hd, ok.frames, ok.stk, ok.exf, ok.bs, ok.bsz, ok.noex, ok.exfs, ok.funs, ok.frf⟩
section
variable {X : Cx} {pins : List (Addr × Obj)} {σ : St} {H : Hp} {s : Shared} {E : Value → Shared → Prop}
theorem Inv.wish (I : Inv X pins σ H s) (E : Value → Shared → Prop) : Inv (X.wish E) pins σ H s := ⟨I.ok.wish E, I.os, I.bare, I.base, I.loc, I.cell, I.free, I.freeC, I.pin, I.hok, I.len⟩
theorem Inv.unwish (I : Inv (X.wish E) pins σ H s) : Inv X pins σ H s := ⟨I.ok.unwish, I.os, I.bare, I.base, I.loc, I.cell, I.free, I.freeC, I.pin, I.hok, I.len⟩
theorem SP.unwish {D : Ends} {f : Flow} {s' : Shared} (h : SP (X.wish E) pins D f s') : SP X pins D f s' := by
  cases f with
  | next => obtain ⟨σ', H', I, q⟩ := h; exact ⟨σ', H', I.unwish, q⟩
  | brk => obtain ⟨σ', H', I, q⟩ := h; exact ⟨σ', H', I.unwish, q⟩
  | cont => obtain ⟨σ', H', I, q⟩ := h; exact ⟨σ', H', I.unwish, q⟩
  | ret u => obtain ⟨v, σ', H', I, r, q⟩ := h; exact ⟨v, σ', H', I.unwish, r, q⟩
theorem PE.nox {e : Expr} {t : TE} (h : PE X.nox e t) : PE X e t := fun pins s σ H Q I hw =>
  wpAny_mono (h pins s σ H Q (I.wish _) hw) (fun _ _ ⟨v, H', I', r, q⟩ => ⟨v, H', I'.unwish, r, q⟩) fun _ _ z => False.elim z
theorem PT.nox {e : Expr} {t : TT} (h : PT X.nox e t) : PT X e t := fun pins s σ H Q I hw =>
  wpAny_mono (h pins s σ H Q (I.wish _) hw) (fun _ _ ⟨H', I', q⟩ => ⟨H', I'.unwish, q⟩) fun _ _ z => False.elim z
theorem PSs.nox {st : List Stmt} {t : TS} (h : PSs X.nox st t) : PSs X st t := fun pins s σ H D I hw =>
  wpAny_mono (h pins s σ H D (I.wish _) hw) (fun _ _ q => q.unwish) fun _ _ z => False.elim z
end

/-! ### blocks and small statements -/
section
variable {X : Cx} {st : Stmt} {rest : List Stmt} {t u : TS} {e : Expr} {te : TE} {pos : Pos}
def tNext : TS := fun D σ H => D.nx σ H
def tSeq (t u : TS) : TS := fun D σ H => t { D with nx := u D } σ H
theorem pss_nil : PSs X [] tNext := fun _ _ σ H _ I h => wpAny_execs_nil ⟨σ, H, I, h⟩
theorem pss_cons (h1 : PS X st t) (h2 : PSs X rest u) : PSs X (st :: rest) (tSeq t u) := by
  intro pins s σ H D I h
  refine wpAny_execs_cons (thn (h1 pins s σ H { D with nx := u D } I h) fun f s1 q => ?_)
  cases f with
  | next =>
    obtain ⟨σ', H', I', q⟩ := q
    exact h2 pins s1 σ' H' D I' q
  | ret v => exact q
  | brk => exact q
  | cont => exact q
theorem pss_one (h1 : PS X st t) : PSs X [st] t := by
  intro pins s σ H D I h
  refine wpAny_execs_cons (thn (h1 pins s σ H D I h) fun f s1 q => ?_)
  cases f with
  | next => exact wpAny_execs_nil q
  | ret v => exact q
  | brk => exact q
  | cont => exact q
/-- in a def's body nothing is shown -/
theorem Inv.quiet {pins : List (Addr × Obj)} {σ : St} {H : Hp} {s : Shared} (I : Inv X pins σ H s) : interactive X.env = false := by simp [interactive, I.ok.kind]
/-- an expression whose value is dropped -/
def tDrop (te : TE) : TS := fun D σ H => te σ H fun _ H1 => D.nx σ H1
theorem ps_expr (he : PE X e te) (hs : swapsWith e none pos.line X.env = pure false := by rfl) : PS X (.Expr e pos) (tDrop te) := by
  intro pins s σ H D I h
  exact wpAny_Expr_any (thn (he pins s σ H _ I h) fun v s1 ⟨x, H1, I1, r1, q1⟩ => ⟨σ, H1, I1, q1⟩) I.quiet hs
def tRet (te : TE) : TS := fun D σ H => te σ H D.rt
theorem ps_ret (he : PE X e te) : PS X (.Return (some e) pos) (tRet te) := by
  intro pins s σ H D I h
  exact wpAny_Return_some (thn (he pins s σ H _ I h) fun v s1 ⟨x, H1, I1, r1, q1⟩ => ⟨x, σ, H1, I1, r1, q1⟩)
def tIfS (c : TT) (t u : TS) : TS := fun D σ H => c σ H fun b H1 => if b = true then t D σ H1 else u D σ H1
theorem ps_if {c : Expr} {a b : List Stmt} {tc : TT} (hc : PT X c tc) (ha : PSs X a t) (hb : PSs X b u) : PS X (.If c a b pos) (tIfS tc t u) := by
  intro pins s σ H D I h
  refine wpAny_If (thn (hc pins s σ H _ I h) fun d s1 ⟨H1, I1, q1⟩ => ?_)
  cases d with
  | true => exact ha pins s1 σ H1 D I1 q1
  | false => exact hb pins s1 σ H1 D I1 q1
end

/-! ### targets -/
abbrev TG := V → St → Hp → (St → Hp → Prop) → Prop
abbrev TGs := List V → St → Hp → (St → Hp → Prop) → Prop
def PG (X : Cx) (target : Expr) (t : TG) : Prop :=
  ∀ (pins : List (Addr × Obj)) (s : Shared) (σ : St) (H : Hp) (v : V) (u : Value) (Q : St → Hp → Prop), Inv X pins σ H s → RelV v u → t v σ H Q →
    wpAny (model X.prog X.w) X.A (assign target X.env u) (fun _ s' => ∃ σ' H', Inv X pins σ' H' s' ∧ Q σ' H') X.xe s
/-- several targets, one after another -/
def PGs (X : Cx) (ts : List Expr) (t : TGs) : Prop :=
  ∀ (pins : List (Addr × Obj)) (s : Shared) (σ : St) (H : Hp) (vs : List V) (us : List Value) (Q : St → Hp → Prop), Inv X pins σ H s → Vals vs us → t vs σ H Q →
    wpAny (model X.prog X.w) X.A (assignInOrder ((assignEach ts X.env).map (·.2)) us) (fun _ s' => ∃ σ' H', Inv X pins σ' H' s' ∧ Q σ' H') X.xe s
section
variable {X : Cx} {pos : Pos}
def gName (i : Nat) : TG := fun v σ H Q => Q (σ.set i (some v)) H
theorem pg_name {i : Nat} {x : Str} (hN : X.N.Nodup) (hi : X.N[i]? = some x) (hx : Loc X.env.scope x) (hf : X.fn x = true ∨ X.env.scope.names.lookup x = some .local := by first | exact .inl rfl | exact .inr rfl | assumption) : PG X (.Name x pos) (gName i) := by
  intro pins s σ H v u Q I r h
  exact wpAny_assign_Name (store_ok I hN hi hx r (fun s' I' => ⟨_, H, I', h⟩) hf)
def gNil : TGs := fun vs σ H Q => vs = [] ∧ Q σ H
def gCons (t : TG) (u : TGs) : TGs := fun vs σ H Q => ∃ v r, vs = v :: r ∧ t v σ H fun σ' H' => u r σ' H' Q
theorem pgs_nil : PGs X [] gNil := by
  intro pins s σ H vs us Q I r h
  obtain ⟨e, h⟩ := h
  subst e
  cases r
  exact assignInOrder_nil ⟨σ, H, I, h⟩
theorem pgs_cons {e : Expr} {es : List Expr} {t : TG} {u : TGs} (h1 : PG X e t) (h2 : PGs X es u)
    (hs : (assignEach (e :: es) X.env).map (·.2) = assign e X.env :: (assignEach es X.env).map (·.2) := by rfl) : PGs X (e :: es) (gCons t u) := by
  intro pins s σ H vs us Q I r h
  obtain ⟨v, vr, e1, h⟩ := h
  subst e1
  cases r with
  | cons r rr =>
    rw [hs]
    refine assignInOrder_cons (thn (h1 pins s σ H _ _ _ I r h) fun _ s1 ⟨σ1, H1, I1, q1⟩ => ?_)
    exact h2 pins s1 σ1 H1 _ _ Q I1 rr q1
/-- (a, b, ..) = a tuple of that length -/
def gTup (K : PySem.W.Frag) (n : Nat) (t : TGs) : TG := fun v σ H Q => ∃ a xs, v = .ref a ∧ SqT K H a xs ∧ xs.length = n ∧ t xs σ H Q
theorem pg_tup {es : List Expr} {k : Nat} {t : TGs} {n : Nat} (hc : X.calm = true) (h : PGs X es t)
    (hn : (assignEach es X.env).length = n := by rfl) (hst : (assignEach es X.env).findIdx? (·.1) = none := by rfl) : PG X (.Tuple es k pos) (gTup X.K n t) := by
  intro pins s σ H v u Q I r hw
  obtain ⟨a, xs, e1, hq, hl, hw⟩ := hw
  subst e1
  cases r
  obtain ⟨its, rv, ht, hz⟩ := I.tuple hq
  refine assign_Tuple_tuple (I.ok.hd hc) ht (by simp [hn, ← hl, rv.length]) hst fun h' hx => ?_
  have I1 : Inv X pins σ H { s with heap := h' } := I.kept (t' := s.toks) fun b o e => hx b o (Nat.ne_of_lt (Heap.lt_size e)) e
  exact h pins _ σ H xs _ Q I1 (by simpa using rv) hw
/-- target = value -/
def tAsg (te : TE) (g : TG) : TS := fun D σ H => te σ H fun x H1 => g x σ H1 D.nx
/-- name = value -/
theorem ps_set {i : Nat} {x : Str} {e : Expr} {te : TE} {pos' : Pos} (hN : X.N.Nodup) (hi : X.N[i]? = some x) (hx : Loc X.env.scope x) (he : PE X e te) (hs : swapsWith e (some (.Name x pos')) pos.line X.env = pure false := by rfl) (hf : X.fn x = true ∨ X.env.scope.names.lookup x = some .local := by first | exact .inl rfl | exact .inr rfl | assumption) :
    PS X (.Assign [.Name x pos'] e pos) (tAsg te (gName i)) := by
  intro pins s σ H D I h
  refine wpAny_Assign_Name (thn (he pins s σ H _ I h) fun v s1 ⟨y, H1, I1, r1, q1⟩ => ?_) hs
  exact store_ok I1 hN hi hx r1 (fun s2 I2 => ⟨_, H1, I2, q1⟩) hf
end

/-! ### while -/
section
variable {X : Cx} {pos : Pos}
/-- the invariant W with its measure -/
def tWhile (c : TT) (tb : TS) : TS := fun D σ H => ∃ W : Nat → St → Hp → Prop, (∃ m, W m σ H) ∧ ∀ m σ H, W m σ H →
  c σ H fun b H1 => if b = true then ∃ N : St → Hp → Prop, (∀ σ' H', N σ' H' → ∃ m', m' < m ∧ W m' σ' H') ∧ tb { D with nx := N, ct := N, bk := D.nx } σ H1 else D.nx σ H1
theorem ps_while {c : Expr} {body : List Stmt} {tc : TT} {tb : TS} (hp : PassesOwn (model X.prog X.w) X.A X.env X.xe) (hc : PT X c tc) (hb : PSs X body tb) : PS X (.While c body [] pos) (tWhile tc tb) := by
  intro pins s σ H D I h
  obtain ⟨W, ⟨m0, w0⟩, turn⟩ := h
  refine wpAny_While (codeAny_whileLoop (fun n s' => ∃ σ' H', Inv X pins σ' H' s' ∧ W n σ' H') ?_ m0 ⟨σ, H, I, w0⟩)
  rintro n s1 ⟨σ1, H1, I1, w1⟩
  refine wpAny_passesOwn hp (thn (hc pins s1 σ1 H1 _ I1 (turn n σ1 H1 w1)) fun b s2 ⟨H2, I2, q2⟩ => ?_)
  cases b with
  | true =>
    obtain ⟨N, hN, q2⟩ := q2
    rw [if_pos rfl]
    refine wpAny_passesOwn hp (thn (hb pins s2 σ1 H2 _ I2 q2) fun f s3 q3 => ?_)
    cases f with
    | next =>
      obtain ⟨σ3, H3, I3, n3⟩ := q3
      obtain ⟨m', hm, w3⟩ := hN σ3 H3 n3
      exact ⟨m', hm, σ3, H3, I3, w3⟩
    | cont =>
      obtain ⟨σ3, H3, I3, n3⟩ := q3
      obtain ⟨m', hm, w3⟩ := hN σ3 H3 n3
      exact ⟨m', hm, σ3, H3, I3, w3⟩
    | brk => exact q3
    | ret v => exact q3
  | false =>
    rw [if_neg Bool.false_ne_true]
    exact wpAny_execs_nil ⟨σ1, H2, I2, q2⟩
end

/-! ### what a loop or a comprehension walks -/
/-- at turn i: it yields x (the heap may grow), or it stops -/
structure It where
  go : Nat → Hp → Prop
  yld : Nat → Hp → V → Hp → Prop
  stop : Nat → Hp → Prop
/-- the iterator's own objects may turn: they are not the frame's, not pinned, younger than the entry (or a comprehension's own) -/
def FpOk (X : Cx) (pins : List (Addr × Obj)) (H : Hp) (b : Addr) : Prop :=
  H b = none ∧ b ≠ X.env.locals ∧ b ∉ X.fs ∧ (b ∈ X.ex ∨ X.s₀.heap.objs.size ≤ b) ∧ (∀ x c, X.env.cells.lookup x = some c → c ≠ b) ∧ ∀ p ∈ X.pn ++ pins, p.1 ≠ b
theorem Inv.fpOk {X : Cx} {pins : List (Addr × Obj)} {σ : St} {H H' : Hp} {s : Shared} {b : Addr} (I : Inv X pins σ H s) (hb : s.heap.objs.size ≤ b) (hn : H' b = none) : FpOk X pins H' b := by
  refine ⟨hn, Nat.ne_of_gt (Nat.lt_of_lt_of_le I.lt hb), I.nofs hb, .inr (Nat.le_trans I.sz hb), fun x c e z => ?_, fun p hp z => ?_⟩
  · obtain ⟨v, q⟩ := I.cell x c e
    exact absurd (Nat.lt_of_lt_of_le q.lt (by rw [z]; exact hb)) (Nat.lt_irrefl _)
  · exact absurd (Nat.lt_of_lt_of_le (Heap.lt_size (I.pin p hp).1) (by rw [z]; exact hb)) (Nat.lt_irrefl _)
structure Turn (P : Program) (w : World) (K : PySem.W.Frag) (tg : Expr) (J : It) (fp : List Addr) (it : Addr) (tn : Nat → Heap → Prop) : Prop where
  mem : it ∈ fp
  obj : ∀ i h, tn i h → ∀ b ∈ fp, ∃ o, h.get? b = some o ∧ ∀ v, o.data ≠ .cell v
  keep : ∀ i h h', tn i h → (∀ b ∈ fp, ∀ o, h.get? b = some o → h'.get? b = some o) → tn i h'
  item : ∀ (X : Cx), X.prog = P → X.w = w → X.K = K → X.calm = true → ∀ (i : Nat) (pins : List (Addr × Obj)) (s : Shared) (σ : St) (H : Hp) (E : Value → Shared → Prop), Inv X pins σ H s → (∀ b ∈ fp, FpOk X pins H b) → tn i s.heap → J.go i H →
    wpAny (model P w) X.A (pyNext (.ref it)) (fun r s1 => ∃ u, r = some u ∧
      wpAny (model P w) X.A (letOwnedTupleGo tg (.ref it) u) (fun _ s2 => ∃ x H', Inv X pins σ H' s2 ∧ RelV x u ∧ J.yld i H x H' ∧ tn (i + 1) s2.heap ∧ ∀ b ∈ fp, H' b = none) E s1) E s
  done : ∀ (X : Cx), X.prog = P → X.w = w → X.K = K → X.calm = true → ∀ (i : Nat) (pins : List (Addr × Obj)) (s : Shared) (σ : St) (H : Hp) (E : Value → Shared → Prop), Inv X pins σ H s → (∀ b ∈ fp, FpOk X pins H b) → tn i s.heap → J.stop i H →
    wpAny (model P w) X.A (pyNext (.ref it)) (fun r s1 => r = none ∧ Inv X pins σ H s1) E s
  self : ∀ (A : Around) (i : Nat) (s : Shared) (Q : Value → Shared → Prop) (E : Value → Shared → Prop), tn i s.heap → Q (.ref it) s → wpAny (model P w) A (pyIter (.ref it)) Q E s
abbrev TI := St → Hp → (It → Hp → Prop) → Prop
/-- an iterator has come -/
def PIE (X : Cx) (pins : List (Addr × Obj)) (σ : St) (tg : Expr) (R : It → Hp → Prop) (itv : Value) (s2 : Shared) : Prop :=
  ∃ (it : Addr) (fp : List Addr) (tn : Nat → Heap → Prop) (J : It) (H' : Hp), itv = .ref it ∧ Inv X pins σ H' s2 ∧ Turn X.prog X.w X.K tg J fp it tn ∧ tn 0 s2.heap ∧ (∀ b ∈ fp, FpOk X pins H' b) ∧ R J H'
def PI (X : Cx) (tg iter : Expr) (wi : TI) : Prop :=
  ∀ (pins : List (Addr × Obj)) (s : Shared) (σ : St) (H : Hp) (R : It → Hp → Prop), Inv X pins σ H s → wi σ H R →
    wpAny (model X.prog X.w) X.A (eval iter X.env) (fun v s1 => wpAny (model X.prog X.w) X.A (pyIter v) (PIE X pins σ tg R) X.xe s1) X.xe s

/-- the step ahead of the store is nothing for an iterator that keeps no tuple -/
theorem go_of {M : Model} {A : Around} {E : Value → Shared → Prop} {s : Shared} {tg : Expr} {it : Addr} {u : Value} {o : Obj} {n : String} {vs : Array Value} {Q : Unit → Shared → Prop} (ho : s.heap.get? it = some o) (hc : o.cls = .type n) (hd : o.data = .fields vs)
    (hn : ["enumerate", "zip", "dict_itemiterator", "dict_reverseitemiterator", "odict_iterator", "itertools.zip_longest", "itertools.pairwise"].contains n = false) (hQ : Q () s) : wpAny M A (letOwnedTupleGo tg (.ref it) u) Q E s := by
  unfold letOwnedTupleGo
  cases tg <;> first
    | exact wpAny_pure hQ
    | (cases u <;> first
        | exact wpAny_pure hQ
        | (refine wpAny_bind (wpAny_load ho ?_)
           rw [hc, hd]
           show wpAny M A (if (["enumerate", "zip", "dict_itemiterator", "dict_reverseitemiterator", "odict_iterator", "itertools.zip_longest", "itertools.pairwise"].contains n && vs[0]? == some (rawInt _)) = true then _ else _) Q E s
           rw [if_neg (by intro h; rw [hn, Bool.false_and] at h; cases h)]
           exact wpAny_pure hQ))

/-- the list at a, as it stands at each turn (a loop may append to it) -/
def Itl (K : PySem.W.Frag) (a : Addr) : It :=
  ⟨fun i H => ∃ xs x, SqL K H a xs ∧ xs[i]? = some x, fun i H x H' => H' = H ∧ ∀ xs, SqL K H a xs → xs[i]? = some x, fun i H => ∃ xs, SqL K H a xs ∧ xs.length ≤ i⟩
/-- lo, lo + 1, .. (n of them) -/
def Itr (lo : Int) (n : Nat) : It := ⟨fun i _ => i < n, fun i H x H' => H' = H ∧ x = .int (lo + i), fun i _ => n ≤ i⟩
theorem turn_list {P : Program} {w : World} {K : PySem.W.Frag} {tg : Expr} (a it : Addr) : Turn P w K tg (Itl K a) [it] it (fun i h => h.IsListIter it a i) where
  mem := by simp
  obj := fun i h st b hb => by
    have e : b = it := by simpa using hb
    subst e
    obtain ⟨o, e, c, d⟩ := st
    exact ⟨o, e, fun v z => by rw [d] at z; cases z⟩
  keep := fun i h h' st k => st.at fun o e => k it (by simp) o e
  item := by
    intro X hP hw hK hc i pins s σ H E I hf st hg
    subst hP hw hK
    obtain ⟨xs, x, hq, hx⟩ := hg
    obtain ⟨its, rv, p, hz⟩ := I.list hq
    obtain ⟨u, hu, ru⟩ := rv.get hx
    obtain ⟨f0, f1, f2, f3, f4, f5⟩ := hf it (by simp)
    refine wpAny_pyNext_list_item st p.isList (x := u) (by simpa using hu) fun h' st' sb => ?_
    have I1 : Inv X pins σ H { s with heap := h' } := I.turned (t' := s.toks) (fun b o hb e => (sb.2 b hb).trans e) f0 f1 f3 f4 f5
    obtain ⟨o, e, c, d⟩ := id st'
    exact ⟨u, rfl, go_of (s := { s with heap := h' }) e c d (by decide) ⟨x, H, I1, ru, ⟨rfl, fun ys hy => by rw [I.list_inj hy hq]; exact hx⟩, st', fun b hb => (hf b hb).1⟩⟩
  done := by
    intro X hP hw hK hc i pins s σ H E I hf st hg
    subst hP hw hK
    obtain ⟨xs, hq, hx⟩ := hg
    obtain ⟨its, rv, p, hz⟩ := I.list hq
    obtain ⟨f0, f1, f2, f3, f4, f5⟩ := hf it (by simp)
    have hl := rv.length
    exact wpAny_pyNext_list_end (I.ok.hd hc) st p.isList (by simp; omega) fun h' eb => ⟨rfl, I.turned (t' := s.toks) (fun b o hb e => eb b o hb e) f0 f1 f3 f4 f5⟩
  self := fun _ _ _ _ _ st h => wpAny_pyIter_listiter st h
theorem turn_range {P : Program} {w : World} {K : PySem.W.Frag} {tg : Expr} (it : Addr) (lo : Int) (n : Nat) : Turn P w K tg (Itr lo n) [it] it (fun i h => IsRangeIter h it (lo + (i : Nat) * 1) ((n : Int) - (i : Nat)) 1) where
  mem := by simp
  obj := fun i h st b hb => by
    have e : b = it := by simpa using hb
    subst e
    exact ⟨_, st, fun v z => by
      have z' : Data.fields _ = Data.cell v := z
      cases z'⟩
  keep := fun i h h' st k => k it (by simp) _ st
  item := by
    intro X hP hw hK hc i pins s σ H E I hf st hg
    subst hP hw hK
    obtain ⟨f0, f1, f2, f3, f4, f5⟩ := hf it (by simp)
    have W := Walks.range (prog := X.prog) (w := X.w) (I.ok.hd hc) it lo 1 n
    refine W.item i s _ _ hg st fun v h' tk hv st' kk => ?_
    obtain ⟨t, rfl⟩ := hv
    have I1 : Inv X pins σ H { s with heap := h', toks := tk } := I.turned (fun b o hb e => kk b o (by simpa using hb) e) f0 f1 f3 f4 f5
    refine ⟨_, rfl, go_of (s := { s with heap := h', toks := tk }) (n := "range_iterator") st' rfl rfl (by decide) ⟨.int (lo + i), H, I1, ⟨t, ?_⟩, ⟨rfl, rfl⟩, st', fun b hb => (hf b hb).1⟩⟩
    rw [Int.mul_one]
  done := by
    intro X hP hw hK hc i pins s σ H E I hf st hg
    subst hP hw hK
    obtain ⟨f0, f1, f2, f3, f4, f5⟩ := hf it (by simp)
    exact wpAny_pyNext_range_end (I.ok.hd hc) st (by have : n ≤ i := hg; omega) fun h' eb => ⟨rfl, I.turned (t' := s.toks) (fun b o hb e => eb b o hb e) f0 f1 f3 f4 f5⟩
  self := fun _ _ _ _ _ st h => wpAny_pyIter_rangeiter st h
end L2

namespace L2
open PySem PySem.Spec PyProof.Rows
section
variable {X : Cx} {tg : Expr}
def iList (K : PySem.W.Frag) (tl : TE) : TI := fun σ H R => tl σ H fun x H1 => ∃ a, x = .ref a ∧ (∃ xs, SqL K H1 a xs) ∧ R (Itl K a) H1
theorem pi_list {l : Expr} {tl : TE} (hl : PE X l tl) : PI X tg l (iList X.K tl) := by
  intro pins s σ H R I h
  refine thn (hl pins s σ H _ I h) fun v s1 ⟨x, H1, I1, r1, q1⟩ => ?_
  obtain ⟨a, e, ⟨xs, hq⟩, q⟩ := q1
  subst e
  cases r1
  obtain ⟨its, rv, p, hz⟩ := I1.list hq
  refine wpAny_pyIter_list p.isList ?_
  refine ⟨s1.heap.objs.size, [s1.heap.objs.size], _, _, H1, rfl, I1.kept (t' := s1.toks) fun b o e => Heap.get?_push_of_some _ e, turn_list a _, ⟨_, Heap.get?_push_size _ rfl, rfl, rfl⟩, fun b hb => ?_, q⟩
  have e : b = s1.heap.objs.size := by simpa using hb
  subst e
  exact I1.fpOk (Nat.le_refl _) (I1.hok.fresh (Nat.le_refl _))
/-- a range object just made, walked -/
theorem range_it {pins : List (Addr × Obj)} {σ : St} {H : Hp} {s : Shared} {R : It → Hp → Prop} {E : Value → Shared → Prop} {lo hi : Int} {t u v : Tok} {tk : Nat} (I : Inv X pins σ H s) (h1 : -(2 ^ 62) ≤ lo) (h2 : lo < 2 ^ 62) (h3 : -(2 ^ 62) ≤ hi) (h4 : hi < 2 ^ 62)
    (q : R (Itr lo (hi - lo).toNat) H) : wpAny (model X.prog X.w) X.A (pyIter (.ref s.heap.objs.size)) (PIE X pins σ tg R) E { s with heap := s.heap.push { cls := .type "range", data := .fields #[.int lo t, .int hi u, .int 1 v] }, toks := tk } := by
  refine wpAny_pyIter_range (IsRange.new ..) (small_one h1 h2 h3 h4) ?_
  have I1 : Inv X pins σ H { s with heap := s.heap.push { cls := .type "range", data := .fields #[.int lo t, .int hi u, .int 1 v] }, toks := tk } := I.kept fun b o e => Heap.get?_push_of_some _ e
  refine ⟨(s.heap.push { cls := .type "range", data := .fields #[.int lo t, .int hi u, .int 1 v] }).objs.size, [(s.heap.push { cls := .type "range", data := .fields #[.int lo t, .int hi u, .int 1 v] }).objs.size], _, _, H, rfl,
    I1.kept (t' := tk) fun b o e => Heap.get?_push_of_some _ e, turn_range _ lo (hi - lo).toNat, ?_, fun b hb => ?_, q⟩
  · have e1 : lo + ((0 : Nat) : Int) * 1 = lo := by simp
    have e2 : (((hi - lo).toNat : Nat) : Int) - ((0 : Nat) : Int) = Builtin.Range.rangeSize lo hi 1 := by rw [rangeSize_one]; split <;> omega
    show IsRangeIter _ _ (lo + ((0 : Nat) : Int) * 1) ((((hi - lo).toNat : Nat) : Int) - ((0 : Nat) : Int)) 1
    rw [e1, e2]
    exact Heap.get?_push_size _ rfl
  · have e : b = (s.heap.push { cls := .type "range", data := .fields #[.int lo t, .int hi u, .int 1 v] }).objs.size := by simpa using hb
    subst e
    exact I1.fpOk (Nat.le_refl _) (I1.hok.fresh (Nat.le_refl _))
def iRng1 (ta : TA) : TI := fun σ H R => ta σ H fun vs H1 => ∃ j : Int, vs = [.int j] ∧ -(2 ^ 62) ≤ j ∧ j < 2 ^ 62 ∧ R (Itr 0 j.toNat) H1
theorem pi_range1 {a : Expr} {ta : TA} {p pos : Pos} (hg : Gl X "range") (hm : X.mg "range" = none) (ha : PA X [a] ta) (hs : starEach [a] X.env = [(false, eval a X.env)] := by rfl) : PI X tg (.Call (.Name "range" p) [a] [] pos) (iRng1 ta) := by
  intro pins s σ H R I h
  refine Call_ (ld_blt I hg hm boot_range (PyProof.Rows.callWith_type1 (thn (ha pos pins s σ H _ I h) fun us s1 ⟨vs, H1, I1, r1, q1⟩ => ?_) hs rfl))
  obtain ⟨j, e, q1, q2, q⟩ := q1
  subst e
  cases r1 with
  | cons r rr =>
    cases rr
    obtain ⟨t, rfl⟩ := r
    exact call_range_1 (range_it I1 (by omega) (by omega) q1 q2 (by simpa using q))
/-! ### for -/
/-- W: the invariant by the turn and a measure; N: what the body is to reach -/
def tFor (wi : TI) (g : TG) (tb : TS) : TS := fun D σ H => wi σ H fun J H1 => ∃ W : Nat → Nat → St → Hp → Prop, (∃ m, W 0 m σ H1) ∧ ∀ i m σ H, W i m σ H →
  (J.stop i H ∧ D.nx σ H) ∨ (J.go i H ∧ ∃ N : St → Hp → Prop, (∀ σ' H', N σ' H' → ∃ m', m' < m ∧ W (i + 1) m' σ' H') ∧ ∀ x H', J.yld i H x H' → g x σ H' fun σ2 H2 => tb { D with nx := N, ct := N, bk := D.nx } σ2 H2)
/-- the records at fp as they stand -/
def pinsAt (fp : List Addr) (h : Heap) : List (Addr × Obj) := fp.filterMap fun b => (h.get? b).map fun o => (b, o)
theorem mem_pinsAt {fp : List Addr} {h : Heap} {b : Addr} {o : Obj} (hb : b ∈ fp) (e : h.get? b = some o) : (b, o) ∈ pinsAt fp h := List.mem_filterMap.mpr ⟨b, hb, by rw [e]; rfl⟩
theorem of_pinsAt {fp : List Addr} {h : Heap} {p : Addr × Obj} (hp : p ∈ pinsAt fp h) : p.1 ∈ fp ∧ h.get? p.1 = some p.2 := by
  obtain ⟨b, hb, e⟩ := List.mem_filterMap.mp hp
  cases q : h.get? b with
  | none => rw [q] at e; cases e
  | some o =>
    rw [q] at e
    have e' : (b, o) = p := Option.some.inj e
    subst e'
    exact ⟨hb, q⟩
theorem Inv.pinned {pins : List (Addr × Obj)} {σ : St} {H : Hp} {s : Shared} {fp : List Addr} (I : Inv X pins σ H s) (hf : ∀ b ∈ fp, FpOk X pins H b) (ho : ∀ b ∈ fp, ∃ o, s.heap.get? b = some o ∧ ∀ v, o.data ≠ .cell v) : Inv X (pins ++ pinsAt fp s.heap) σ H s :=
  I.pins_of fun p hp => (List.mem_append.mp hp).elim (fun z => I.pin p (List.mem_append_right _ z)) fun z => by
    obtain ⟨hb, e⟩ := of_pinsAt z
    obtain ⟨f0, f1, f2, _⟩ := hf p.1 hb
    obtain ⟨o, e', d⟩ := ho p.1 hb
    rw [e] at e'; cases e'
    exact ⟨e, f0, f1, f2, d⟩
theorem Inv.unpinned {pins pl : List (Addr × Obj)} {σ : St} {H : Hp} {s : Shared} (I : Inv X (pins ++ pl) σ H s) : Inv X pins σ H s := I.pins_of fun p hp => I.pin p (List.mem_append_right _ (List.mem_append_left _ hp))
theorem ps_for {iter : Expr} {body : List Stmt} {wi : TI} {g : TG} {tb : TS} {pos : Pos} (hp : PassesOwn (model X.prog X.w) X.A X.env X.xe) (hc : X.calm = true) (hi : PI X tg iter wi) (hg : PG X tg g) (hb : PSs X body tb)
    (hs : ∀ x, foldedSetIterable iter X.env x = pure x := by intro _; rfl) : PS X (.For tg iter body [] pos) (tFor wi g tb) := by
  intro pins s σ H D I h
  refine wpAny_For (thn (hi pins s σ H _ I h) fun v s1 h1 => thn h1 fun itv s2 h2 => ?_) hs
  obtain ⟨it, fp, tn, J, H2, e, I2, T, st2, f2, W, ⟨m0, w0⟩, turn⟩ := h2
  subst e
  -- what stays true of the iterator's objects through the loop
  have stat : ∀ {H' : Hp}, (∀ b ∈ fp, H' b = none) → ∀ b ∈ fp, FpOk X pins H' b := fun hn b hb => ⟨hn b hb, (f2 b hb).2⟩
  refine codeAny_forLoop_any (fun n s' => ∃ i σ' H', Inv X pins σ' H' s' ∧ tn i s'.heap ∧ (∀ b ∈ fp, H' b = none) ∧ W i n σ' H') ?_ m0 ⟨0, σ, H2, I2, st2, fun b hb => (f2 b hb).1, w0⟩
  rintro n s3 ⟨i, σ3, H3, I3, st3, fr3, w3⟩
  rcases turn i n σ3 H3 w3 with ⟨stop, qn⟩ | ⟨go, N, hN, step⟩
  · refine wpAny_passesOwn hp (thn (T.done X rfl rfl rfl hc i pins s3 σ3 H3 X.xe I3 (stat fr3) st3 stop) fun r s4 ⟨hr, I4⟩ => ?_)
    subst hr
    exact wpAny_execs_nil ⟨σ3, H3, I4, qn⟩
  · refine wpAny_passesOwn hp (thn (T.item X rfl rfl rfl hc i pins s3 σ3 H3 X.xe I3 (stat fr3) st3 go) fun r s4 ⟨u, hr, h4⟩ => ?_)
    subst hr
    refine wpAny_passesOwn hp (thn h4 fun _ s5 ⟨x, H5, I5, r5, y5, st5, fr5⟩ => ?_)
    have I5' := I5.pinned (stat fr5) (T.obj _ _ st5)
    refine wpAny_passesOwn hp (thn (hg _ s5 σ3 H5 x u _ I5' r5 (step x H5 y5)) fun _ s6 ⟨σ6, H6, I6, q6⟩ => ?_)
    refine wpAny_passesOwn hp (thn (hb _ s6 σ6 H6 _ I6 q6) fun f s7 q7 => ?_)
    have again : ∀ {σ7 : St} {H7 : Hp}, Inv X (pins ++ pinsAt fp s5.heap) σ7 H7 s7 → N σ7 H7 → ∃ m, m < n ∧ ∃ i σ' H', Inv X pins σ' H' s7 ∧ tn i s7.heap ∧ (∀ b ∈ fp, H' b = none) ∧ W i m σ' H' := fun {σ7 H7} I7 n7 => by
      obtain ⟨m', hm, w7⟩ := hN σ7 H7 n7
      refine ⟨m', hm, i + 1, σ7, H7, I7.unpinned, T.keep _ _ _ st5 fun b hb o e => (I7.pin (b, o) (List.mem_append_right _ (List.mem_append_right _ (mem_pinsAt hb e)))).1, fun b hb => ?_, w7⟩
      obtain ⟨o, e, d⟩ := T.obj _ _ st5 b hb
      exact (I7.pin (b, o) (List.mem_append_right _ (List.mem_append_right _ (mem_pinsAt hb e)))).2.1
    cases f with
    | next => obtain ⟨σ7, H7, I7, n7⟩ := q7; exact again I7 n7
    | cont => obtain ⟨σ7, H7, I7, n7⟩ := q7; exact again I7 n7
    | brk => obtain ⟨σ7, H7, I7, q7⟩ := q7; exact ⟨σ7, H7, I7.unpinned, q7⟩
    | ret v => obtain ⟨x7, σ7, H7, I7, r7, q7⟩ := q7; exact ⟨x7, σ7, H7, I7.unpinned, r7, q7⟩
end

/-! ### the forms one uses -/
/-- over a list that the body leaves as it is -/
theorem for_list {K : PySem.W.Frag} {a : Addr} {xs : List V} {g : TG} {tb : TS} {D : Ends} {σ : St} {H : Hp} (Pv : Nat → St → Hp → Prop) (h0 : Pv 0 σ H) (hl : ∀ i σ H, i ≤ xs.length → Pv i σ H → SqL K H a xs)
    (hs : ∀ i x σ H, xs[i]? = some x → Pv i σ H → g x σ H fun σ2 H2 => tb { D with nx := Pv (i + 1), ct := Pv (i + 1), bk := D.nx } σ2 H2) (hd : ∀ σ H, Pv xs.length σ H → D.nx σ H) :
    ∃ W : Nat → Nat → St → Hp → Prop, (∃ m, W 0 m σ H) ∧ ∀ i m σ H, W i m σ H →
      ((Itl K a).stop i H ∧ D.nx σ H) ∨ ((Itl K a).go i H ∧ ∃ N : St → Hp → Prop, (∀ σ' H', N σ' H' → ∃ m', m' < m ∧ W (i + 1) m' σ' H') ∧ ∀ x H', (Itl K a).yld i H x H' → g x σ H' fun σ2 H2 => tb { D with nx := N, ct := N, bk := D.nx } σ2 H2) := by
  refine ⟨fun i m σ H => m = xs.length - i ∧ i ≤ xs.length ∧ Pv i σ H, ⟨xs.length, by simp, Nat.zero_le _, h0⟩, ?_⟩
  rintro i m σ H ⟨rfl, hi, p⟩
  have q := hl i σ H hi p
  by_cases hlt : i < xs.length
  · refine .inr ⟨⟨xs, xs[i], q, by simp [hlt]⟩, Pv (i + 1), fun σ' H' p' => ⟨xs.length - (i + 1), by omega, rfl, hlt, p'⟩, fun x H' y => ?_⟩
    obtain ⟨e, y⟩ := y
    subst e
    exact hs i x σ _ (y xs q) p
  · have e : i = xs.length := by omega
    subst e
    exact .inl ⟨⟨xs, q, Nat.le_refl _⟩, hd σ H p⟩
theorem for_range {lo : Int} {n : Nat} {g : TG} {tb : TS} {D : Ends} {σ : St} {H : Hp} (Pv : Nat → St → Hp → Prop) (h0 : Pv 0 σ H)
    (hs : ∀ i σ H, i < n → Pv i σ H → g (.int (lo + i)) σ H fun σ2 H2 => tb { D with nx := Pv (i + 1), ct := Pv (i + 1), bk := D.nx } σ2 H2) (hd : ∀ σ H, Pv n σ H → D.nx σ H) :
    ∃ W : Nat → Nat → St → Hp → Prop, (∃ m, W 0 m σ H) ∧ ∀ i m σ H, W i m σ H →
      ((Itr lo n).stop i H ∧ D.nx σ H) ∨ ((Itr lo n).go i H ∧ ∃ N : St → Hp → Prop, (∀ σ' H', N σ' H' → ∃ m', m' < m ∧ W (i + 1) m' σ' H') ∧ ∀ x H', (Itr lo n).yld i H x H' → g x σ H' fun σ2 H2 => tb { D with nx := N, ct := N, bk := D.nx } σ2 H2) := by
  refine ⟨fun i m σ H => m = n - i ∧ i ≤ n ∧ Pv i σ H, ⟨n, by simp, Nat.zero_le _, h0⟩, ?_⟩
  rintro i m σ H ⟨rfl, hi, p⟩
  by_cases hlt : i < n
  · refine .inr ⟨hlt, Pv (i + 1), fun σ' H' p' => ⟨n - (i + 1), by omega, rfl, hlt, p'⟩, fun x H' y => ?_⟩
    obtain ⟨e, y⟩ := y
    subst e y
    exact hs i σ _ hlt p
  · have e : i = n := by omega
    subst e
    exact .inl ⟨Nat.le_refl _, hd σ H p⟩
end L2

namespace L2
open PySem PySem.Spec PyProof.Rows

abbrev R2 := V → V → Hp → VK → Prop
/-- a two-place operation on values: f is binaryOp op, inplaceOp op or compareOp op -/
def OpR (X : Cx) (f : Value → Value → Sem Value) (r : R2) : Prop :=
  ∀ (pins : List (Addr × Obj)) (s : Shared) (σ : St) (H : Hp) (x y : V) (v u : Value) (Q : VK), Inv X pins σ H s → RelV x v → RelV y u → r x y H Q →
    wpAny (model X.prog X.w) X.A (f v u) (EP X pins σ Q) X.xe s
/-- a one-place operation -/
def UnR (X : Cx) (f : Value → Sem Value) (r : V → Hp → VK → Prop) : Prop :=
  ∀ (pins : List (Addr × Obj)) (s : Shared) (σ : St) (H : Hp) (x : V) (v : Value) (Q : VK), Inv X pins σ H s → RelV x v → r x H Q →
    wpAny (model X.prog X.w) X.A (f v) (EP X pins σ Q) X.xe s
/-- a call of a value that is known (a builtin, a type) with values -/
def CallR (X : Cx) (f : Value) (r : List V → Hp → VK → Prop) : Prop :=
  ∀ (pins : List (Addr × Obj)) (s : Shared) (σ : St) (H : Hp) (xs : List V) (us : List Value) (Q : VK), Inv X pins σ H s → Vals xs us → r xs H Q →
    wpAny (model X.prog X.w) X.A (call f us) (EP X pins σ Q) X.xe s
def tOp (r : R2) (ta tb : TE) : TE := fun σ H Q => ta σ H fun x H1 => tb σ H1 fun y H2 => r x y H2 Q
def tUn (r : V → Hp → VK → Prop) (ta : TE) : TE := fun σ H Q => ta σ H fun x H1 => r x H1 Q
/-- ints in, under C, and a value out -/
def rI (C : Int → Int → Prop) (g : Int → Int → V) : R2 := fun x y H Q => ∃ i j, x = .int i ∧ y = .int j ∧ C i j ∧ Q (g i j) H
def rI0 (g : Int → Int → V) : R2 := fun x y H Q => ∃ i j, x = .int i ∧ y = .int j ∧ Q (g i j) H
def rU (g : Int → V) : V → Hp → VK → Prop := fun x H Q => ∃ i, x = .int i ∧ Q (g i) H

section
variable {X : Cx} {a b c : Expr} {ta tb tc : TE} {pos : Pos}

theorem binT (ha : PE X a ta) (hb : PE X b tb) {pins : List (Addr × Obj)} {s : Shared} {σ : St} {H : Hp} {R : V → V → Hp → Prop} (I : Inv X pins σ H s)
    (h : ta σ H fun x H1 => tb σ H1 fun y H2 => R x y H2) {Q : Value → Shared → Prop} {f : Value → Value → Sem Value}
    (hf : ∀ v u s2 x y H2, Inv X pins σ H2 s2 → RelV x v → RelV y u → R x y H2 → wpAny (model X.prog X.w) X.A (f v u) Q X.xe s2) :
    wpAny (model X.prog X.w) X.A (eval a X.env) (fun v s₁ => wpAny (model X.prog X.w) X.A (eval b X.env) (fun u s₂ => wpAny (model X.prog X.w) X.A (f v u) Q X.xe s₂) X.xe s₁) X.xe s := by
  refine thn (ha pins s σ H _ I h) fun v s1 ⟨x, H1, I1, r1, q1⟩ => ?_
  refine thn (hb pins s1 σ H1 _ I1 q1) fun u s2 ⟨y, H2, I2, r2, q2⟩ => ?_
  exact hf v u s2 x y H2 I2 r1 r2 q2

theorem pe_op {op : Operator} {r : R2} (ho : OpR X (binaryOp op) r) (ha : PE X a ta) (hb : PE X b tb) : PE X (.BinOp a op b pos) (tOp r ta tb) := by
  intro pins s σ H Q I h
  exact wpAny_BinOp (binT ha hb I h fun v u s2 x y H2 I2 rx ry q => ho pins s2 σ H2 x y v u Q I2 rx ry q)
theorem pe_un {op : UnaryOp} {r : V → Hp → VK → Prop} (ho : UnR X (unaryOp op) r) (ha : PE X a ta) : PE X (.UnaryOp op a pos) (tUn r ta) := by
  intro pins s σ H Q I h
  exact UnaryOp_ (thn (ha pins s σ H _ I h) fun v s1 ⟨x, H1, I1, r1, q1⟩ => ho pins s1 σ H1 x v Q I1 r1 q1)
/-! ### ints -/
theorem opI {f : Value → Value → Sem Value} {C : Int → Int → Prop} {g : Int → Int → Int}
    (rule : ∀ (i j : Int) (t u : Tok) (s : Shared) (Q : Value → Shared → Prop) (E : Value → Shared → Prop), C i j → Q (.int (g i j) s.toks) { s with toks := s.toks + 1 } → wpAny (model X.prog X.w) X.A (f (.int i t) (.int j u)) Q E s) :
    OpR X f (rI C fun i j => .int (g i j)) := by
  intro pins s σ H x y v u Q I rx ry h
  obtain ⟨i, j, rfl, rfl, hc, q⟩ := h
  obtain ⟨t, rfl⟩ := rx
  obtain ⟨t', rfl⟩ := ry
  exact rule i j t t' s _ _ hc ⟨.int (g i j), H, I.tok _, ⟨_, rfl⟩, q⟩
theorem opI0 {f : Value → Value → Sem Value} {g : Int → Int → Int}
    (rule : ∀ (i j : Int) (t u : Tok) (s : Shared) (Q : Value → Shared → Prop) (E : Value → Shared → Prop), Q (.int (g i j) s.toks) { s with toks := s.toks + 1 } → wpAny (model X.prog X.w) X.A (f (.int i t) (.int j u)) Q E s) :
    OpR X f (rI0 fun i j => .int (g i j)) := by
  intro pins s σ H x y v u Q I rx ry h
  obtain ⟨i, j, rfl, rfl, q⟩ := h
  obtain ⟨t, rfl⟩ := rx
  obtain ⟨t', rfl⟩ := ry
  exact rule i j t t' s _ _ ⟨.int (g i j), H, I.tok _, ⟨_, rfl⟩, q⟩
theorem opB0 {f : Value → Value → Sem Value} {g : Int → Int → Bool}
    (rule : ∀ (i j : Int) (t u : Tok) (s : Shared) (Q : Value → Shared → Prop) (E : Value → Shared → Prop), Q (.bool (g i j)) s → wpAny (model X.prog X.w) X.A (f (.int i t) (.int j u)) Q E s) :
    OpR X f (rI0 fun i j => .bl (g i j)) := by
  intro pins s σ H x y v u Q I rx ry h
  obtain ⟨i, j, rfl, rfl, q⟩ := h
  obtain ⟨t, rfl⟩ := rx
  obtain ⟨t', rfl⟩ := ry
  exact rule i j t t' s _ _ ⟨.bl (g i j), H, I, rfl, q⟩

def CDiv (i j : Int) : Prop := 0 < j ∧ j < 1073741824
def CMul (i j : Int) : Prop := (-(2 ^ 64) < i ∧ i < 2 ^ 64) ∨ (-(2 ^ 64) < j ∧ j < 2 ^ 64)
theorem CMul.ok {i j : Int} (h : CMul i j) : IntMulOk i j := by
  rcases h with ⟨h1, h2⟩ | ⟨h1, h2⟩
  · exact .of_left (intBits_le_64 h1 h2)
  · exact .of_right (intBits_le_64 h1 h2)
theorem op_add : OpR X (binaryOp .Add) (rI0 fun i j => .int (i + j)) := opI0 fun _ _ _ _ _ _ _ q => add_int q
theorem op_sub : OpR X (binaryOp .Sub) (rI0 fun i j => .int (i - j)) := opI0 fun _ _ _ _ _ _ _ q => sub_int q
theorem op_mul : OpR X (binaryOp .Mult) (rI CMul fun i j => .int (i * j)) := opI fun _ _ _ _ _ _ _ hc q => mul_int q hc.ok
/-- // by a positive divisor -/
theorem op_fdiv : OpR X (binaryOp .FloorDiv) (rI CDiv fun i j => .int (i / j)) := opI fun i j _ _ _ _ _ hc q => by
  have h1 : (0 : Int) < j := hc.1
  have h2 : j < 1073741824 := hc.2
  exact floordiv_int (by omega) (by rw [Int.fdiv_eq_ediv_of_nonneg i (by omega)]; exact q) (.inl (PyProof.noPylong_small (by omega)))
/-- % by a positive divisor of any size -/
theorem op_mod : OpR X (binaryOp .Mod) (rI (fun _ j => 0 < j) fun i j => .int (i % j)) := opI fun i j _ _ _ _ _ hc q => by
  have h1 : (0 : Int) < j := hc
  exact mod_int' (by omega) (by rw [Int.fmod_eq_emod_of_nonneg i (by omega)]; exact q)
theorem unI {f : Value → Sem Value} {g : Int → Int}
    (rule : ∀ (i : Int) (t : Tok) (s : Shared) (Q : Value → Shared → Prop) (E : Value → Shared → Prop), Q (.int (g i) s.toks) { s with toks := s.toks + 1 } → wpAny (model X.prog X.w) X.A (f (.int i t)) Q E s) :
    UnR X f (rU fun i => .int (g i)) := by
  intro pins s σ H x v Q I rx h
  obtain ⟨i, rfl, q⟩ := h
  obtain ⟨t, rfl⟩ := rx
  exact rule i t s _ _ ⟨.int (g i), H, I.tok _, ⟨_, rfl⟩, q⟩
theorem un_neg : UnR X (unaryOp .USub) (rU fun i => .int (-i)) := unI fun _ _ _ _ _ q => neg_int q
/-! ### bools among ints: n += (a < b) -/
end

/-! ### comparisons -/
/-- the scalars that == tells apart as data does -/
def scal : V → V → Bool
  | .non, .non => true | .non, .int _ => true | .int _, .non => true | .non, .bl _ => true | .bl _, .non => true | .non, .str _ => true | .str _, .non => true
  | .int _, .int _ => true | .bl _, .bl _ => true | .str _, .str _ => true | .byt _, .byt _ => true
  | .int _, .str _ => true | .str _, .int _ => true | .bl _, .str _ => true | .str _, .bl _ => true
  | _, _ => false
def rNe : R2 := fun x y H Q => scal x y = true ∧ Q (.bl (!decide (x = y))) H

theorem dec_int {i j : Int} : decide (V.int i = V.int j) = (i == j) := by
  rw [Bool.eq_iff_iff]
  simp
theorem dec_bl {i j : Bool} : decide (V.bl i = V.bl j) = (i == j) := by
  rw [Bool.eq_iff_iff]
  simp
theorem dec_str {i j : Str} : decide (V.str i = V.str j) = (i == j) := by
  rw [Bool.eq_iff_iff]
  simp
theorem dec_byt {i j : Array UInt8} : decide (V.byt i = V.byt j) = (i.toList == j.toList) := by
  rw [Bool.eq_iff_iff]
  cases i
  cases j
  simp

section
variable {X : Cx} {a b c : Expr} {ta tb tc : TE} {pos : Pos}
theorem fin_bl {pins : List (Addr × Obj)} {σ : St} {H : Hp} {s : Shared} {Q : VK} {k k' : Bool} (I : Inv X pins σ H s) (q : Q (.bl k) H) (e : k = k') : EP X pins σ Q (.bool k') s := by
  subst e
  exact ⟨.bl k, H, I, rfl, q⟩
theorem op_ne : OpR X (compareOp .NotEq) rNe := by
  intro pins s σ H x y v u Q I rx ry h
  obtain ⟨hs, q⟩ := h
  cases x with
  | non =>
    cases rx
    cases y with
    | non => cases ry; exact PySem.EqNone.ne_none_none (fin_bl I q (by simp))
    | bl j => cases ry; exact PySem.EqNone.ne_none_bool (fin_bl I q (by simp))
    | int j => obtain ⟨t', rfl⟩ := ry; exact PySem.EqNone.ne_none_int (fin_bl I q (by simp))
    | str j => obtain ⟨t', rfl⟩ := ry; exact PySem.EqNone.ne_none_str (fin_bl I q (by simp))
    | _ => exact absurd (show false = true from hs) Bool.false_ne_true
  | bl i =>
    cases rx
    cases y with
    | non => cases ry; exact PySem.EqNone.ne_bool_none (fin_bl I q (by simp))
    | bl j => cases ry; exact ne_bool (fin_bl I q (congrArg not dec_bl))
    | str j => obtain ⟨t', rfl⟩ := ry; exact PySem.EqMixed.ne_bool_str (fin_bl I q (by simp))
    | _ => exact absurd (show false = true from hs) Bool.false_ne_true
  | int i =>
    obtain ⟨t, rfl⟩ := rx
    cases y with
    | non => cases ry; exact PySem.EqNone.ne_int_none (fin_bl I q (by simp))
    | int j => obtain ⟨t', rfl⟩ := ry; exact ne_int (fin_bl I q (congrArg not dec_int))
    | str j => obtain ⟨t', rfl⟩ := ry; exact PySem.EqMixed.ne_int_str (fin_bl I q (by simp))
    | _ => exact absurd (show false = true from hs) Bool.false_ne_true
  | str i =>
    obtain ⟨t, rfl⟩ := rx
    cases y with
    | non => cases ry; exact PySem.EqNone.ne_str_none (fin_bl I q (by simp))
    | bl j => cases ry; exact PySem.EqMixed.ne_str_bool (fin_bl I q (by simp))
    | int j => obtain ⟨t', rfl⟩ := ry; exact PySem.EqMixed.ne_str_int (fin_bl I q (by simp))
    | str j => obtain ⟨t', rfl⟩ := ry; exact ne_str (fin_bl I q (congrArg not dec_str))
    | _ => exact absurd (show false = true from hs) Bool.false_ne_true
  | byt i =>
    obtain ⟨t, rfl⟩ := rx
    cases y with
    | byt j => obtain ⟨t', rfl⟩ := ry; exact PySem.W.ne_bytes (fin_bl I q (congrArg not dec_byt))
    | _ => exact absurd (show false = true from hs) Bool.false_ne_true
  | _ => cases y <;> exact absurd (show false = true from hs) Bool.false_ne_true

theorem op_lt : OpR X (compareOp .Lt) (rI0 fun i j => .bl (decide (i < j))) := opB0 fun _ _ _ _ _ _ _ q => lt_int q
theorem op_ge : OpR X (compareOp .GtE) (rI0 fun i j => .bl (decide (j ≤ i))) := opB0 fun _ _ _ _ _ _ _ q => ge_int q
/-- two rules for one operation: by cases -/
theorem OpR.or {f : Value → Value → Sem Value} {r r' : R2} (h : OpR X f r) (h' : OpR X f r') : OpR X f (fun x y H Q => r x y H Q ∨ r' x y H Q) := by
  intro pins s σ H x y v u Q I rx ry q
  rcases q with q | q
  · exact h pins s σ H x y v u Q I rx ry q
  · exact h' pins s σ H x y v u Q I rx ry q

theorem nomark (b : Expr) {op : CmpOp} (h : op ≠ .In := by decide) (h2 : op ≠ .NotIn := by decide) : behindInMarks op b = false := by
  have e1 : (op == CmpOp.In) = false := by cases op <;> first | rfl | exact absurd rfl h
  have e2 : (op == CmpOp.NotIn) = false := by cases op <;> first | rfl | exact absurd rfl h2
  cases b <;> simp [behindInMarks, e1, e2]
/-- a comparison as a value; hm: nomark b, or (for in, not in) by with_unfolding_all rfl -/
theorem pe_cmpR {op : CmpOp} {r : R2} (ho : OpR X (compareOp op) r) (ha : PE X a ta) (hb : PE X b tb) (hm : behindInMarks op b = false) : PE X (.Compare a [op] [b] pos) (tOp r ta tb) := by
  intro pins s σ H Q I h
  exact wpAny_Compare1 (binT ha hb I h fun v u s2 x y H2 I2 rx ry q => ho pins s2 σ H2 x y v u Q I2 rx ry q) hm
/-- a reading of a value as a test -/
def tTest (t : TE) : TT := fun σ H Q => t σ H fun x H' => ∃ k, x = .bl k ∧ Q k H'
theorem pt_cmpR {op : CmpOp} {r : R2} (ho : OpR X (compareOp op) r) (ha : PE X a ta) (hb : PE X b tb) (hm : behindInMarks op b = false) : PT X (.Compare a [op] [b] pos) (tTest (tOp r ta tb)) := by
  intro pins s σ H Q I h
  refine wpAny_isTrue_Compare1 (thn (ha pins s σ H _ I h) fun v s1 ⟨x, H1, I1, r1, q1⟩ => thn (hb pins s1 σ H1 _ I1 q1) fun u s2 ⟨y, H2, I2, r2, q2⟩ =>
    thn (ho pins s2 σ H2 x y v u _ I2 r1 r2 q2) fun c s3 ⟨z, H3, I3, r3, k, e, q3⟩ => ?_) hm
  subst e
  cases r3
  exact wpAny_truthy_bool ⟨H3, I3, q3⟩
/-! ### truth -/
theorem line63 : (sizeLine : Nat) < 2 ^ 63 := by rw [sizeLine_eq]; decide
/-! ### strs and bytes -/
/-! ### scalar builtins, by CallR -/
theorem vals1 {x : V} {us : List Value} (r : Vals [x] us) : ∃ u, us = [u] ∧ RelV x u := by
  cases r with
  | cons r1 r2 => cases r2; exact ⟨_, rfl, r1⟩
theorem vals2 {x y : V} {us : List Value} (r : Vals [x, y] us) : ∃ u w', us = [u, w'] ∧ RelV x u ∧ RelV y w' := by
  cases r with
  | cons r1 r2 =>
    cases r2 with
    | cons r3 r4 => cases r4; exact ⟨_, _, rfl, r1, r3⟩
theorem call_max2 (hc : X.calm = true) : CallR X (.builtin "max") (fun xs H Q => ∃ i j, xs = [.int i, .int j] ∧ Q (.int (if j > i then j else i)) H) := by
  intro pins s σ H xs us Q I r h
  obtain ⟨i, j, rfl, q⟩ := h
  obtain ⟨u, w', rfl, ⟨t, rfl⟩, ⟨t', rfl⟩⟩ := vals2 r
  refine max_two_ints (I.ok.hd hc) fun h' tk k => ⟨_, H, I.kept k, ?_, q⟩
  by_cases hj : j > i
  · rw [if_pos hj, if_pos hj]; exact ⟨_, rfl⟩
  · rw [if_neg hj, if_neg hj]; exact ⟨_, rfl⟩
theorem call_min2 (hc : X.calm = true) : CallR X (.builtin "min") (fun xs H Q => ∃ i j, xs = [.int i, .int j] ∧ Q (.int (if j < i then j else i)) H) := by
  intro pins s σ H xs us Q I r h
  obtain ⟨i, j, rfl, q⟩ := h
  obtain ⟨u, w', rfl, ⟨t, rfl⟩, ⟨t', rfl⟩⟩ := vals2 r
  refine min_two_ints (I.ok.hd hc) fun h' tk k => ⟨_, H, I.kept k, ?_, q⟩
  by_cases hj : j < i
  · rw [if_pos hj, if_pos hj]; exact ⟨_, rfl⟩
  · rw [if_neg hj, if_neg hj]; exact ⟨_, rfl⟩
end
end L2

namespace L2
open PySem PySem.Spec PyProof.Rows

/-! ### an instance, its attributes a map -/
structure ObjM (h : Heap) (x dx C : Addr) (mA : Str → Option Value) : Prop where
  obj : h.get? x = some (PySem.W.instObj C dx)
  ns : h.Ns1 dx mA
  ne : dx ≠ x

theorem lookIn_ns {h : Heap} {dx : Addr} {mA : Str → Option Value} (n : h.Ns1 dx mA) : ∃ od, h.get? dx = some od ∧ ∀ name, PySem.W.lookIn name od = some (mA name) := by
  obtain ⟨o, es, ep, ho, hd, hk, _, hm⟩ := n
  refine ⟨o, ho, fun name => ?_⟩
  have e := hm name
  unfold nsFind findBy at e
  rw [← Array.find?_toList] at e
  unfold PySem.W.lookIn
  rw [hd]
  dsimp only
  split
  · rename_i y q
    rw [q] at e
    exact congrArg some e
  · rename_i q
    rw [q] at e
    have a : es.toList.any (·.refKey) = false := by
      rw [List.any_eq_false]
      intro y hy
      obtain ⟨z, t, hkey⟩ := hk y (Array.mem_toList_iff.mp hy)
      simp [DictEntry.refKey, hkey]
    have a' : ¬ es.toList.any (·.refKey) = true := by rw [a]; exact Bool.false_ne_true
    rw [if_neg a']
    exact congrArg some e

theorem ObjM.look {h : Heap} {x dx C : Addr} {mA : Str → Option Value} (I : ObjM h x dx C mA) : ∃ od, PySem.W.InstAt h x (PySem.W.instObj C dx) C (some od) ∧ ∀ name, PySem.W.lookIn name od = some (mA name) :=
  let ⟨od, ho, hl⟩ := lookIn_ns I.ns
  ⟨od, ⟨I.obj, rfl, rfl, ho⟩, hl⟩

section
variable {prog : Program} {w : World} {A : Around} {E : Value → Shared → Prop} {s : Shared} {K : PySem.W.Frag} {x dx C f : Addr} {mA : Str → Option Value} {name : Str} {v : Value}

theorem get_map {expr : Bool} {Q : Value → Shared → Prop} (X : K.In s.heap) (I : ObjM s.heap x dx C mA) (hg : PySem.W.plainGet K C name = true) (hh : PySem.W.hasDictIn K C = true)
    (ha : PySem.W.findIn K (.ref C) name = some none) (hv : mA name = some v) (hv' : PySem.W.handedIn v = true) (h : Q v { s with toks := s.toks + 1 }) :
    wpAny (model prog w) A (getAttr (.ref x) name expr) Q E s := by
  obtain ⟨od, J, hl⟩ := I.look
  exact PySem.W.get_value X J (PySem.W.plainGet_of hg).1 (PySem.W.findObj_own hh ha rfl (by rw [hl, hv])) hv' h

theorem get_meth {pl : Sem Bool} {Q : Value × List Value → Shared → Prop} (X : K.In s.heap) (I : ObjM s.heap x dx C mA) (hg : PySem.W.plainGet K C name = true)
    (hf : PySem.W.findIn K (.ref C) name = some (some (.ref f))) (ht : PySem.W.isFn K (.ref f) = true) (hv : mA name = none) (h : Q (.ref f, [.ref x]) s) :
    wpAny (model prog w) A (getMethod (.ref x) name pl) Q E s := by
  obtain ⟨od, J, hl⟩ := I.look
  exact PySem.W.method_fn X J (PySem.W.plainGet_of hg).1 (PySem.W.plainGet_of hg).2 hf (beq_iff_eq.mp ht) (by show (PySem.W.lookIn name od).map (·.isSome) = some false; rw [hl, hv]; rfl) h

theorem set_map {ns : List Str} {Q : Unit → Shared → Prop} (X : K.In s.heap) (I : ObjM s.heap x dx C mA)
    (hs : PySem.W.findIn K (.ref C) "__setattr__" = some (some (.builtin "object.__setattr__"))) (hp : PySem.W.plainOver K C = true) (ht : PySem.W.takerIn K C name = some none) (hh : PySem.W.hasDictIn K C = true)
    (hw : PySem.Within mA ns) (hsz : ns.length ≤ sizeLine)
    (h : ∀ h', ObjM h' x dx C (fun y => if y = name then some v else mA y) → Heap.SameBut dx s.heap h' → Q () { s with heap := h', toks := s.toks + 2 }) :
    wpAny (model prog w) A (setAttr (.ref x) name v) Q E s := by
  obtain ⟨od, J, hl⟩ := I.look
  refine PySem.W.set_plain X J hs (PySem.W.osa_open (s := { s with toks := s.toks + 1 }) (r := none) X J hp ht fun b => ?_)
  obtain ⟨cd, hc, hd'⟩ := PySem.W.any_some hh
  have hx : s.heap.get? x = some ⟨.ref C, some dx, .plain, #[]⟩ := I.obj
  refine wpAny_bind (wpAny_pure (wpAny_bind (wpAny_bind (wpAny_loadPart hx (wpAny_bind (PySem.W.Looks.here (s := { s with toks := s.toks + 1 }) (PySem.W.looks_clsIn X hc) ?_))))))
  rw [hd']
  refine wpAny_pure (a := some dx) (wpAny_bind (wpAny_pure (wpAny_bind ?_)))
  refine wpAny_nsSet1 (s := { s with toks := s.toks + 1 }) I.ns fun h' hn2 hs2 => ?_
  obtain ⟨oD, esD, epD, hoD, hdD, hcD⟩ := hn2.count (PySem.Within.cons name v hw)
  refine wpAny_bind (wpAny_lookBehind hoD (by rw [hdD]; exact pastItsLine_dict (Nat.le_trans hcD (by rw [List.length_cons]; omega))) ?_)
  exact wpAny_pure (h _ ⟨(hs2.2 _ (Ne.symm I.ne)).trans I.obj, hn2, I.ne⟩ hs2)

/-- C(..): the dict at the heap's end, the instance behind it; then its __init__ -/
theorem make_map {R : Result → Shared → Prop} {vs : List Value} {kw : List (Str × Value)} (X : K.In s.heap) (hm : PySem.W.makesIn K C = true)
    (hi : PySem.W.findIn K (.ref C) "__init__" = some (some (.ref f))) (hf : PySem.W.typeIn K (.ref f) = some (.type "function"))
    (h : codeAny (model prog w) (A.under (.builtin "type.__call__" ⟨.ref C :: vs, kw⟩)) (.call (.ref f) ⟨.ref (s.heap.objs.size + 1) :: vs, kw⟩) (PySem.W.InitBack (s.heap.objs.size + 1) R)
      { s with heap := (s.heap.push PySem.W.emptyDict).push (PySem.W.instObj C s.heap.objs.size) }) :
    codeAny (model prog w) A (.call (.ref C) ⟨vs, kw⟩) R s := by
  obtain ⟨hh, g, d, t, os⟩ := s
  exact PySem.W.make_core (PySem.W.makes_of X hm) (PySem.W.looks_findIn X hi) (fun self => PySem.W.bind_fn X self hf) (.inl rfl) h
end

/-! ### the attributes as a list of pairs -/
def putF (f : Str) (v : V) : List (Str × V) → List (Str × V)
  | [] => [(f, v)]
  | (g, x) :: r => if g = f then (g, v) :: r else (g, x) :: putF f v r
theorem lookup_putF (f g : Str) (v : V) : ∀ fs : List (Str × V), (putF f v fs).lookup g = if g = f then some v else fs.lookup g
  | [] => by
    show List.lookup g [(f, v)] = _
    by_cases h : g = f
    · have hb : (g == f) = true := beq_iff_eq.mpr h
      simp only [List.lookup, hb, if_pos h]
    · have hb : (g == f) = false := beq_eq_false_iff_ne.mpr h
      simp only [List.lookup, hb, if_neg h]
  | (k, x) :: r => by
    have ih := lookup_putF f g v r
    rw [show putF f v ((k, x) :: r) = (if k = f then (k, v) :: r else (k, x) :: putF f v r) from rfl]
    by_cases hk : k = f
    · rw [if_pos hk]
      by_cases h : g = k
      · have hb : (g == k) = true := beq_iff_eq.mpr h
        simp only [List.lookup, hb, if_pos (h.trans hk)]
      · have hb : (g == k) = false := beq_eq_false_iff_ne.mpr h
        simp only [List.lookup, hb, if_neg (fun e : g = f => h (e.trans hk.symm))]
    · rw [if_neg hk]
      by_cases h : g = k
      · have hb : (g == k) = true := beq_iff_eq.mpr h
        simp only [List.lookup, hb, if_neg (fun e : g = f => hk (h.symm.trans e))]
      · have hb : (g == k) = false := beq_eq_false_iff_ne.mpr h
        simp only [List.lookup, hb]
        exact ih
theorem keys_putF (f : Str) (v : V) : ∀ fs : List (Str × V), f ∈ (putF f v fs).map (·.1) ∧ ∀ g, g ∈ fs.map (·.1) → g ∈ (putF f v fs).map (·.1)
  | [] => ⟨by simp [putF], fun g h => by simp at h⟩
  | (k, x) :: r => by
    obtain ⟨i1, i2⟩ := keys_putF f v r
    rw [show putF f v ((k, x) :: r) = (if k = f then (k, v) :: r else (k, x) :: putF f v r) from rfl]
    by_cases hk : k = f
    · rw [if_pos hk]
      subst hk
      exact ⟨by simp, fun g h => by simpa using h⟩
    · rw [if_neg hk]
      refine ⟨?_, fun g h => ?_⟩
      · rw [List.map_cons]
        exact List.mem_cons_of_mem _ i1
      · rw [List.map_cons] at h ⊢
        rcases List.mem_cons.mp h with e | e
        · exact List.mem_cons.mpr (.inl e)
        · exact List.mem_cons_of_mem _ (i2 g e)
theorem length_putF (f : Str) (v : V) : ∀ fs : List (Str × V), (putF f v fs).length ≤ fs.length + 1
  | [] => by simp [putF]
  | (k, x) :: r => by
    have ih := length_putF f v r
    rw [show putF f v ((k, x) :: r) = (if k = f then (k, v) :: r else (k, x) :: putF f v r) from rfl]
    by_cases hk : k = f
    · rw [if_pos hk, List.length_cons, List.length_cons]; omega
    · rw [if_neg hk, List.length_cons, List.length_cons]; omega

theorem RelO.some_of {v : V} {o : Option Value} (r : RelO (some v) o) : ∃ u, o = some u ∧ RelV v u := by
  cases o with
  | none => exact (show False from r).elim
  | some u => exact ⟨u, rfl, r⟩
theorem RelO.none_of {o : Option Value} (r : RelO none o) : o = none := by
  cases o with
  | none => rfl
  | some u => exact (show False from r).elim
theorem handed_of {v : V} {u : Value} (r : RelV v u) : PySem.W.handedIn u = true := by
  cases v with
  | non => cases (show u = Value.none from r); rfl
  | bl b => cases (show u = Value.bool b from r); rfl
  | int i => obtain ⟨t, e⟩ := (show ∃ t, u = Value.int i t from r); cases e; rfl
  | str x => obtain ⟨t, e⟩ := (show ∃ t, u = Value.str x t from r); cases e; rfl
  | byt b => obtain ⟨t, e⟩ := (show ∃ t, u = Value.bytes b t from r); cases e; rfl
  | flt b => obtain ⟨t, e⟩ := (show ∃ t, u = Value.float b t from r); cases e; rfl
  | ref a => cases (show u = Value.ref a from r); rfl
  | ty n => cases (show u = Value.type n from r); rfl

section
variable {P : Program} {w : World} {H H' : Hp} {h h' : Heap} {a C dx : Addr} {fs fs' : List (Str × V)}
theorem ins_get (hok : HOk P w H h) (e : H a = some (.ins C dx fs)) : ∃ mA, ObjM h a dx C mA ∧ (∀ f, RelO (fs.lookup f) (mA f)) ∧ PySem.Within mA (fs.map (·.1)) ∧ fs.length ≤ 1000 ∧ H dx = some (.own a) := by
  obtain ⟨d, z, ne, ob, mA, n, r, q⟩ := (show ObjOk P w H h a (.ins C dx fs) from hok a _ e)
  exact ⟨mA, ⟨ob, n, ne⟩, r, q, z, d⟩
end

/-! ### what of the text a class must have -/
structure Cls (K : PySem.W.Frag) (C : Addr) : Prop where
  pg : PySem.W.plainGet K C Str.empty = true
  hd : PySem.W.hasDictIn K C = true
  po : PySem.W.plainOver K C = true
  sa : PySem.W.findIn K (.ref C) "__setattr__" = some (some (.builtin "object.__setattr__"))
theorem Cls.get {K : PySem.W.Frag} {C : Addr} (c : Cls K C) (f : Str) : PySem.W.plainGet K C f = true := c.pg
/-- no class of it has the name -/
def NoAttr (K : PySem.W.Frag) (C : Addr) (f : Str) : Prop := PySem.W.findIn K (.ref C) f = some none
theorem NoAttr.taker {K : PySem.W.Frag} {C : Addr} {f : Str} (n : NoAttr K C f) : PySem.W.takerIn K C f = some none := by
  unfold PySem.W.takerIn
  rw [show PySem.W.findIn K (.ref C) f = some none from n]
  rfl
/-- a method: a plain def of the class or of one above it -/
structure Meth (K : PySem.W.Frag) (C : Addr) (m : Str) (f : Addr) : Prop where
  at_ : PySem.W.findIn K (.ref C) m = some (some (.ref f))
  fn : PySem.W.isFn K (.ref f) = true
  kp : PySem.W.keepIn K (.ref f) = true

section
variable {X : Cx} {pins : List (Addr × Obj)} {σ : St} {H : Hp} {s : Shared} {a C dx : Addr} {fs : List (Str × V)} {f : Str} {v : V} {A : Around} {E : Value → Shared → Prop}

theorem getattr_ok {b : Bool} {Q : Value → Shared → Prop} (I : Inv X pins σ H s) (e : H a = some (.ins C dx fs)) (c : Cls X.K C) (n : NoAttr X.K C f) (l : fs.lookup f = some v)
    (h : ∀ u s', Inv X pins σ H s' → RelV v u → Q u s') : wpAny (model X.prog X.w) A (getAttr (.ref a) f b) Q E s := by
  obtain ⟨mA, O, r, _, _, _⟩ := ins_get I.hok e
  obtain ⟨u, hu, ru⟩ := RelO.some_of (v := v) (o := mA f) (by rw [← l]; exact r f)
  exact get_map I.kIn O (c.get f) c.hd n hu (handed_of ru) (h u _ (I.tok _) ru)

theorem getmeth_ok {m : Str} {g : Addr} {pl : Sem Bool} {Q : Value × List Value → Shared → Prop} (I : Inv X pins σ H s) (e : H a = some (.ins C dx fs)) (c : Cls X.K C) (k : Meth X.K C m g) (l : fs.lookup m = none)
    (h : Q (.ref g, [.ref a]) s) : wpAny (model X.prog X.w) A (getMethod (.ref a) m pl) Q E s := by
  obtain ⟨mA, O, r, _, _, _⟩ := ins_get I.hok e
  have hn : mA m = none := RelO.none_of (by rw [← l]; exact r m)
  exact get_meth I.kIn O (c.get m) k.at_ k.fn hn h

theorem setattr_ok {y : V} {u : Value} {Q : Unit → Shared → Prop} (I : Inv X pins σ H s) (e : H a = some (.ins C dx fs)) (c : Cls X.K C) (n : NoAttr X.K C f) (hl : fs.length < 1000) (ry : RelV y u)
    (h : ∀ s', Inv X pins σ (upd H a (.ins C dx (putF f y fs))) s' → Q () s') : wpAny (model X.prog X.w) A (setAttr (.ref a) f u) Q E s := by
  obtain ⟨mA, O, r, wi, _, ho⟩ := ins_get I.hok e
  have hz : (fs.map (·.1)).length ≤ sizeLine := by rw [List.length_map, sizeLine_eq]; omega
  refine set_map I.kIn O c.sa c.po n.taker c.hd wi hz fun h' O' sb => h _ ?_
  have hd : ∃ o, h'.get? dx = some o := let ⟨o, _, _, e', _⟩ := O'.ns; ⟨o, e'⟩
  refine I.write (x := a) (e := dx) (by rw [e]; exact True.intro) (.inr ho) (fun b q hb z => (sb.2 b hb).trans z) hd ?_
  refine ⟨by rw [upd_ne O.ne]; exact ho, ?_, O.ne, O'.obj, _, O'.ns, fun g => ?_, fun g hg => ?_⟩
  · have := length_putF f y fs; omega
  · show RelO ((putF f y fs).lookup g) (if g = f then some u else mA g)
    rw [lookup_putF]
    by_cases q : g = f
    · rw [if_pos q, if_pos q]; exact ry
    · rw [if_neg q, if_neg q]; exact r g
  · by_cases q : g = f
    · rw [q]; exact (keys_putF f y fs).1
    · refine (keys_putF f y fs).2 g (wi g fun z => hg ?_)
      show (if g = f then some u else mA g) = none
      rw [if_neg q]; exact z

/-- a new instance, tracked, without attributes -/
theorem Inv.made (I : Inv X pins σ H s) : Inv X pins σ (upd (upd H s.heap.objs.size (.own (s.heap.objs.size + 1))) (s.heap.objs.size + 1) (.ins C s.heap.objs.size []))
    { s with heap := (s.heap.push PySem.W.emptyDict).push (PySem.W.instObj C s.heap.objs.size) } := by
  have e1 : (s.heap.push PySem.W.emptyDict).get? s.heap.objs.size = some PySem.W.emptyDict := Heap.get?_push_size s.heap rfl
  have e2 : ((s.heap.push PySem.W.emptyDict).push (PySem.W.instObj C s.heap.objs.size)).get? (s.heap.objs.size + 1) = some (PySem.W.instObj C s.heap.objs.size) := by
    have := Heap.get?_push_size (s.heap.push PySem.W.emptyDict) (o := PySem.W.instObj C s.heap.objs.size) rfl
    rwa [Heap.size_push] at this
  have e3 : (s.heap.push PySem.W.emptyDict).Ns s.heap.objs.size (fun _ => none) := ⟨PySem.W.emptyDict, #[], _, e1, rfl, (fun e he => absurd he (by simp)), fun _ => rfl⟩
  have I1 := I.laid (a := s.heap.objs.size) (o := .own (s.heap.objs.size + 1)) (h' := s.heap.push PySem.W.emptyDict) (t' := s.toks) (fun b u q => Heap.get?_push_of_some _ q) (Nat.le_refl _) ⟨_, e1⟩
  refine I1.laid (a := s.heap.objs.size + 1) (o := .ins C s.heap.objs.size []) (t' := s.toks) (fun b u q => Heap.get?_push_of_some _ q) (Nat.le_of_eq (Heap.size_push _ _)) ?_
  have ne : s.heap.objs.size ≠ s.heap.objs.size + 1 := Nat.ne_of_lt (Nat.lt_succ_self _)
  refine ⟨by rw [upd_ne ne, upd_same], Nat.zero_le _, ne, e2, fun _ => none, (Heap.Ns1.of_empty e3).at fun o q => Heap.get?_push_of_some _ q, fun _ => True.intro, fun y hy => absurd rfl hy⟩

/-- e.f where nothing but the object is asked: through attributeBase (super) and the last hold -/
theorem attr_of {prog : Program} {w : World} {env : Env} {e : Expr} {f : Str} {pos : Pos} {s : Shared} {Q : Value → Shared → Prop} (hb : attributeBase e f env (eval e env) = eval e env)
    (h : wpAny (model prog w) A (eval e env) (fun o s₁ => wpAny (model prog w) A (getAttr o f true) Q E s₁) E s) : wpAny (model prog w) A (eval (.Attribute e f pos) env) Q E s :=
  Attribute_any_ h (by rw [arm_eval_Attribute, hb])
end

/-! ### readings and rules -/
/-- e.f, an attribute of the instance -/
def tFld (K : PySem.W.Frag) (ta : TE) (f : Str) : TE := fun σ H Q => ta σ H fun x H1 => ∃ a C dx fs v, x = .ref a ∧ H1 a = some (.ins C dx fs) ∧ Cls K C ∧ NoAttr K C f ∧ fs.lookup f = some v ∧ Q v H1
/-- e.f = value -/
def sFld (K : PySem.W.Frag) (ta tv : TE) (f : Str) : TS := fun D σ H => tv σ H fun y H1 => ta σ H1 fun x H2 => ∃ a C dx fs, x = .ref a ∧ H2 a = some (.ins C dx fs) ∧ Cls K C ∧ NoAttr K C f ∧ fs.length < 1000 ∧
  D.nx σ (upd H2 a (.ins C dx (putF f y fs)))
section
variable {X : Cx} {o e value : Expr} {f : Str} {pos pos' tpos : Pos} {ta tv : TE}
theorem pe_fld (he : PE X e ta) (hb : attributeBase e f X.env (eval e X.env) = eval e X.env) : PE X (.Attribute e f pos) (tFld X.K ta f) := by
  intro pins s σ H Q I h
  refine attr_of hb (thn (he pins s σ H _ I h) fun u s1 ⟨x, H1, I1, rx, a, C, dx, fs, v, ex, ea, c, n, l, q⟩ => ?_)
  subst ex
  obtain rfl : u = Value.ref a := rx
  exact getattr_ok I1 ea c n l fun u' s2 I2 ru => ⟨v, H1, I2, ru, q⟩
theorem ps_fld (ha : PE X o ta) (hv : PE X value tv) (hs : swapsWith value (some (.Attribute o f pos')) pos.line X.env = pure false) : PS X (.Assign [.Attribute o f pos'] value pos) (sFld X.K ta tv f) := by
  intro pins s σ H D I h
  refine plainObj_wpAny_Assign_Attribute (thn (hv pins s σ H _ I h) fun u s1 ⟨y, H1, I1, ry, q⟩ => thn (ha pins s1 σ H1 _ I1 q) fun ov s2 ⟨x, H2, I2, rx, a, C, dx, fs, ex, ea, c, n, l, q2⟩ => ?_) hs
  subst ex
  obtain rfl : ov = Value.ref a := rx
  exact setattr_ok I2 ea c n l ry fun s3 I3 => ⟨σ, _, I3, q2⟩
end

/-! ### isinstance -/
section
variable {X : Cx} {pins : List (Addr × Obj)} {σ : St} {H : Hp} {s : Shared} {A : Around} {E : Value → Shared → Prop} {Q : Value → Shared → Prop} {c : Value} {b : Bool}
end
end L2

namespace L2
open PySem PySem.Spec PyProof.Rows

/-! ### room -/
structure Room (k : Nat) (A : Around) : Prop where
  hd : A.handled = none
  dp : A.depth + 3 * k + 5 < recursionLimit
  un : A.units + 16 * k + 200 < cLine
theorem Room.mono {j k : Nat} {A : Around} (r : Room k A) (h : j ≤ k) : Room j A := ⟨r.hd, by have := r.dp; omega, by have := r.un; omega⟩
theorem Room.deeper {k : Nat} {A : Around} (r : Room (k + 1) A) (env : Env) : Room k (A.deeper env) :=
  ⟨r.hd, by have := r.dp; show A.depth + 1 + 3 * k + 5 < _; omega, by have := r.un; show A.units + 3 + 16 * k + 200 < _; omega⟩
theorem Room.in1 {k : Nat} {A : Around} (r : Room (k + 1) A) : Room k A.in1 :=
  ⟨r.hd, by have := r.dp; show A.depth + 3 * k + 5 < _; omega, by have := r.un; show A.units + 1 + 16 * k + 200 < _; omega⟩
theorem make_depth {A : Around} {C : Addr} {us : List Value} {kw : List (Str × Value)} : (A.under (.builtin "type.__call__" ⟨.ref C :: us, kw⟩)).depth = A.depth + 1 := by
  first | rfl | simp [Around.under, Code.weight, Code.isCreation, Code.isGuard, Code.isCaller, Code.frames, Code.isFrame, guardIds]
theorem make_units {A : Around} {C : Addr} {us : List Value} {kw : List (Str × Value)} : (A.under (.builtin "type.__call__" ⟨.ref C :: us, kw⟩)).units = A.units + 1 := by
  first | rfl | simp [Around.under, Code.cUnits, Code.frames, Code.isFrame]
theorem Room.make {k : Nat} {A : Around} (r : Room (k + 1) A) (C : Addr) (us : List Value) (kw : List (Str × Value)) : Room k (A.under (.builtin "type.__call__" ⟨.ref C :: us, kw⟩)) :=
  ⟨r.hd, by have := r.dp; rw [make_depth]; omega, by have := r.un; rw [make_units]; omega⟩
theorem Room.depth {k : Nat} {A : Around} (r : Room k A) : A.depth < recursionLimit := by have := r.dp; omega
theorem Room.units {k : Nat} {A : Around} (r : Room k A) : A.units + 64 < cLine := by have := r.un; omega
theorem Room.units0 {k : Nat} {A : Around} (r : Room k A) : A.units < cLine := by have := r.un; omega

/-! ### argument lists and displays -/
def tNil : TA := fun _ H Q => Q [] H
def tCons (ta : TE) (tr : TA) : TA := fun σ H Q => ta σ H fun x H1 => tr σ H1 fun xs H2 => Q (x :: xs) H2
section
variable {X : Cx} {e : Expr} {es : List Expr} {te : TE} {t : TA} {pos : Pos}
theorem pa_nil : PA X [] tNil := fun _ _ _ _ H Q I h => Calls.spliced_nil ⟨[], H, I, .nil, h⟩
theorem pa_cons (ha : PE X e te) (hr : PA X es t) (hs : starEach (e :: es) X.env = (false, eval e X.env) :: starEach es X.env := by rfl) : PA X (e :: es) (tCons te t) := by
  intro pos pins s σ H Q I h
  rw [hs]
  show wpAny _ _ (spliced ((false, eval e X.env) :: backTo pos (starEach es X.env))) _ _ s
  refine Calls.spliced_cons (thn (ha pins s σ H _ I h) fun u s1 ⟨x, H1, I1, r1, q1⟩ => ?_)
  exact thn (hr pos pins s1 σ H1 _ I1 q1) fun us s2 ⟨xs, H2, I2, r2, q2⟩ => ⟨x :: xs, H2, I2, .cons r1 r2, q2⟩

/-- a tuple, a list of written items -/
def tTup (t : TA) : TE := fun σ H Q => t σ H fun xs H1 => xs.length ≤ sizeLine ∧ ∀ p, H1 p = none → Q (.ref p) (upd H1 p (.tup xs))
def tLst (t : TA) : TE := fun σ H Q => t σ H fun xs H1 => xs.length ≤ sizeLine ∧ ∀ p, H1 p = none → Q (.ref p) (upd H1 p (.lst xs))
theorem pe_tup {x1} (h : PA X es t) : PE X (.Tuple es x1 pos) (tTup t) := by
  intro pins s σ H Q I hq
  refine wpAny_Tuple_spliced (thn (h pos pins s σ H _ I hq) fun us s1 ⟨xs, H1, I1, r, z, q⟩ => ⟨by rw [← r.length]; exact z, ?_⟩)
  have hf : H1 s1.heap.objs.size = none := I1.hok.fresh (Nat.le_refl _)
  refine ⟨.ref s1.heap.objs.size, upd H1 s1.heap.objs.size (.tup xs), I1.laid (t' := s1.toks) (fun b u e => Heap.get?_push_of_some _ e) (Nat.le_refl _) ?_, rfl, q _ hf⟩
  exact ⟨z, us, r, ⟨_, Heap.get?_push_size _ rfl, rfl, _, rfl⟩⟩
theorem pe_lst (h : PA X es t) : PE X (.List es pos) (tLst t) := by
  intro pins s σ H Q I hq
  refine wpAny_List_spliced (thn (h pos pins s σ H _ I hq) fun us s1 ⟨xs, H1, I1, r, z, q⟩ => ⟨by rw [← r.length]; exact z, ?_⟩)
  have hf : H1 s1.heap.objs.size = none := I1.hok.fresh (Nat.le_refl _)
  refine ⟨.ref s1.heap.objs.size, upd H1 s1.heap.objs.size (.lst xs), I1.laid (t' := s1.toks) (fun b u e => Heap.get?_push_of_some _ e) (Nat.le_refl _) ?_, rfl, q _ hf⟩
  exact ⟨z, us, 0, r, Heap.get?_push_size _ rfl⟩
end

/-! ### what a def promises -/
/-- a def's promise: the bound arguments in the parameters' order, the heap, the wanted end, the wanted exception -/
abbrev Sp := List V → Hp → VK → XK → Prop
/-- how an exception lies behind a call (file 08 gives it): the callers' frames, abstract heap and state ahead of the call, the wish, the exception, the state -/
abbrev CXT := List Env → Hp → Shared → XK → Value → Shared → Prop

/-- the state at a call -/
structure Env0 (P : Program) (w : World) (K : PySem.W.Frag) (mg : Str → Option Value) (base : Heap) (A : Around) (outer : List Env) (s : Shared) (H : Hp) : Prop where
  frames : A.frames = some outer
  mod : Mod K mg base
  bs : ∀ b o, base.get? b = some o → s.heap.get? b = some o ∧ H b = none
  bsz : base.objs.size ≤ s.heap.objs.size
  funs : s.heap.FunFrames base outer
  frf : ∀ b ∈ frs outer, H b = none
  hok : HOk P w H s.heap
  bare : AllBare s.gens
/-- a call's end -/
def CE (outer : List Env) (P : Program) (w : World) (H : Hp) (s : Shared) (Q : VK) (u : Value) (s' : Shared) : Prop :=
  ∃ v H', s'.os = s.os ∧ AllBare s'.gens ∧ Un (frs outer) [] H H' s.heap s'.heap ∧ HOk P w H' s'.heap ∧ RelV v u ∧ Q v H'
def CR (CX : CXT) (outer : List Env) (P : Program) (w : World) (H : Hp) (s : Shared) (Q : VK) (E : XK) (r : Result) (s' : Shared) : Prop :=
  match r with
  | .ok (.ret u) => CE outer P w H s Q u s'
  | .ok _ => False
  | .error e => CX outer H s E e s'
structure FnOk (P : Program) (w : World) (K : PySem.W.Frag) (mg : Str → Option Value) (base : Heap) (CX : CXT) (k : Nat) (f : Addr) (fd : FuncData) (ps : List Str) (sp : Sp) : Prop where
  len : ∀ vs H Q E, sp vs H Q E → vs.length = ps.length
  run : ∀ (A : Around) (outer : List Env) (s : Shared) (H : Hp) (args : Args) (us : List Value) (vs : List V) (Q : VK) (E : XK), Room k A → Env0 P w K mg base A outer s H → BindsTo s fd args (ps.zip us) → Vals vs us → sp vs H Q E →
    codeAny (model P w) A (.call (.ref f) args) (CR CX outer P w H s Q E) s
theorem FnOk.mono {P : Program} {w : World} {K : PySem.W.Frag} {mg : Str → Option Value} {base : Heap} {CX : CXT} {j k : Nat} {f : Addr} {fd : FuncData} {ps : List Str} {sp : Sp} (F : FnOk P w K mg base CX j f fd ps sp) (h : j ≤ k) :
    FnOk P w K mg base CX k f fd ps sp := ⟨F.len, fun A outer s H args us vs Q E hr => F.run A outer s H args us vs Q E (hr.mono h)⟩
/-- a weaker promise -/
theorem FnOk.imp {P : Program} {w : World} {K : PySem.W.Frag} {mg : Str → Option Value} {base : Heap} {CX : CXT} {k : Nat} {f : Addr} {fd : FuncData} {ps : List Str} {sp sp' : Sp} (F : FnOk P w K mg base CX k f fd ps sp)
    (h : ∀ vs H Q E, sp' vs H Q E → sp vs H Q E) : FnOk P w K mg base CX k f fd ps sp' :=
  ⟨fun vs H Q E q => F.len vs H Q E (h _ _ _ _ q), fun A outer s H args us vs Q E hr he hb hv hs => F.run A outer s H args us vs Q E hr he hb hv (h _ _ _ _ hs)⟩

theorem Env0.make {P : Program} {w : World} {K : PySem.W.Frag} {mg : Str → Option Value} {base : Heap} {A : Around} {outer : List Env} {s : Shared} {H : Hp} (e : Env0 P w K mg base A outer s H) (C : Addr) (us : List Value) (kw : List (Str × Value)) :
    Env0 P w K mg base (A.under (.builtin "type.__call__" ⟨.ref C :: us, kw⟩)) outer s H := ⟨by first | exact e.frames | (simpa [Around.under, Code.envs, Code.isFrame, pushEnvs] using e.frames), e.mod, e.bs, e.bsz, e.funs, e.frf, e.hok, e.bare⟩
theorem Env0.in1 {P : Program} {w : World} {K : PySem.W.Frag} {mg : Str → Option Value} {base : Heap} {A : Around} {outer : List Env} {s : Shared} {H : Hp} (e : Env0 P w K mg base A outer s H) :
    Env0 P w K mg base A.in1 outer s H := ⟨e.frames, e.mod, e.bs, e.bsz, e.funs, e.frf, e.hok, e.bare⟩

section
variable {X : Cx} {pins : List (Addr × Obj)} {σ : St} {H : Hp} {s s' : Shared}
/-- from a body: what a callee wants -/
theorem Inv.env0 (I : Inv X pins σ H s) : Env0 X.prog X.w X.K X.mg X.base X.A X.stack s H :=
  ⟨I.ok.frames, I.ok.mod, I.bs, Nat.le_trans I.ok.bsz I.sz, I.stack, I.stkFree, I.hok, I.bare⟩
/-- behind a call -/
theorem Inv.after {Q : VK} {u : Value} (I : Inv X pins σ H s) (h : CE X.stack X.prog X.w H s Q u s') : EP X pins σ Q u s' := by
  obtain ⟨v, H', os, bare, un, hok, r, q⟩ := h
  obtain ⟨hh, g, d, t, os'⟩ := s'
  obtain rfl : os' = s.os := os
  exact ⟨v, H', I.call (h' := hh) (g' := g) (d' := d) (t' := t) (ch := []) un hok bare (fun b z => absurd z (by simp)), r, q⟩
end

/-! ### calls -/
/-- f(..): the written arguments, then the defaults dvs; E: what is wanted of an exception -/
def tCall (sp : Sp) (dvs : List V) (E : XK) (t : TA) : TE := fun σ H Q => t σ H fun vs H1 => sp (vs ++ dvs) H1 Q E
/-- o.m(..) of an instance of the class at C -/
def tMeth (C : Addr) (m : Str) (sp : Sp) (dvs : List V) (E : XK) (ta : TE) (t : TA) : TE := fun σ H Q => ta σ H fun x H1 => ∃ a dx fs, x = .ref a ∧ H1 a = some (.ins C dx fs) ∧ fs.lookup m = none ∧
  t σ H1 fun vs H2 => sp (x :: (vs ++ dvs)) H2 Q E
/-- C(..): a new instance and its dict, then __init__ -/
def tMake (C : Addr) (sp : Sp) (dvs : List V) (E : XK) (t : TA) : TE := fun σ H Q => t σ H fun vs H1 => ∀ x dx, H1 x = none → H1 dx = none → dx ≠ x →
  sp (.ref x :: (vs ++ dvs)) (upd (upd H1 dx (.own x)) x (.ins C dx [])) (fun v H2 => v = .non ∧ Q (.ref x) H2) E

/-- how the parameters are bound: us the positional arguments, kw the keywords' values by name, ds the defaults that fill up -/
def Binds (K : PySem.W.Frag) (fd : FuncData) (ps : List Str) (ds : List Value) : Prop :=
  ∀ (s : Shared) (us : List Value), K.In s.heap → (us ++ ds).length = ps.length → BindsTo s fd ⟨us, []⟩ (ps.zip (us ++ ds))
/-- every parameter is given -/
theorem Binds.all {K : PySem.W.Frag} {fd : FuncData} {ps : List Str} (h : ∀ us : List Value, us.length = ps.length → bindArgs fd ⟨us, []⟩ = pure (ps.zip us)) : Binds K fd ps [] := fun s us _ hl => by
  rw [List.append_nil] at hl ⊢
  exact .of_eq (h us hl)

/-- an exception of a callee reaches what this body wants of exceptions -/
def Passes (CX : CXT) (X : Cx) (E : XK) : Prop := ∀ (pins : List (Addr × Obj)) (σ : St) (H : Hp) (s : Shared) (e : Value) (s' : Shared), Inv X pins σ H s → CX X.stack H s E e s' → X.xe e s'

section
variable {X : Cx} {CX : CXT} {k : Nat} {f C : Addr} {fd : FuncData} {ps : List Str} {sp : Sp} {dvs : List V} {ds : List Value} {E : XK} {x m : Str} {p pos apos : Pos} {e o : Expr} {es : List Expr} {ta : TE} {t : TA}

/-- the callee runs -/
theorem run_fn {pins : List (Addr × Obj)} {σ : St} {H : Hp} {s : Shared} {Q : VK} {us : List Value} {vs : List V} (F : FnOk X.prog X.w X.K X.mg X.base CX k f fd ps sp) (hr : Room k X.A) (hb : Binds X.K fd ps ds) (hd : Vals dvs ds) (hx : Passes CX X E)
    (I : Inv X pins σ H s) (r : Vals vs us) (h : sp (vs ++ dvs) H Q E) : wpAny (model X.prog X.w) X.A (call (.ref f) us) (EP X pins σ Q) X.xe s := by
  have r2 : Vals (vs ++ dvs) (us ++ ds) := r.append hd
  have hl : (us ++ ds).length = ps.length := by rw [← r2.length]; exact F.len _ _ _ _ h
  refine wpAny_call (codeAny_mono (F.run X.A X.stack s H ⟨us, []⟩ (us ++ ds) (vs ++ dvs) Q E hr I.env0 (hb s us I.kIn hl) r2 h) fun r s' hq => ?_)
  cases r with
  | error e => exact hx pins σ H s e s' I hq
  | ok fl =>
    cases fl with
    | ret u => exact I.after hq
    | next => exact False.elim hq
    | brk => exact False.elim hq
    | cont => exact False.elim hq

theorem pe_call (F : FnOk X.prog X.w X.K X.mg X.base CX k f fd ps sp) (hr : Room k X.A) (hg : Gl X x) (hm : X.mg x = some (.ref f)) (hk : PySem.W.keepIn X.K (.ref f) = true) (hb : Binds X.K fd ps ds) (hd : Vals dvs ds) (hx : Passes CX X E)
    (ha : PA X (e :: es) t) (hdb : (x == ("__debug__" : Str)) = false := by decide) (he : starEach (e :: es) X.env = (false, eval e X.env) :: starEach es X.env := by rfl) (hpl : (backTo pos (starEach es X.env)).any (·.1) = false := by rfl) :
    PE X (.Call (.Name x p) (e :: es) [] pos) (tCall sp dvs E t) := by
  intro pins s σ H Q I h
  refine wpAny_Call_Name_kw (ld_glob I hg hm ?_ hdb)
  refine PySem.W.callWith_K (h₀ := X.base) I.ok.mod.kin hk (thn (ha pos pins s σ H _ I h) fun us s1 ⟨vs, H1, I1, r, q⟩ => ⟨I1.kIn, ?_⟩) he hpl
  exact run_fn F hr hb hd hx I1 r q
theorem pe_call0 (F : FnOk X.prog X.w X.K X.mg X.base CX k f fd ps sp) (hr : Room k X.A) (hg : Gl X x) (hm : X.mg x = some (.ref f)) (hk : PySem.W.keepIn X.K (.ref f) = true) (hb : Binds X.K fd ps ds) (hd : Vals dvs ds) (hx : Passes CX X E)
    (hdb : (x == ("__debug__" : Str)) = false := by decide) : PE X (.Call (.Name x p) [] [] pos) (tCall sp dvs E tNil) := by
  intro pins s σ H Q I h
  refine wpAny_Call_Name_kw (ld_glob I hg hm ?_ hdb)
  exact PySem.W.callWith_K0 I.kIn hk (run_fn (us := []) F hr hb hd hx I .nil h)

/-- o.m(e, ..) -/
theorem pe_meth {pl : Sem Bool} (he : PE X o ta) (c : Cls X.K C) (hm : Meth X.K C m f) (F : FnOk X.prog X.w X.K X.mg X.base CX k f fd ps sp) (hr : Room k X.A) (hb : Binds X.K fd ps ds) (hd : Vals dvs ds) (hx : Passes CX X E) (ha : PA X (e :: es) t)
    (hst : starEach (e :: es) X.env = (false, eval e X.env) :: starEach es X.env := by rfl) (hpl : (backTo pos (starEach es X.env)).any (·.1) = false := by rfl)
    (ht : eval (.Call (.Attribute o m apos) (e :: es) [] pos) X.env = (do
      let ov ← eval o X.env
      standAt apos.atName
      let (f, first) ← holding [ov] (getMethod ov m pl)
      callWith pos f first (backTo pos (starEach (e :: es) X.env)) (backToKw pos (keywordEach [] X.env))) := by rfl) :
    PE X (.Call (.Attribute o m apos) (e :: es) [] pos) (tMeth C m sp dvs E ta t) := by
  intro pins s σ H Q I h
  refine PySem.W.methodCall_KW (pl := pl) (thn (he pins s σ H _ I h) fun u s1 ⟨x, H1, I1, rx, a, dx, fs, ex, ea, l, q⟩ => ?_) ht
  subst ex
  obtain rfl : u = Value.ref a := rx
  refine getmeth_ok I1 ea c hm l ?_
  refine PySem.W.callWith_K (first := [.ref a]) (h₀ := X.base) I.ok.mod.kin hm.kp (thn (ha pos pins s1 σ H1 _ I1 q) fun us s2 ⟨vs, H2, I2, r, q2⟩ => ⟨I2.kIn, ?_⟩) hst hpl
  exact run_fn (us := .ref a :: us) (vs := .ref a :: vs) F hr hb hd hx I2 (.cons rfl r) q2
/-- o.m() -/
theorem pe_meth0 {pl : Sem Bool} (he : PE X o ta) (c : Cls X.K C) (hm : Meth X.K C m f) (F : FnOk X.prog X.w X.K X.mg X.base CX k f fd ps sp) (hr : Room k X.A) (hb : Binds X.K fd ps ds) (hd : Vals dvs ds) (hx : Passes CX X E)
    (ht : eval (.Call (.Attribute o m apos) [] [] pos) X.env = (do
      let ov ← eval o X.env
      standAt apos.atName
      let (f, first) ← holding [ov] (getMethod ov m pl)
      callWith pos f first (backTo pos (starEach [] X.env)) (backToKw pos (keywordEach [] X.env))) := by rfl) :
    PE X (.Call (.Attribute o m apos) [] [] pos) (tMeth C m sp dvs E ta tNil) := by
  intro pins s σ H Q I h
  refine PySem.W.methodCall_KW (pl := pl) (thn (he pins s σ H _ I h) fun u s1 ⟨x, H1, I1, rx, a, dx, fs, ex, ea, l, q⟩ => ?_) ht
  subst ex
  obtain rfl : u = Value.ref a := rx
  refine getmeth_ok I1 ea c hm l ?_
  exact PySem.W.callWith_K0 (first := [.ref a]) I1.kIn hm.kp (run_fn (us := [.ref a]) (vs := [.ref a]) F hr hb hd hx I1 (.cons rfl .nil) q)

/-- what a class must have to be made -/
structure Mk (K : PySem.W.Frag) (C f : Addr) : Prop where
  makes : PySem.W.makesIn K C = true
  init : PySem.W.findIn K (.ref C) "__init__" = some (some (.ref f))
  fn : PySem.W.isFn K (.ref f) = true
  kp : PySem.W.keepIn K (.ref C) = true

theorem run_make {pins : List (Addr × Obj)} {σ : St} {H : Hp} {s : Shared} {Q : VK} {us : List Value} {vs : List V} (M : Mk X.K C f) (F : FnOk X.prog X.w X.K X.mg X.base CX k f fd ps sp) (hr : Room (k + 1) X.A) (hb : Binds X.K fd ps ds) (hd : Vals dvs ds)
    (hx : Passes CX X E) (I : Inv X pins σ H s) (r : Vals vs us)
    (h : ∀ x dx, H x = none → H dx = none → dx ≠ x → sp (.ref x :: (vs ++ dvs)) (upd (upd H dx (.own x)) x (.ins C dx [])) (fun v H2 => v = .non ∧ Q (.ref x) H2) E) :
    wpAny (model X.prog X.w) X.A (call (.ref C) us) (EP X pins σ Q) X.xe s := by
  have hq := h (s.heap.objs.size + 1) s.heap.objs.size (I.hok.fresh (Nat.le_succ _)) (I.hok.fresh (Nat.le_refl _)) (Nat.ne_of_lt (Nat.lt_succ_self _))
  have I2 := Inv.made (C := C) I
  have r2 : Vals (V.ref (s.heap.objs.size + 1) :: (vs ++ dvs)) (Value.ref (s.heap.objs.size + 1) :: (us ++ ds)) := .cons rfl (r.append hd)
  have hl : (Value.ref (s.heap.objs.size + 1) :: us ++ ds).length = ps.length := by
    have e := r2.length
    rw [F.len _ _ _ _ hq] at e
    exact e.symm
  refine wpAny_call (make_map (f := f) I.kIn M.makes M.init (beq_iff_eq.mp M.fn) (codeAny_mono (F.run _ X.stack _ _ ⟨Value.ref (s.heap.objs.size + 1) :: us, []⟩ (Value.ref (s.heap.objs.size + 1) :: (us ++ ds)) _ _ E (hr.make C us [])
    (I2.env0.make C us []) (hb _ (Value.ref (s.heap.objs.size + 1) :: us) I2.kIn hl) r2 hq) fun r s' hq' => ?_))
  cases r with
  | error e => exact hx pins σ _ _ e s' I2 hq'
  | ok fl =>
    cases fl with
    | ret u =>
      obtain ⟨v, H', I3, rv, ev, q3⟩ := I2.after hq'
      subst ev
      exact ⟨rv, ⟨V.ref (s.heap.objs.size + 1), H', I3, rfl, q3⟩⟩
    | next => exact False.elim hq'
    | brk => exact False.elim hq'
    | cont => exact False.elim hq'
theorem pe_make0 (M : Mk X.K C f) (F : FnOk X.prog X.w X.K X.mg X.base CX k f fd ps sp) (hr : Room (k + 1) X.A) (hg : Gl X x) (hm : X.mg x = some (.ref C)) (hb : Binds X.K fd ps ds) (hd : Vals dvs ds) (hx : Passes CX X E)
    (hdb : (x == ("__debug__" : Str)) = false := by decide) : PE X (.Call (.Name x p) [] [] pos) (tMake C sp dvs E tNil) := by
  intro pins s σ H Q I h
  refine wpAny_Call_Name_kw (ld_glob I hg hm ?_ hdb)
  exact PySem.W.callWith_K0 I.kIn M.kp (run_make (us := []) M F hr hb hd hx I .nil h)
end

/-! ### keywords -/
section
variable {X : Cx} {CX : CXT} {k : Nat} {f C : Addr} {fd : FuncData} {ps ks : List Str} {sp : Sp} {E : XK} {x m : Str} {p pos apos kpos : Pos} {e o : Expr} {es : List Expr} {kws : List Keyword} {te ta : TE} {t tk : TA} {nm : Option Str}
variable {g : List Value → List Value → List Value} {gV : List V → List V → List V}
end

/-! ### a def's body keeps its promise -/
/-- names: the parameters first -/
structure FnScope (N P : List Str) (sc : Scope) : Prop where
  kind : sc.kind = .function
  co : sc.isCoroutine = false
  gen : sc.isGenerator = false
  nd : N.Nodup
  pre : N.take P.length = P
  par : ∀ x ∈ P, sc.names.lookup x = some .local ∨ sc.names.lookup x = some .cell
  nofree : ∀ y ∈ sc.names, y.2 ≠ .free

theorem bindL_out {kindOf : Str → Option NameKind} {x : Str} : ∀ {binds : List (Str × Value)} {m : Str → Option Value}, (∀ v, (x, v) ∉ binds) → bindL kindOf binds m x = m x
  | [], _, _ => rfl
  | (n, v) :: r, m, h => by
    unfold bindL
    rw [bindL_out fun w hw => h w (List.mem_cons_of_mem _ hw)]
    split
    · have : x ≠ n := by rintro rfl; exact h v List.mem_cons_self
      simp [this]
    · rfl
theorem bindC_out {kindOf : Str → Option NameKind} {x : Str} : ∀ {binds : List (Str × Value)} {m : Str → Option Value}, (∀ v, (x, v) ∉ binds) → bindC kindOf binds m x = m x
  | [], _, _ => rfl
  | (n, v) :: r, m, h => by
    unfold bindC
    rw [bindC_out fun w hw => h w (List.mem_cons_of_mem _ hw)]
    split
    · rfl
    · have : x ≠ n := by rintro rfl; exact h v List.mem_cons_self
      simp [this]
theorem bindL_get {kindOf : Str → Option NameKind} {x : Str} {v : Value} : ∀ {P : List Str} {vs : List Value} {i : Nat} {m : Str → Option Value}, P.Nodup → P[i]? = some x → vs[i]? = some v → kindOf x = some .local →
    bindL kindOf (P.zip vs) m x = some v
  | [], _, _, _, _, h, _, _ => by simp at h
  | _ :: _, [], _, _, _, _, h, _ => by simp at h
  | p :: P, w :: vs, 0, m, nd, h1, h2, hk => by
    simp at h1 h2; subst h1; subst h2
    show bindL kindOf ((p, w) :: P.zip vs) m p = _
    unfold bindL
    rw [bindL_out fun v hv => (List.nodup_cons.mp nd).1 (List.of_mem_zip hv).1, if_pos hk]
    simp
  | p :: P, w :: vs, i + 1, m, nd, h1, h2, hk => by
    show bindL kindOf ((p, w) :: P.zip vs) m x = _
    unfold bindL
    exact bindL_get (i := i) (List.nodup_cons.mp nd).2 (by simpa using h1) (by simpa using h2) hk
theorem bindC_get {kindOf : Str → Option NameKind} {x : Str} {v : Value} : ∀ {P : List Str} {vs : List Value} {i : Nat} {m : Str → Option Value}, P.Nodup → P[i]? = some x → vs[i]? = some v → kindOf x ≠ some .local →
    bindC kindOf (P.zip vs) m x = some v
  | [], _, _, _, _, h, _, _ => by simp at h
  | _ :: _, [], _, _, _, _, h, _ => by simp at h
  | p :: P, w :: vs, 0, m, nd, h1, h2, hk => by
    simp at h1 h2; subst h1; subst h2
    show bindC kindOf ((p, w) :: P.zip vs) m p = _
    unfold bindC
    rw [bindC_out fun v hv => (List.nodup_cons.mp nd).1 (List.of_mem_zip hv).1, if_neg hk]
    simp
  | p :: P, w :: vs, i + 1, m, nd, h1, h2, hk => by
    show bindC kindOf ((p, w) :: P.zip vs) m x = _
    unfold bindC
    exact bindC_get (i := i) (List.nodup_cons.mp nd).2 (by simpa using h1) (by simpa using h2) hk

/-- the names' values at the entry -/
def start (N : List Str) (vs : List V) : St := vs.map some ++ List.replicate (N.length - vs.length) none

/-- the context of a def's body, at its entry; an exception leaves the frame, then lies as CX says -/
def cxOf (CX : CXT) (P : Program) (w : World) (K : PySem.W.Frag) (mg : Str → Option Value) (base : Heap) (N : List Str) (qual : Str) (scope : Scope) (f : Addr) (cd : Value) (A : Around) (outer : List Env) (s : Shared) (H : Hp) (E : XK) : Cx where
  prog := P
  w := w
  K := K
  mg := mg
  base := base
  A := A.deeper (envOfC qual scope s.heap.objs.size f cd)
  N := N
  s₀ := s
  H₀ := H
  env := envOfC qual scope s.heap.objs.size f cd
  outer := outer
  stack := envOfC qual scope s.heap.objs.size f cd :: outer
  ex := []
  calm := true
  fn := fun _ => true
  pn := []
  xe := fun e s' => wpAny (model P w) (A.deeper (envOfC qual scope s.heap.objs.size f cd)) (leaving (envOfC qual scope s.heap.objs.size f cd) e) (fun _ s'' => CX outer H s E e s'') (fun e' s'' => CX outer H s E e' s'') s'

theorem cell_has {sc : Scope} {n : Nat} {x : Str} (h : sc.names.lookup x = some .cell) : ∃ c, (cellsFrom n sc.names []).lookup x = some c := by
  have q := PySem.W.cellsFrom_some sc.names n [] (.inl h)
  exact Option.isSome_iff_exists.mp q

theorem inv_start {CX : CXT} {P : Program} {w : World} {K : PySem.W.Frag} {mg : Str → Option Value} {base : Heap} {N ps : List Str} {qual : Str} {scope : Scope} {f : Addr} {cd : Value} {A : Around} {outer : List Env} {s s1 : Shared} {H : Hp} {E : XK} {us : List Value} {vs : List V}
    (S : FnScope N ps scope) (hd : A.handled = none) (e0 : Env0 P w K mg base A outer s H) (hl : vs.length = ps.length) (r : Vals vs us)
    (x : InCallC s s.heap.objs.size (bindL (envOfC qual scope s.heap.objs.size f cd).kindOf (ps.zip us) fun _ => none) (cellsFrom (s.heap.objs.size + 1) scope.names []) (bindC (envOfC qual scope s.heap.objs.size f cd).kindOf (ps.zip us) fun _ => none) s1) :
    Inv (cxOf CX P w K mg base N qual scope f cd A outer s H E) [] (start N vs) H s1 := by
  have hpl : ps.length ≤ N.length := by have := congrArg List.length S.pre; rw [List.length_take] at this; omega
  obtain ⟨h1, tk, rfl, hk⟩ := x.done
  have noA : ∀ b : Addr, b ∉ (cxOf CX P w K mg base N qual scope f cd A outer s H E).ex := fun b z => absurd (show b ∈ ([] : List Addr) from z) (by simp)
  refine ⟨⟨e0.mod, S.kind, rfl, rfl, Nat.le_refl _, fun y z c h1 h2 => ?_, fun y hy => ?_, fun y c _ h => ?_, fun _ => hd, Around.frames_deeper e0.frames, .inr ⟨rfl, rfl⟩, fun b z => absurd z (noA b), e0.bs, e0.bsz, fun b _ _ => noA b, fun b z => absurd z (noA b), e0.funs, e0.frf⟩,
    rfl, e0.bare, Un.kept hk, ⟨_, x.toInCall.ns, fun i y v h1 h2 h3 => ?_⟩, fun y c h => ⟨_, x.cell y c h⟩, e0.hok.fresh (Nat.le_refl _), fun y c h => ?_, fun p hp => absurd (show p ∈ ([] : List (Addr × Obj)) from hp) (by simp), e0.hok.kept hk, ?_⟩
  · exact name_of_addr x.apart (PySem.mem_of_lookup h1) (PySem.mem_of_lookup h2)
  · have hy : scope.names.lookup y = some .cell ∨ scope.names.lookup y = some .free := hy
    rcases hy with hy | hy
    · exact cell_has hy
    · exact absurd rfl (S.nofree _ (PySem.mem_of_lookup hy))
  · exact Nat.le_of_lt (x.above y c (PySem.mem_of_lookup h))
  · have hi : i < vs.length := by
      unfold start at h2
      by_cases hi : i < vs.length
      · exact hi
      · rw [List.getElem?_append_right (by simpa using hi)] at h2
        rw [List.getElem?_replicate] at h2
        split at h2 <;> cases h2
    have ha : vs[i]? = some v := by
      unfold start at h2
      rw [List.getElem?_append_left (by simpa using hi), List.getElem?_map] at h2
      cases e : vs[i]? with
      | none => rw [e] at h2; cases h2
      | some a => rw [e] at h2; cases h2; rfl
    obtain ⟨u, hu, rv⟩ := r.get ha
    have hp : ps[i]? = some y := by
      rw [← S.pre, List.getElem?_take_of_lt (by omega)]; exact h1
    have ndP : ps.Nodup := by rw [← S.pre]; exact S.nd.sublist (List.take_sublist _ _)
    refine ⟨u, rv, ?_⟩
    rcases S.par y (List.mem_of_getElem? hp) with k | k
    · exact .inl ⟨k, bindL_get ndP hp hu k⟩
    · obtain ⟨c, e⟩ := cell_has (n := s.heap.objs.size + 1) k
      refine .inr ⟨.inl k, c, e, ?_⟩
      have q := x.cell y c e
      rw [bindC_get ndP hp hu (by show scope.names.lookup y ≠ _; rw [k]; decide)] at q
      exact q
  · exact e0.hok.fresh (Nat.le_of_lt (x.above y c (PySem.mem_of_lookup h)))
  · unfold start
    show _ = N.length
    rw [List.length_append, List.length_map, List.length_replicate]
    omega

/-- THE RULE: a def (or a method) of the text, by its body. The body's reading t is chosen for each entry; it is run at the parameters' values -/
theorem fn_of {CX : CXT} {P : Program} {w : World} {K : PySem.W.Frag} {mg : Str → Option Value} {base : Heap} {k : Nat} {f : Addr} {name qual : Str} {params : Arguments} {body : List Stmt} {scope : Scope} {dV kV doc pm cdv ct oc : Value} {an od : Option Addr}
    {osl : Array (Option Value)} {N ps : List Str} {sp : Sp} (lk : K.lookup f = some ⟨oc, od, .func (PySem.W.fnOf name qual params body scope dV kV doc pm an cdv ct), osl⟩) (hcd : PySem.W.codeIn K cdv qual = true) (S : FnScope N ps scope)
    (len : ∀ vs H Q E, sp vs H Q E → vs.length = ps.length)
    (hbody : ∀ (A : Around) (outer : List Env) (s : Shared) (H : Hp) (vs : List V) (Q : VK) (E : XK), Room k (A.deeper (envOfC qual scope s.heap.objs.size f cdv)) → sp vs H Q E →
      ∃ t, PSs (cxOf CX P w K mg base N qual scope f cdv A outer s H E) body t ∧ t { nx := fun _ H' => Q .non H', rt := Q } (start N vs) H) :
    FnOk P w K mg base CX (k + 1) f (PySem.W.fnOf name qual params body scope dV kV doc pm an cdv ct) ps sp := by
  refine ⟨len, fun A outer s H args us vs Q E hr e0 hb r hsp => ?_⟩
  have hl := len _ _ _ _ hsp
  have KX : K.In s.heap := e0.mod.kin.keeps fun b o e => (e0.bs b o e).1
  have lim : s.heap.NoLimit := e0.mod.nolimit.keeps fun b o e => (e0.bs b o e).1
  have hkind : ∀ y ∈ ps.zip us, scope.names.lookup y.1 = some .local ∨ (scope.names.lookup y.1 = some .cell ∧ ((cellsFrom (s.heap.objs.size + 1) scope.names []).lookup y.1).isSome = true) := fun ⟨n, v⟩ hy => by
    rcases S.par n (List.of_mem_zip hy).1 with q | q
    · exact .inl q
    · exact .inr ⟨q, PySem.W.cellsFrom_some _ _ _ (.inl q)⟩
  refine codeAny_call_function hr.depth (KX _ _ lk) rfl S.co S.gen rfl (PySem.W.codeRec_of KX hcd) (hb _ _ _ _ ?_)
  refine wpAny_newFunctionEnv_cells S.kind hkind fun env he s1 x => ?_
  subst he
  refine ⟨lim.keeps x.toInCall.keep, codeAny_func ?_⟩
  obtain ⟨t, ht, hq⟩ := hbody A outer s H vs Q E (hr.deeper _) hsp
  have I : Inv (cxOf CX P w K mg base N qual scope f cdv A outer s H E) [] (start N vs) H s1 := inv_start S hr.hd e0 hl r x
  refine wpAny_mono (ht [] s1 (start N vs) H _ I hq) (fun fl s' hs => ?_) fun e s' hs => hs
  have fin : ∀ {σ' : St} {H' : Hp} {v : V} {u : Value}, Inv (cxOf CX P w K mg base N qual scope f cdv A outer s H E) [] σ' H' s' → RelV v u → Q v H' → CE outer P w H s Q u s' :=
    fun {σ' H' v u} J rv q => ⟨v, H', J.os, J.bare, J.base, J.hok, rv, q⟩
  cases fl with
  | ret u =>
    obtain ⟨v, σ', H', J, rv, q⟩ := hs
    exact fin J rv q
  | next =>
    obtain ⟨σ', H', J, q⟩ := hs
    exact fin (v := V.non) (u := Value.none) J rfl q
  | brk =>
    obtain ⟨_, _, _, q⟩ := hs
    exact False.elim q
  | cont =>
    obtain ⟨_, _, _, q⟩ := hs
    exact False.elim q
end L2

namespace L2
open PySem PySem.Spec PyProof.Rows
section
variable {X : Cx} {x : Str} {p pos : Pos} {e : Expr} {es : List Expr} {t : TA} {id T : String} {r : List V → Hp → VK → Prop}

def tCB (r : List V → Hp → VK → Prop) (t : TA) : TE := fun σ H Q => t σ H fun vs H1 => r vs H1 Q
/-- f(e, ..), f a built-in function -/
theorem pe_callB (hc : CallR X (.builtin id) r) (hg : Gl X x) (hm : X.mg x = none) (hv : bootBuiltins x = some (.builtin id)) (ha : PA X (e :: es) t) (hn : x ≠ "__name__" := by decide) (hdb : (x == ("__debug__" : Str)) = false := by decide)
    (he : starEach (e :: es) X.env = (false, eval e X.env) :: starEach es X.env := by rfl) (hpl : (backTo pos (starEach es X.env)).any (·.1) = false := by rfl) : PE X (.Call (.Name x p) (e :: es) [] pos) (tCB r t) := by
  intro pins s σ H Q I h
  refine wpAny_Call_Name_kw (ld_blt I hg hm hv ?_ hn hdb)
  exact PyProof.Rows.callWith_builtin1 (thn (ha pos pins s σ H _ I h) fun us s1 ⟨vs, H1, I1, r1, q1⟩ => hc pins s1 σ H1 vs us Q I1 r1 q1) he hpl
/-- T(e, ..), T a built-in type -/
theorem pe_callTy (hc : CallR X (.type T) r) (hg : Gl X x) (hm : X.mg x = none) (hv : bootBuiltins x = some (.type T)) (ha : PA X (e :: es) t) (hn : x ≠ "__name__" := by decide) (hdb : (x == ("__debug__" : Str)) = false := by decide)
    (he : starEach (e :: es) X.env = (false, eval e X.env) :: starEach es X.env := by rfl) (hpl : (backTo pos (starEach es X.env)).any (·.1) = false := by rfl) : PE X (.Call (.Name x p) (e :: es) [] pos) (tCB r t) := by
  intro pins s σ H Q I h
  refine wpAny_Call_Name_kw (ld_blt I hg hm hv ?_ hn hdb)
  exact PyProof.Rows.callWith_type1 (thn (ha pos pins s σ H _ I h) fun us s1 ⟨vs, H1, I1, r1, q1⟩ => hc pins s1 σ H1 vs us Q I1 r1 q1) he hpl
end
end L2

namespace HT
open PySem PyProof.Rows

section
open PySem.SeqAt
open PySem.AutoSeq1 (wpAny_loadPart')
open PySem.MeetsSeq PySem.MeetsSeq2 PySem.MeetsSeq3

end

section
variable {prog : Program} {w : World} {A : Around} {E : Value → Shared → Prop} {s : Shared}

/-- t + u, t not empty -/
theorem cat_tup {t b : Addr} {vs ws : List Value} {Q : Value → Shared → Prop} (ht : IsTup s.heap t vs.toArray) (hb : IsTup s.heap b ws.toArray) (hv : vs ≠ [])
    (h1 : ws = [] → Q (.ref t) s) (h2 : ws ≠ [] → Q (.ref s.heap.objs.size) { s with heap := s.heap.push { cls := .type "tuple", data := .seq (vs ++ ws).toArray } })
    (hsz : vs.length + ws.length ≤ sizeLine) : wpAny (model prog w) A (binaryOp .Add (.ref t) (.ref b)) Q E s := by
  obtain ⟨⟨cls, dd, data, sl⟩, ho, hc, n, hd⟩ := id ht
  obtain ⟨⟨cls2, dd2, data2, sl2⟩, ho2, hc2, n2, hd2⟩ := id hb
  simp only at hc hd hc2 hd2
  subst hc hd hc2 hd2
  have e : vs.toArray ++ ws.toArray = (vs ++ ws).toArray := by simp
  by_cases hw : ws = []
  · exact concat_meets ⟨_, ho, rfl⟩ ⟨_, ho2, rfl⟩ noFill_tuple_add seq_tuple_add PySem.F.slot_tuple_add PySem.F.entry_tuple_add (PySem.F.args_tuple_add_2 _ _)
      (tuple_addW1 t b vs.toArray ws.toArray n n2 dd dd2 sl sl2 (by simpa using hv) (by simp [hw])) ⟨ho, ho2, h1 hw⟩
  · refine concat_meets ⟨_, ho, rfl⟩ ⟨_, ho2, rfl⟩ noFill_tuple_add seq_tuple_add PySem.F.slot_tuple_add PySem.F.entry_tuple_add (PySem.F.args_tuple_add_2 _ _)
      (tuple_addW2 t b vs.toArray ws.toArray n n2 dd dd2 sl sl2 (by simpa using hv) (by simpa using hw) (by rw [List.size_toArray, List.size_toArray]; exact hsz)) ⟨ho, ho2, ?_⟩
    rw [e]
    exact h2 hw

/-! ### t[a:b], not the whole -/
end
end HT

namespace L2
open PySem PySem.Spec PyProof.Rows

/-! ### the parts of a slice -/
abbrev TO := St → Hp → (Option Int → Hp → Prop) → Prop
section
variable {X : Cx} {e : Expr} {te : TE} {lo hi : Option Expr} {tl th : TO} {pos p2 : Pos}

/-- what a slice of a value is, by values: the slice object stands at sl -/
def SlR (X : Cx) (r : V → Option Int → Option Int → Hp → VK → Prop) : Prop :=
  ∀ (pins : List (Addr × Obj)) (s : Shared) (σ : St) (H : Hp) (x : V) (v vl vu : Value) (lo hi : Option Int) (sl : Addr) (Q : VK), Inv X pins σ H s → RelV x v → s.heap.IsSliceOf sl vl vu .none → IsPart vl lo → IsPart vu hi → r x lo hi H Q →
    ∃ T id, typeLookup (.type T) "__getitem__" = pure (some (.builtin id)) ∧ s.TypeIs v T ∧ wpAny (model X.prog X.w) X.A (getItem v (.ref sl)) (EP X pins σ Q) X.xe s
theorem SlR.or {r r' : V → Option Int → Option Int → Hp → VK → Prop} (h : SlR X r) (h' : SlR X r') : SlR X (fun x lo hi H Q => r x lo hi H Q ∨ r' x lo hi H Q) := by
  intro pins s σ H x v vl vu lo hi sl Q I rx hs pl pu q
  rcases q with q | q
  · exact h pins s σ H x v vl vu lo hi sl Q I rx hs pl pu q
  · exact h' pins s σ H x v vl vu lo hi sl Q I rx hs pl pu q
/-! ### t < u, t + u -/
/-- t + u, t not empty: u empty gives t itself -/
def rCatT (K : PySem.W.Frag) : R2 := fun x y H Q => ∃ a b xs ys, x = .ref a ∧ y = .ref b ∧ SqT K H a xs ∧ SqT K H b ys ∧ xs ≠ [] ∧ xs.length + ys.length ≤ sizeLine ∧
  (ys = [] → Q (.ref a) H) ∧ (ys ≠ [] → ∀ p, H p = none → Q (.ref p) (upd H p (.tup (xs ++ ys))))
theorem Vals.nil_iff {xs : List V} {us : List Value} (r : Vals xs us) : us = [] ↔ xs = [] := by
  cases r with
  | nil => simp
  | cons _ _ => simp
theorem op_catT : OpR X (binaryOp .Add) (rCatT X.K) := by
  intro pins s σ H x y v u Q I rx ry h
  obtain ⟨a, b, xs, ys, rfl, rfl, ha, hb, hx, hz, q1, q2⟩ := h
  cases rx
  cases ry
  obtain ⟨its, r1, p1, _⟩ := I.tuple ha
  obtain ⟨its2, r2, p2, _⟩ := I.tuple hb
  refine HT.cat_tup p1 p2 (fun z => hx (r1.nil_iff.mp z)) (fun z => ⟨.ref a, H, I, rfl, q1 (r2.nil_iff.mp z)⟩) (fun z => ?_) (by rw [← r1.length, ← r2.length]; exact hz)
  refine ⟨.ref s.heap.objs.size, _, I.laid (t' := s.toks) (o := .tup (xs ++ ys)) (fun b ob q => Heap.get?_push_of_some _ q) (Nat.le_refl _) ?_, rfl, q2 (fun w => z (r2.nil_iff.mpr w)) _ (I.hok.fresh (Nat.le_refl _))⟩
  exact ⟨by rw [List.length_append]; exact hz, _, r1.append r2, IsTup.new _ _⟩
end
end L2

namespace L2
open PySem PySem.Spec PyProof.Rows

/-! ### places -/
/-- the place that an index of any sign means -/
def ixN (n : Nat) (i : Int) : Option Nat := if 0 ≤ i then (if i < n then some i.toNat else none) else if -(n : Int) ≤ i then some (i + n).toNat else none
def atI {α : Type} (xs : List α) (i : Int) : Option α := (ixN xs.length i).bind fun j => xs[j]?
theorem ixN_seq {n : Nat} {i : Int} {j : Nat} (h : ixN n i = some j) : seqIndex? i n = some j ∧ j < n ∧ -(n : Int) ≤ i ∧ i < n := by
  unfold ixN at h
  by_cases h0 : 0 ≤ i
  · rw [if_pos h0] at h
    by_cases h1 : i < n
    · rw [if_pos h1] at h
      have e : i.toNat = j := Option.some.inj h
      exact ⟨by rw [seqIndex_of h0 h1, e], by omega, by omega, h1⟩
    · rw [if_neg h1] at h; cases h
  · rw [if_neg h0] at h
    by_cases h1 : -(n : Int) ≤ i
    · rw [if_pos h1] at h
      have e : (i + n).toNat = j := Option.some.inj h
      exact ⟨by rw [seqIndex_neg (by omega) h1, e], by omega, h1, by omega⟩
    · rw [if_neg h1] at h; cases h
theorem atI_get {α : Type} {xs : List α} {i : Int} {v : α} (h : atI xs i = some v) : ∃ j, seqIndex? i xs.length = some j ∧ xs[j]? = some v ∧ j < xs.length ∧ -(xs.length : Int) ≤ i ∧ i < xs.length := by
  unfold atI at h
  cases e : ixN xs.length i with
  | none => rw [e] at h; cases h
  | some j =>
    rw [e] at h
    obtain ⟨h1, h2, h3, h4⟩ := ixN_seq e
    exact ⟨j, h1, h, h2, h3, h4⟩
theorem atI_nat {α : Type} {xs : List α} {j : Nat} {v : α} (h : xs[j]? = some v) : atI xs (j : Int) = some v := by
  have hj : j < xs.length := (List.getElem?_eq_some_iff.mp h).1
  have e : ixN xs.length (j : Int) = some j := by
    unfold ixN
    rw [if_pos (by omega), if_pos (by omega)]; simp
  unfold atI; rw [e]; exact h
/-! ### what may be subscripted -/
/-- what stands as an index of a plain subscript -/
def PlainIx (b : Expr) : Prop := ∀ o i, subscripted b false o i = operate [o, i] (getItem o i)
/-- a subscript by values -/
def IxR (X : Cx) (r : R2) : Prop :=
  ∀ (value slice : Expr) (pins : List (Addr × Obj)) (s : Shared) (σ : St) (H : Hp) (x y : V) (v u : Value) (Q : VK), Inv X pins σ H s → RelV x v → RelV y u → r x y H Q →
    subscripted slice false v u = operate [v, u] (getItem v u) → wpAny (model X.prog X.w) X.A (subscriptTail value slice v u) (EP X pins σ Q) X.xe s
/-- a call of a builtin's method by values: the receiver, the arguments -/
def MtR (X : Cx) (id : String) (r : V → List V → Hp → VK → Prop) : Prop :=
  ∀ (pins : List (Addr × Obj)) (s : Shared) (σ : St) (H : Hp) (x : V) (xs : List V) (v : Value) (us : List Value) (Q : VK), Inv X pins σ H s → RelV x v → Vals xs us → r x xs H Q →
    wpAny (model X.prog X.w) X.A (call (.builtin id) (v :: us)) (EP X pins σ Q) X.xe s
section
variable {X : Cx} {a b : Expr} {ta tb : TE} {pos : Pos}
theorem IxR.or {r r' : R2} (h : IxR X r) (h' : IxR X r') : IxR X (fun x y H Q => r x y H Q ∨ r' x y H Q) := by
  intro value slice pins s σ H x y v u Q I rx ry q hs
  rcases q with q | q
  · exact h value slice pins s σ H x y v u Q I rx ry q hs
  · exact h' value slice pins s σ H x y v u Q I rx ry q hs
theorem MtR.or {id : String} {r r' : V → List V → Hp → VK → Prop} (h : MtR X id r) (h' : MtR X id r') : MtR X id (fun x xs H Q => r x xs H Q ∨ r' x xs H Q) := by
  intro pins s σ H x xs v us Q I rx rs q
  rcases q with q | q
  · exact h pins s σ H x xs v us Q I rx rs q
  · exact h' pins s σ H x xs v us Q I rx rs q
/-- a[b] -/
theorem pe_ix {r : R2} (hr : IxR X r) (ha : PE X a ta) (hb : PE X b tb) (hs : PlainIx b) : PE X (.Subscript a b pos) (tOp r ta tb) := by
  intro pins s σ H Q I h
  exact Subscript_ (binT ha hb I h fun v u s2 x y H2 I2 rx ry q => hr a b pins s2 σ H2 x y v u Q I2 rx ry q (hs _ _))

def rIxL (K : PySem.W.Frag) : R2 := fun x y H Q => ∃ p xs i v, x = .ref p ∧ y = .int i ∧ SqL K H p xs ∧ atI xs i = some v ∧ Q v H
def rIxT (K : PySem.W.Frag) : R2 := fun x y H Q => ∃ p xs i v, x = .ref p ∧ y = .int i ∧ SqT K H p xs ∧ atI xs i = some v ∧ Q v H
theorem ix_list : IxR X (rIxL X.K) := by
  intro value slice pins s σ H x y v u Q I rx ry h hs
  obtain ⟨p, xs, i, z, rfl, rfl, hq, he, q⟩ := h
  cases rx
  obtain ⟨t, rfl⟩ := ry
  obtain ⟨its, r, pl, hz⟩ := I.list hq
  obtain ⟨j, h1, h2, h3, h4, h5⟩ := atI_get he
  obtain ⟨w, ew, rw'⟩ := r.get h2
  have hl := r.length
  have hn := line63
  have fin : EP X pins σ Q w s := ⟨z, H, I, rw', q⟩
  by_cases h0 : 0 ≤ i
  · have hj : i.toNat = j := by
      rw [seqIndex_of h0 h5] at h1
      exact Option.some.inj h1
    exact item_listR pl.isList h0 (by omega) (by rw [hj]; simpa using ew) fin hs
  · have hj : (i + (its.toArray.size : Int)).toNat = j := by
      rw [seqIndex_neg (by omega) h4] at h1
      rw [List.size_toArray, ← hl]
      exact Option.some.inj h1
    exact subscriptTail_builtinR (x := w) pl.isList.typeIs slot_list_getitem.lookup
      (wpAny_getItem_list_neg (Q := fun r s' => r = w ∧ EP X pins σ Q r s') pl.isList (by omega) (by rw [List.size_toArray] <;> omega) (by omega) (by rw [hj]; simpa using ew) ⟨rfl, fin⟩) hs
theorem ix_tup : IxR X (rIxT X.K) := by
  intro value slice pins s σ H x y v u Q I rx ry h hs
  obtain ⟨p, xs, i, z, rfl, rfl, hq, he, q⟩ := h
  cases rx
  obtain ⟨t, rfl⟩ := ry
  obtain ⟨its, r, pl, hz⟩ := I.tuple hq
  obtain ⟨j, h1, h2, h3, h4, h5⟩ := atI_get he
  obtain ⟨w, ew, rw'⟩ := r.get h2
  have hl := r.length
  have hn := line63
  have fin : EP X pins σ Q w s := ⟨z, H, I, rw', q⟩
  exact subscriptTail_builtinR (x := w) pl.typeIs slot_tuple_getitem.lookup
    (getItem_tuple (j := j) (Q := fun r s' => r = w ∧ EP X pins σ Q r s') pl (by omega) (by omega) (by rw [List.size_toArray, ← hl]; exact h1) (by simpa using ew) ⟨rfl, fin⟩) hs
/-! ### xs[i] = v, any sign -/
theorem Inv.lst {pins : List (Addr × Obj)} {σ : St} {H : Hp} {s : Shared} {p : Addr} {xs : List V} (I : Inv X pins σ H s) (h : H p = some (.lst xs)) :
    ∃ (its : List Value) (n : Nat), Vals xs its ∧ s.heap.get? p = some { cls := .type "list", data := .seq its.toArray n } ∧ xs.length ≤ sizeLine := by
  obtain ⟨z, its, n, r, e⟩ := I.hok p _ h
  exact ⟨its, n, r, e, z⟩
/-! ### slices -/
/-! ### in, not in: flat items -/
def flatV : V → Bool
  | .non => true
  | .bl _ => true
  | .int _ => true
  | .str _ => true
  | _ => false
/-- == of flat values -/
def eqV : V → V → Bool
  | .non, .non => true
  | .bl a, .bl b => a == b
  | .bl a, .int b => (if a then 1 else 0) == b
  | .int a, .bl b => a == (if b then 1 else 0)
  | .int a, .int b => a == b
  | .str a, .str b => a == b
  | _, _ => false
theorem eqAt_V {A : Around} {s : Shared} {y x : V} {u v : Value} (ry : RelV y u) (rx : RelV x v) (fy : flatV y = true) (fx : flatV x = true) : SeqAt.EqAt A s u v (eqV y x) := by
  cases y with
  | non =>
    cases ry
    cases x with
    | non => cases rx; exact SeqAt.EqAt.same _
    | bl b => cases rx; exact SeqAt.EqAt.none_bool b
    | int b => obtain ⟨t, rfl⟩ := rx; exact SeqAt.EqAt.none_int b t
    | str b => obtain ⟨t, rfl⟩ := rx; exact SeqAt.EqAt.none_str b t
    | _ => exact absurd (show false = true from fx) Bool.false_ne_true
  | bl a =>
    cases ry
    cases x with
    | non => cases rx; exact SeqAt.EqAt.bool_none a
    | bl b => cases rx; exact SeqAt.EqAt.bool_bool a b
    | int b => obtain ⟨t, rfl⟩ := rx; exact SeqAt.EqAt.bool_int a b t
    | str b => obtain ⟨t, rfl⟩ := rx; exact SeqAt.EqAt.bool_str a b t
    | _ => exact absurd (show false = true from fx) Bool.false_ne_true
  | int a =>
    obtain ⟨t', rfl⟩ := ry
    cases x with
    | non => cases rx; exact SeqAt.EqAt.int_none a t'
    | bl b => cases rx; exact SeqAt.EqAt.int_bool a t' b
    | int b => obtain ⟨t, rfl⟩ := rx; exact SeqAt.EqAt.int_int a t' b t
    | str b => obtain ⟨t, rfl⟩ := rx; exact SeqAt.EqAt.int_str a t' b t
    | _ => exact absurd (show false = true from fx) Bool.false_ne_true
  | str a =>
    obtain ⟨t', rfl⟩ := ry
    cases x with
    | non => cases rx; exact SeqAt.EqAt.str_none a t'
    | bl b => cases rx; exact SeqAt.EqAt.str_bool a t' b
    | int b => obtain ⟨t, rfl⟩ := rx; exact SeqAt.EqAt.str_int a t' b t
    | str b => obtain ⟨t, rfl⟩ := rx; exact SeqAt.EqAt.str_str a t' b t
    | _ => exact absurd (show false = true from fx) Bool.false_ne_true
  | _ => exact absurd (show false = true from fy) Bool.false_ne_true
/-- the items' answers, read off the values (a value's own answer does not lean on its token) -/
def eqU (x : V) (u : Value) : Bool := match u with
  | .none => eqV .non x
  | .bool b => eqV (.bl b) x
  | .int i _ => eqV (.int i) x
  | .str z _ => eqV (.str z) x
  | _ => false
theorem eqU_of {x y : V} {u : Value} (r : RelV y u) (f : flatV y = true) : eqU x u = eqV y x := by
  cases y with
  | non => cases r; rfl
  | bl b => cases r; rfl
  | int i => obtain ⟨t, rfl⟩ := r; rfl
  | str z => obtain ⟨t, rfl⟩ := r; rfl
  | _ => exact absurd (show false = true from f) Bool.false_ne_true
theorem mem_eqAt {A : Around} {s : Shared} {x : V} {v : Value} (rx : RelV x v) (fx : flatV x = true) : ∀ {xs : List V} {us : List Value}, Vals xs us → xs.all flatV = true → ∀ u ∈ us, SeqAt.EqAt A s u v (eqU x u)
  | _, _, .nil, _ => fun u hu => by cases hu
  | y :: xs, u :: us, .cons r t, f => fun u' hu => by
    rw [List.all_cons, Bool.and_eq_true] at f
    rcases List.mem_cons.mp hu with rfl | hu
    · rw [eqU_of r f.1]; exact eqAt_V r rx f.1 fx
    · exact mem_eqAt rx fx t f.2 u' hu
/-! ### len, list(x), tuple(x) of any list or tuple that is read -/
theorem call_len_seq : CallR X (.builtin "len") (fun xs H Q => ∃ p ys, xs = [.ref p] ∧ (SqL X.K H p ys ∨ SqT X.K H p ys) ∧ Q (.int ys.length) H) := by
  intro pins s σ H xs us Q I r h
  obtain ⟨p, ys, rfl, hq, q⟩ := h
  obtain ⟨u, rfl, rx⟩ := vals1 r
  cases rx
  have hn := line63
  rcases hq with hq | hq
  · obtain ⟨its, r', pl, hz⟩ := I.list hq
    have hlen := r'.length
    exact Calls.call_len_list pl.isList (by simp only [List.size_toArray] <;> omega) ⟨.int ys.length, H, I.tok _, ⟨s.toks + 1, by rw [List.size_toArray, hlen]⟩, q⟩
  · obtain ⟨its, r', pl, hz⟩ := I.tuple hq
    have hlen := r'.length
    exact len_tuple pl (by simp only [List.size_toArray] <;> omega) ⟨.int ys.length, H, I.tok _, ⟨s.toks + 1, by rw [List.size_toArray, hlen]⟩, q⟩
theorem CallR.or {f : Value} {r r' : List V → Hp → VK → Prop} (h : CallR X f r) (h' : CallR X f r') : CallR X f (fun xs H Q => r xs H Q ∨ r' xs H Q) := by
  intro pins s σ H xs us Q I rs q
  rcases q with q | q
  · exact h pins s σ H xs us Q I rs q
  · exact h' pins s σ H xs us Q I rs q
theorem call_list_of : CallR X (.type "list") (fun xs H Q => ∃ p ys, xs = [.ref p] ∧ (SqL X.K H p ys ∨ SqT X.K H p ys) ∧ ∀ l, H l = none → Q (.ref l) (upd H l (.lst ys))) := by
  intro pins s σ H xs us Q I r h
  obtain ⟨p, ys, rfl, hq, q⟩ := h
  obtain ⟨u, rfl, rx⟩ := vals1 r
  cases rx
  have fin : ∀ (its : List Value), Vals ys its → ys.length ≤ sizeLine → ∀ (h' : Heap) (c' : Nat), (∀ b o', s.heap.get? b = some o' → h'.get? b = some o') →
      h'.get? s.heap.objs.size = some { cls := .type "list", dict := none, data := .seq its.toArray c', slots := #[] } → EP X pins σ Q (.ref s.heap.objs.size) { s with heap := h' } := fun its r' hz h' c' kp e =>
    ⟨.ref s.heap.objs.size, _, I.laid (t' := s.toks) kp (Nat.le_refl _) (show ObjOk X.prog X.w _ h' _ (.lst ys) from ⟨hz, its, c', r', e⟩), rfl, q _ (I.hok.fresh (Nat.le_refl _))⟩
  rcases hq with hq | hq
  · obtain ⟨its, r', pl, hz⟩ := I.list hq
    have hlen := r'.length
    obtain ⟨o, ho, hc, n, hd⟩ := pl.isList
    exact call_list_seq p (.inl rfl) ho hc hd (fun h' c' kp e => fin its r' hz h' c' kp e) (by simp only [List.size_toArray] <;> omega)
  · obtain ⟨its, r', pl, hz⟩ := I.tuple hq
    have hlen := r'.length
    obtain ⟨o, ho, hc, n, hd⟩ := pl
    exact call_list_seq p (.inr rfl) ho hc hd (fun h' c' kp e => fin its r' hz h' c' kp e) (by simp only [List.size_toArray] <;> omega)
/-! ### the call of a builtin's method: o.m(..) -/
/-- the value is of that builtin type -/
def tyV (K : PySem.W.Frag) (T : String) (x : V) (H : Hp) : Prop := match x with
  | .str _ => T = "str"
  | .int _ => T = "int"
  | .ref p => (T = "list" ∧ ∃ xs, SqL K H p xs) ∨ (T = "tuple" ∧ ∃ o, K.lookup p = some o ∧ o.cls = .type "tuple" ∧ o.dict = none) ∨
      (T = "dict" ∧ ((∃ kvs, H p = some (.dK kvs)) ∨ ∃ kvs, H p = some (.dT kvs))) ∨ (T = "set" ∧ ∃ S n, H p = some (.set S n))
  | _ => False
theorem tyV_is {pins : List (Addr × Obj)} {σ : St} {H : Hp} {s : Shared} {T : String} {x : V} {v : Value} (I : Inv X pins σ H s) (r : RelV x v) (ty : tyV X.K T x H) :
    s.TypeIs v T ∧ ∀ a, v = .ref a → ∃ ob, s.heap.get? a = some ob ∧ ob.dict = none := by
  cases x with
  | str z =>
    obtain ⟨t, rfl⟩ := r
    cases (show T = "str" from ty)
    exact ⟨typeIs_str s z t, fun _ e => nomatch e⟩
  | int i =>
    obtain ⟨t, rfl⟩ := r
    cases (show T = "int" from ty)
    exact ⟨typeIs_int s i t, fun _ e => nomatch e⟩
  | ref p =>
    cases r
    rcases ty with ⟨rfl, xs, hq⟩ | ⟨rfl, o, hk, hc, hd⟩ | ⟨rfl, hk⟩ | ⟨rfl, S, n, hk⟩
    · obtain ⟨its, _, pl, _⟩ := I.list hq
      refine ⟨pl.isList.typeIs, fun a e => ?_⟩
      cases e
      obtain ⟨o, n, e, c, hd, _⟩ := pl
      exact ⟨o, e, hd⟩
    · refine ⟨⟨o, I.kIn p o hk, hc⟩, fun a e => ?_⟩
      cases e
      exact ⟨o, I.kIn _ o hk, hd⟩
    · have z : ∃ o, s.heap.get? p = some o ∧ o.ExactDict := by
        rcases hk with ⟨kvs, hk⟩ | ⟨kvs, hk⟩
        · obtain ⟨_, _, _, _, o, _, _, e, ex, _⟩ := I.hok p _ hk
          exact ⟨o, e, ex⟩
        · obtain ⟨_, _, _, _, o, _, _, e, ex, _⟩ := I.hok p _ hk
          exact ⟨o, e, ex⟩
      obtain ⟨o, e, ex⟩ := z
      refine ⟨⟨o, e, ex.1⟩, fun a e2 => ?_⟩
      cases e2
      exact ⟨o, e, ex.2.1⟩
    · obtain ⟨o, _, _, _, e, ex, _⟩ := I.hok p _ hk
      refine ⟨⟨o, e, ex.1⟩, fun a e2 => ?_⟩
      cases e2
      exact ⟨o, e, ex.2.1⟩
  | _ => exact False.elim ty
def tBM (K : PySem.W.Frag) (T : String) (r : V → List V → Hp → VK → Prop) (to : TE) (t : TA) : TE := fun σ H Q => to σ H fun x H1 => tyV K T x H1 ∧ t σ H1 fun xs H2 => r x xs H2 Q
variable {o e : Expr} {es : List Expr} {to : TE} {t : TA} {name : Str} {apos cpos : Pos} {T id : String} {r : V → List V → Hp → VK → Prop}
theorem pe_bm (pa : PlainAttrs T) (slot : Slot T name id) (hty : typeOf (.builtin id) = pure (.type "method_descriptor")) (hm : MtR X id r) (ho : PE X o to) (ha : PA X (e :: es) t)
    (hbase : attributeBase o name X.env (eval o X.env) = eval o X.env := by rfl)
    (hfew : ((backTo cpos (starEach (e :: es) X.env)).all (fun x => !x.1) && (backToKw cpos (keywordEach [] X.env)).all (fun x => x.1.isSome)
      && decide ((e :: es).length + ([] : List Keyword).length + (if ([] : List Keyword).isEmpty then 0 else 1) < 30)) = true := by rfl)
    (hline : (apos.endLine == cpos.line) = true := by rfl) (hs : starEach (e :: es) X.env = (false, eval e X.env) :: starEach es X.env := by rfl) (hplain : (backTo cpos (starEach es X.env)).any (·.1) = false := by rfl) :
    PE X (.Call (.Attribute o name apos) (e :: es) [] cpos) (tBM X.K T r to t) := by
  intro pins s σ H Q I h
  refine wpAny_Call_method_late hbase hfew hline rfl (thn (ho pins s σ H _ I h) fun v s1 ⟨x, H1, I1, r1, ty, q1⟩ => ?_)
  obtain ⟨h1, h2⟩ := tyV_is I1 r1 ty
  refine ⟨T, id, pa, slot, hty, h1, h2, ?_⟩
  have hA := ha cpos pins s1 σ H1 _ I1 q1
  rw [hs] at hA ⊢
  refine Calls.callWith_builtin (by show (false || (backTo cpos (starEach es X.env)).any (·.1)) = false; rw [hplain] <;> rfl) (Calls.evalArgs_plain ?_)
  exact thn hA fun us s2 ⟨vs, H2, I2, r2, q2⟩ => hm pins s2 σ H2 x vs v us Q I2 r1 r2 q2
end
end L2

namespace L2
open PySem PySem.Spec PyProof.Rows

def MtM (X : Cx) (id : String) (r : V → List V → Hp → VK → Prop) : Prop :=
  ∀ (pins : List (Addr × Obj)) (s : Shared) (σ : St) (H : Hp) (x : V) (xs : List V) (v : Value) (us : List Value) (Q : VK), Inv X pins σ H s → RelV x v → Vals xs us → r x xs H Q →
    wpAny (model X.prog X.w) X.A (call (.builtin id) (v :: us)) (EP X pins σ Q) X.xe s

/-! ### lists of values -/
theorem Vals.one : ∀ {x : V} {us : List Value}, Vals [x] us → ∃ u, us = [u] ∧ RelV x u
  | _, _, .cons r .nil => ⟨_, rfl, r⟩
theorem Vals.two : ∀ {x y : V} {us : List Value}, Vals [x, y] us → ∃ u v, us = [u, v] ∧ RelV x u ∧ RelV y v
  | _, _, _, .cons r (.cons q .nil) => ⟨_, _, rfl, r, q⟩
theorem Vals.zero : ∀ {us : List Value}, Vals [] us → us = []
  | _, .nil => rfl
theorem Vals.eraseIdx : ∀ {xs : List V} {us : List Value} (i : Nat), Vals xs us → Vals (xs.eraseIdx i) (us.eraseIdx i)
  | _, _, _, .nil => .nil
  | _, _, 0, .cons _ t => t
  | _, _, i + 1, .cons r t => .cons r (Vals.eraseIdx i t)
theorem Vals.reverse {xs : List V} {us : List Value} (h : Vals xs us) : Vals xs.reverse us.reverse := by
  induction h with
  | nil => exact .nil
  | cons r t ih => rw [List.reverse_cons, List.reverse_cons]; exact Vals.append ih (.cons r .nil)
section
variable {X : Cx} {pins : List (Addr × Obj)} {σ : St} {H : Hp} {s : Shared} {l b : Addr} {xs ys zs : List V}

/-! ### the two steps: a tracked list is rewritten, a new list is laid -/
theorem Inv.lset {its its' : List Value} {n : Nat} {f : Array Value → Array Value} {t' : Nat} (I : Inv X pins σ H s) (hH : H l = some (.lst xs))
    (e : s.heap.get? l = some { cls := .type "list", data := .seq its.toArray n }) (hf : f its.toArray = its'.toArray) (hv : Vals ys its') (hz : ys.length ≤ sizeLine) :
    Inv X pins σ (upd H l (.lst ys)) { s with heap := s.heap.update l (Obj.mapSeq f), toks := t' } := by
  have q := PySem.IsL.update e f
  rw [hf] at q
  refine I.write (x := l) (e := l) (by rw [hH]; exact trivial) (.inl rfl) (fun b' u hb hu => (Heap.get?_update_other s.heap (Obj.mapSeq f) (Ne.symm hb)).trans hu) ⟨_, q⟩ ?_
  exact ⟨hz, its', _, hv, q⟩
theorem Inv.lnew {its : List Value} {t' : Nat} (I : Inv X pins σ H s) (hv : Vals ys its) (hz : ys.length ≤ sizeLine) :
    Inv X pins σ (upd H s.heap.objs.size (.lst ys)) { s with heap := s.heap.push { cls := .type "list", data := .seq its.toArray }, toks := t' } :=
  I.laid (fun _ _ q => Heap.get?_push_of_some _ q) (Nat.le_refl _) ⟨hz, its, 0, hv, Heap.get?_push_size _ rfl⟩
theorem Inv.fresh (I : Inv X pins σ H s) : H s.heap.objs.size = none := I.hok.fresh (Nat.le_refl _)
theorem Inv.lstM (I : Inv X pins σ H s) (hH : H l = some (.lst xs)) : xs.length ≤ sizeLine ∧ ∃ (its : List Value) (n : Nat), Vals xs its ∧ xs.length = its.length ∧ s.heap.get? l = some { cls := .type "list", data := .seq its.toArray n } := by
  obtain ⟨z, its, n, r, e⟩ := I.hok l _ hH
  exact ⟨z, its, n, r, r.length, e⟩

theorem notLongL {n : Nat} (h : n ≤ sizeLine) : Builtin.List.listTooLong n = false := by
  unfold Builtin.List.listTooLong
  exact decide_eq_false (by omega)
end

section
variable {X : Cx}

/-! ### methods -/
def rAppend : V → List V → Hp → VK → Prop := fun x vs H Q => ∃ l xs y, x = .ref l ∧ vs = [y] ∧ H l = some (.lst xs) ∧ xs.length < sizeLine ∧ Q .non (upd H l (.lst (xs ++ [y])))
theorem mt_append : MtM X "list.append" rAppend := by
  intro pins s σ H x vs v us Q I rx rv h
  obtain ⟨l, xs, y, rfl, rfl, hH, hz, q⟩ := h
  cases rx
  obtain ⟨u, rfl, ru⟩ := rv.one
  obtain ⟨z, its, n, r, hl, e⟩ := I.lstM hH
  refine call_meets F.slot_list_append ⟨_, e, rfl⟩ F.entry_list_append (F.args_list_append_2 _ _) (PySem.list_append l its.toArray n u (by rw [List.size_toArray]; omega)) ⟨e, ?_⟩
  refine ⟨.non, _, I.lset (its' := its ++ [u]) hH e (by simp) (r.append (.cons ru .nil)) ?_, rfl, q⟩
  rw [List.length_append, List.length_singleton]
  omega

def rExtend : V → List V → Hp → VK → Prop := fun x vs H Q => ∃ l b xs zs, x = .ref l ∧ vs = [.ref b] ∧ H l = some (.lst xs) ∧ H b = some (.lst zs) ∧ xs.length + zs.length ≤ sizeLine ∧ Q .non (upd H l (.lst (xs ++ zs)))
theorem mt_extend : MtM X "list.extend" rExtend := by
  intro pins s σ H x vs v us Q I rx rv h
  obtain ⟨l, b, xs, zs, rfl, rfl, hH, hB, hz, q⟩ := h
  cases rx
  obtain ⟨u, rfl, ru⟩ := rv.one
  cases ru
  obtain ⟨z, its, n, r, hl, e⟩ := I.lstM hH
  obtain ⟨z2, its2, n2, r2, hl2, e2⟩ := I.lstM hB
  have hsz : its.toArray.size + its2.toArray.size ≤ sizeLine := by rw [List.size_toArray, List.size_toArray]; omega
  have hlong : ¬ (!its.toArray.isEmpty && Builtin.List.listTooLong (its.toArray.size + its2.toArray.size)) = true := by
    rw [notLongL hsz, Bool.and_false]
    exact Bool.false_ne_true
  refine call_meets F.slot_list_extend ⟨_, e, rfl⟩ F.entry_list_extend (F.args_list_extend_2 _ _)
    (AutoSeq1.list_extend_list_list_0 l its.toArray n b its2.toArray n2 hlong (by rw [List.size_toArray]; omega) (by omega)) ⟨e, e2, ?_⟩
  refine ⟨.non, _, I.lset (its' := its ++ its2) hH e (by simp) (r.append r2) ?_, rfl, q⟩
  rw [List.length_append]
  omega

/-! ### list + list, list += list, list * int -/
def rCat : R2 := fun x y H Q => ∃ l b xs zs, x = .ref l ∧ y = .ref b ∧ H l = some (.lst xs) ∧ H b = some (.lst zs) ∧ xs.length + zs.length ≤ sizeLine ∧ ∀ p, H p = none → Q (.ref p) (upd H p (.lst (xs ++ zs)))
theorem op_cat : OpR X (binaryOp .Add) rCat := by
  intro pins s σ H x y v u Q I rx ry h
  obtain ⟨l, b, xs, zs, rfl, rfl, hH, hB, hz, q⟩ := h
  cases rx
  cases ry
  obtain ⟨z, its, n, r, hl, e⟩ := I.lstM hH
  obtain ⟨z2, its2, n2, r2, hl2, e2⟩ := I.lstM hB
  refine PySem.P.add_list e e2 ?_ (by rw [List.size_toArray, List.size_toArray]; omega)
  have ea : its.toArray ++ its2.toArray = (its ++ its2).toArray := by simp
  rw [ea]
  exact ⟨.ref _, _, I.lnew (t' := s.toks) (r.append r2) (by rw [List.length_append]; omega), rfl, q _ I.fresh⟩
/-! ### del xs[i] -/
end

/-! ### xs[a:b] = ys -/
section
variable {prog : Program} {w : World} {A : Around} {E : Value → Shared → Prop} {s : Shared}
end

section
variable {X : Cx}
end
end L2

namespace L2
open PySem PySem.Spec PyProof.Rows

/-! ### lists of pairs as tables -/
section
variable {κ : Type} [DecidableEq κ]
def valV (kvs : List (κ × V)) (k : κ) : Option V := (kvs.find? fun kv => decide (kv.1 = k)).map (·.2)
/-- in its place, or at the end -/
def putK (kvs : List (κ × V)) (k : κ) (v : V) : List (κ × V) :=
  if (kvs.any fun kv => decide (kv.1 = k)) = true then kvs.map (fun kv => if kv.1 = k then (kv.1, v) else kv) else kvs ++ [(k, v)]
def dropK (kvs : List (κ × V)) (k : κ) : List (κ × V) := kvs.filter fun kv => decide (kv.1 ≠ k)

theorem valV_pos {p : κ × V} {r : List (κ × V)} {k : κ} (e : p.1 = k) : valV (p :: r) k = some p.2 := by simp [valV, List.find?_cons, e]
theorem valV_neg {p : κ × V} {r : List (κ × V)} {k : κ} (e : ¬ p.1 = k) : valV (p :: r) k = valV r k := by simp [valV, List.find?_cons, e]
theorem valV_any (k : κ) : ∀ kvs : List (κ × V), (kvs.any fun kv => decide (kv.1 = k)) = (valV kvs k).isSome
  | [] => rfl
  | p :: r => by
    rw [List.any_cons]
    by_cases e : p.1 = k
    · simp only [valV_pos e, decide_eq_true e, Bool.true_or, Option.isSome_some]
    · rw [valV_neg e, decide_eq_false e, Bool.false_or]; exact valV_any k r
theorem length_putK (kvs : List (κ × V)) (k : κ) (v : V) : (putK kvs k v).length ≤ kvs.length + 1 := by
  unfold putK
  split
  · rw [List.length_map]; omega
  · rw [List.length_append, List.length_cons, List.length_nil]; omega
theorem putK_new {kvs : List (κ × V)} {k : κ} (v : V) (h : valV kvs k = none) : putK kvs k v = kvs ++ [(k, v)] := by
  unfold putK
  rw [valV_any, h]
  exact if_neg (by decide)

theorem RelO.isSome_eq {o : Option V} {u : Option Value} (r : RelO o u) : o.isSome = u.isSome := by
  cases o with
  | none => cases u with
    | none => rfl
    | some _ => exact (show False from r).elim
  | some _ => cases u with
    | none => exact (show False from r).elim
    | some _ => rfl
theorem RelO.getD {o : Option V} {u : Option Value} {d : V} {d' : Value} (r : RelO o u) (rd : RelV d d') : RelV (o.getD d) (u.getD d') := by
  cases o with
  | none => cases u with
    | none => exact rd
    | some _ => exact (show False from r).elim
  | some _ => cases u with
    | none => exact (show False from r).elim
    | some _ => exact r

/-- raw tables of the same keys -/
theorem KV.val {kvs : List (κ × V)} {vs : List (κ × Value)} (r : KV kvs vs) (k : κ) : RelO (valV kvs k) (valueAt vs k) := by
  unfold KV at r
  induction r with
  | nil => exact True.intro
  | @cons p q ps qs h t ih =>
    obtain ⟨h1, h2⟩ := h
    by_cases e : p.1 = k
    · have e' : q.1 = k := h1.symm.trans e
      have b : valueAt (q :: qs) k = some q.2 := by simp [valueAt, List.find?_cons, e']
      rw [valV_pos e, b]; exact h2
    · have e' : ¬ q.1 = k := fun z => e (h1.trans z)
      have b : valueAt (q :: qs) k = valueAt qs k := by simp [valueAt, List.find?_cons, e']
      rw [valV_neg e, b]; exact ih
theorem KV.any {kvs : List (κ × V)} {vs : List (κ × Value)} (r : KV kvs vs) (k : κ) : (kvs.any fun kv => decide (kv.1 = k)) = vs.any fun kv => decide (kv.1 = k) := by
  unfold KV at r
  induction r with
  | nil => rfl
  | cons h t ih => rw [List.any_cons, List.any_cons, ih, h.1]
theorem KV.repl {kvs : List (κ × V)} {vs : List (κ × Value)} (r : KV kvs vs) (k : κ) {y : V} {u : Value} (ry : RelV y u) :
    KV (kvs.map fun kv => if kv.1 = k then (kv.1, y) else kv) (vs.map fun kv => if kv.1 = k then (kv.1, u) else kv) := by
  unfold KV at r ⊢
  induction r with
  | nil => exact .nil
  | @cons p q ps qs h t ih =>
    rw [List.map_cons, List.map_cons]
    refine .cons ?_ ih
    obtain ⟨h1, h2⟩ := h
    by_cases e : p.1 = k
    · rw [if_pos e, if_pos (h1.symm.trans e)]; exact ⟨h1, ry⟩
    · rw [if_neg e, if_neg (fun z => e (h1.trans z))]; exact ⟨h1, h2⟩
theorem KV.put {kvs : List (κ × V)} {vs : List (κ × Value)} (r : KV kvs vs) (k : κ) {y : V} {u : Value} (ry : RelV y u) : KV (putK kvs k y) (stored vs k u) := by
  unfold putK stored
  rw [r.any k]
  by_cases e : (vs.any fun kv => decide (kv.1 = k)) = true
  · rw [if_pos e, if_pos e]; exact r.repl k ry
  · rw [if_neg e, if_neg e]; exact Paired.snoc r ⟨rfl, ry⟩
theorem KV.drop {kvs : List (κ × V)} {vs : List (κ × Value)} (r : KV kvs vs) (k : κ) : KV (dropK kvs k) (without vs k) := by
  unfold KV at r ⊢
  unfold dropK without
  induction r with
  | nil => exact .nil
  | @cons p q ps qs h t ih =>
    obtain ⟨h1, h2⟩ := h
    rw [List.filter_cons, List.filter_cons]
    by_cases e : p.1 = k
    · have a : ¬ decide (p.1 ≠ k) = true := by simp [e]
      have b : ¬ decide (q.1 ≠ k) = true := by simp [h1.symm.trans e]
      rw [if_neg a, if_neg b]; exact ih
    · have e' : ¬ q.1 = k := fun z => e (h1.trans z)
      have a : decide (p.1 ≠ k) = true := by simp [e]
      have b : decide (q.1 ≠ k) = true := by simp [e']
      rw [if_pos a, if_pos b]; exact .cons ⟨h1, h2⟩ ih
theorem KV.keys {kvs : List (κ × V)} {vs : List (κ × Value)} (r : KV kvs vs) : kvs.map (·.1) = vs.map (·.1) := by
  unfold KV at r
  induction r with
  | nil => rfl
  | cons h t ih => rw [List.map_cons, List.map_cons, ih, h.1]
theorem KV.length {kvs : List (κ × V)} {vs : List (κ × Value)} (r : KV kvs vs) : kvs.length = vs.length := Paired.length r
theorem dropK_le (kvs : List (κ × V)) (k : κ) : (dropK kvs k).length ≤ kvs.length := List.length_filter_le _ _
end


/-! ### a tracked dict, its keys ints and texts or tuples of these -/
theorem kV_is {P : Program} {w : World} {k : Key} {u : Value} (r : RelV (kV k) u) : (mixKind P w).is k u = true := by
  cases k with
  | inl i => obtain ⟨t, e⟩ := (show ∃ t, u = Value.int i t from r); subst e; exact mixKind_int P w i t
  | inr x => obtain ⟨t, e⟩ := (show ∃ t, u = Value.str x t from r); subst e; exact mixKind_str P w x t
theorem items_are {P : Program} {w : World} : ∀ {ks : List Key} {us : List Value}, Vals (ks.map kV) us → ItemsAre (mixKind P w) ks us
  | [], _, r => by rw [List.map_nil] at r; cases r; exact .nil
  | k :: ks, _, r => by
    rw [List.map_cons] at r
    cases r with
    | cons h t => exact .cons (kV_is h) (items_are t)

/-- raw entries of a dict with tuple keys -/
abbrev KT (H : Hp) : List (List Key × V) → List (List Key × Addr × Value) → Prop := Paired fun p q => p.1 = q.1 ∧ H q.2.1 = some (.tup (p.1.map kV)) ∧ RelV p.2 q.2.2
theorem KT.val {H : Hp} {kvs : List (List Key × V)} {xs : List (List Key × Addr × Value)} (r : KT H kvs xs) (k : List Key) : RelO (valV kvs k) ((atKey xs k).map (·.2)) := by
  induction r with
  | nil => exact True.intro
  | @cons p q ps qs h t ih =>
    obtain ⟨h1, _, h2⟩ := h
    by_cases e : p.1 = k
    · have e' : q.1 = k := h1.symm.trans e
      have b : atKey (q :: qs) k = some q.2 := by simp [atKey, List.find?_cons, e']
      rw [valV_pos e, b]; exact h2
    · have e' : ¬ q.1 = k := fun z => e (h1.trans z)
      have b : atKey (q :: qs) k = atKey qs k := by simp [atKey, List.find?_cons, e']
      rw [valV_neg e, b]; exact ih
theorem KT.repl {H : Hp} {kvs : List (List Key × V)} {xs : List (List Key × Addr × Value)} (r : KT H kvs xs) (k : List Key) {y : V} {u : Value} (ry : RelV y u) :
    KT H (kvs.map fun kv => if kv.1 = k then (kv.1, y) else kv) (xs.map (putAt k u)) := by
  induction r with
  | nil => exact .nil
  | @cons p q ps qs h t ih =>
    rw [List.map_cons, List.map_cons]
    refine .cons ?_ ih
    obtain ⟨h1, h2, h3⟩ := h
    unfold putAt
    by_cases e : p.1 = k
    · rw [if_pos e, if_pos (h1.symm.trans e)]; exact ⟨h1, h2, ry⟩
    · rw [if_neg e, if_neg (fun z => e (h1.trans z))]; exact ⟨h1, h2, h3⟩
theorem KT.put {H : Hp} {kvs : List (List Key × V)} {xs : List (List Key × Addr × Value)} (r : KT H kvs xs) (k : List Key) {b : Addr} {y : V} {u : Value} (hb : H b = some (.tup (k.map kV))) (ry : RelV y u) :
    KT H (putK kvs k y) (storedH xs k b u) := by
  have e : (kvs.any fun kv => decide (kv.1 = k)) = (atKey xs k).isSome := by
    rw [valV_any, (r.val k).isSome_eq, Option.isSome_map]
  unfold putK storedH
  rw [e]
  by_cases q : (atKey xs k).isSome = true
  · rw [if_pos q, if_pos q]; exact r.repl k ry
  · rw [if_neg q, if_neg q]; exact Paired.snoc r ⟨rfl, hb, ry⟩
theorem KT.keeps {H H' : Hp} {kvs : List (List Key × V)} {xs : List (List Key × Addr × Value)} (r : KT H kvs xs) (ht : ∀ b ys, H b = some (.tup ys) → H' b = some (.tup ys)) : KT H' kvs xs :=
  Paired.mapP r fun _ _ z => ⟨z.1, ht _ _ z.2.1, z.2.2⟩

section
variable {P : Program} {w : World} {H : Hp} {h : Heap} {a : Addr}
theorem rd_of {u : HO} (ok : HOk P w H h) (e : Rd H a u) : ObjOk P w H h a u := e.ok ok
theorem dk_rd {kvs : List (Key × V)} (ok : HOk P w H h) (e : Rd H a (.dK kvs)) : kvs.length ≤ sizeLine ∧ (a == sysModules) = false ∧ ∃ vs, KV kvs vs ∧ h.DictOf (mixKind P w) a vs :=
  show ObjOk P w H h a (.dK kvs) from rd_of ok e
theorem dk_of {kvs : List (Key × V)} (ok : HOk P w H h) (e : H a = some (.dK kvs)) : kvs.length ≤ sizeLine ∧ (a == sysModules) = false ∧ ∃ vs, KV kvs vs ∧ h.DictOf (mixKind P w) a vs := dk_rd ok (.inl e)
/-- a tracked tuple of ints and texts is a key -/
theorem key_of {ks : List Key} (ok : HOk P w H h) (e : H a = some (.tup (ks.map kV))) : (tupleKind (mixKind P w)).is h ks a := by
  obtain ⟨_, its, r, o, h1, h2, n, h3⟩ := (show ObjOk P w H h a (.tup (ks.map kV)) from ok a _ e)
  exact ⟨o, its.toArray, n, h1, h2, h3, by simpa using items_are r⟩
theorem dt_rd {kvs : List (List Key × V)} (ok : HOk P w H h) (e : Rd H a (.dT kvs)) : kvs.length ≤ sizeLine ∧ (a == sysModules) = false ∧
    ∃ xs, KT H kvs xs ∧ h.DictOfH (tupleKind (mixKind P w)) a xs := by
  obtain ⟨z, y, xs, r, o, es, ep, h1, h2, h3, h4, h5⟩ := (show ObjOk P w H h a (.dT kvs) from rd_of ok e)
  refine ⟨z, y, xs, r, o, es, ep, h1, h2, h3, h4, fun x hx => ?_, h5⟩
  have all : ∀ {l : List (List Key × V)} {m : List (List Key × Addr × Value)}, KT H l m → ∀ x ∈ m, (tupleKind (mixKind P w)).is h x.1 x.2.1 := by
    intro l m q
    induction q with
    | nil => intro x hx; exact nomatch hx
    | @cons p q ps qs hq t ih =>
      intro x hx
      rcases List.mem_cons.mp hx with e | hx
      · subst e
        exact key_of ok (by rw [← hq.1]; exact hq.2.1)
      · exact ih x hx
  exact all r x hx
theorem dt_of {kvs : List (List Key × V)} (ok : HOk P w H h) (e : H a = some (.dT kvs)) : kvs.length ≤ sizeLine ∧ (a == sysModules) = false ∧
    ∃ xs, KT H kvs xs ∧ h.DictOfH (tupleKind (mixKind P w)) a xs := dt_rd ok (.inl e)
end

/-- what the dict at a holds at the key y -/
def DGet (H : Hp) (a : Addr) (y : V) (r : Option V) : Prop :=
  (∃ kvs k, Rd H a (.dK kvs) ∧ y = kV k ∧ r = valV kvs k) ∨ ∃ kvs k b, Rd H a (.dT kvs) ∧ y = .ref b ∧ H b = some (.tup (k.map kV)) ∧ r = valV kvs k
/-- the heap behind a[y] = v -/
def DPut (H : Hp) (a : Addr) (y v : V) (H' : Hp) : Prop :=
  (∃ kvs k, H a = some (.dK kvs) ∧ y = kV k ∧ kvs.length < sizeLine ∧ H' = upd H a (.dK (putK kvs k v))) ∨
  ∃ kvs k b, H a = some (.dT kvs) ∧ y = .ref b ∧ H b = some (.tup (k.map kV)) ∧ kvs.length < sizeLine ∧ H' = upd H a (.dT (putK kvs k v))
theorem DGet.k {H : Hp} {a : Addr} {kvs : List (Key × V)} {k : Key} (e : H a = some (.dK kvs)) : DGet H a (kV k) (valV kvs k) := .inl ⟨kvs, k, .inl e, rfl, rfl⟩
theorem DGet.t {H : Hp} {a b : Addr} {kvs : List (List Key × V)} {k : List Key} (e : H a = some (.dT kvs)) (eb : H b = some (.tup (k.map kV))) : DGet H a (.ref b) (valV kvs k) := .inr ⟨kvs, k, b, .inl e, rfl, eb, rfl⟩
theorem DPut.k {H : Hp} {a : Addr} {kvs : List (Key × V)} {k : Key} {v : V} (e : H a = some (.dK kvs)) (hl : kvs.length < sizeLine) : DPut H a (kV k) v (upd H a (.dK (putK kvs k v))) := .inl ⟨kvs, k, e, rfl, hl, rfl⟩
theorem DPut.t {H : Hp} {a b : Addr} {kvs : List (List Key × V)} {k : List Key} {v : V} (e : H a = some (.dT kvs)) (eb : H b = some (.tup (k.map kV))) (hl : kvs.length < sizeLine) :
    DPut H a (.ref b) v (upd H a (.dT (putK kvs k v))) := .inr ⟨kvs, k, b, e, rfl, eb, hl, rfl⟩


section
variable {X : Cx} {pins : List (Addr × Obj)} {σ : St} {H : Hp} {s : Shared} {a : Addr} {y v : V} {u r : Value} {o : Option V} {A : Around} {E : Value → Shared → Prop}

theorem Inv.big (I : Inv X pins σ H s) : sysModules < s.heap.objs.size := by
  have h : mainGlobals < s.heap.objs.size := (I.mod.glob.keeps I.bk).lt
  exact Nat.lt_trans (by decide) h

/-- d[y], there -/
theorem d_getItem {Q : Value → Shared → Prop} (hu : A.units + 1 < cLine) (I : Inv X pins σ H s) (g : DGet H a y (some v)) (ry : RelV y u) (h : ∀ w' s', Inv X pins σ H s' → RelV v w' → Q w' s') :
    wpAny (model X.prog X.w) A (getItem (.ref a) u) Q E s := by
  rcases g with ⟨kvs, k, e, ey, l⟩ | ⟨kvs, k, b, e, ey, eb, l⟩
  · subst ey
    obtain ⟨z, hd, vs, rel, dd⟩ := dk_rd I.hok e
    obtain ⟨w', hw, rw'⟩ := RelO.some_of (v := v) (o := valueAt vs k) (by rw [l]; exact rel.val k)
    exact wpAny_getItem_of (kV_is ry) dd.mapOf hw (h w' _ (I.tok _) rw')
  · subst ey
    cases (show u = Value.ref b from ry)
    obtain ⟨z, hd, xs, rel, dd⟩ := dt_rd I.hok e
    obtain ⟨w', hw, rw'⟩ := RelO.some_of (v := v) (o := (atKey xs k).map (·.2)) (by rw [l]; exact rel.val k)
    obtain ⟨p, hp, hp2⟩ := Option.map_eq_some_iff.mp hw
    refine wpAny_getItem_heap (tupleKind_room_in1 hu) (key_of I.hok eb) dd hp ?_
    rw [hp2]
    exact h w' _ (I.tok _) rw'
/-- y in d -/
theorem d_in {Q : Value → Shared → Prop} (hu : A.units + 1 < cLine) (I : Inv X pins σ H s) (g : DGet H a y o) (ry : RelV y u) (h : ∀ s', Inv X pins σ H s' → Q (.bool o.isSome) s') :
    wpAny (model X.prog X.w) A (compareOp .In u (.ref a)) Q E s := by
  rcases g with ⟨kvs, k, e, ey, l⟩ | ⟨kvs, k, b, e, ey, eb, l⟩
  · subst ey
    obtain ⟨z, hd, vs, rel, dd⟩ := dk_rd I.hok e
    refine wpAny_in_of (kV_is ry) hd dd.mapOf ?_
    rw [← (rel.val k).isSome_eq, ← l]
    exact h _ (I.tok _)
  · subst ey
    cases (show u = Value.ref b from ry)
    obtain ⟨z, hd, xs, rel, dd⟩ := dt_rd I.hok e
    refine wpAny_in_heap (tupleKind_room_in1 hu) (key_of I.hok eb) hd dd ?_
    have q := (rel.val k).isSome_eq
    rw [Option.isSome_map] at q
    rw [← q, ← l]
    exact h _ (I.tok _)
theorem d_notIn {Q : Value → Shared → Prop} (hu : A.units + 1 < cLine) (I : Inv X pins σ H s) (g : DGet H a y o) (ry : RelV y u) (h : ∀ s', Inv X pins σ H s' → Q (.bool (!o.isSome)) s') :
    wpAny (model X.prog X.w) A (compareOp .NotIn u (.ref a)) Q E s := by
  rcases g with ⟨kvs, k, e, ey, l⟩ | ⟨kvs, k, b, e, ey, eb, l⟩
  · subst ey
    obtain ⟨z, hd, vs, rel, dd⟩ := dk_rd I.hok e
    refine wpAny_notIn_of (kV_is ry) hd dd.mapOf ?_
    rw [← (rel.val k).isSome_eq, ← l]
    exact h _ (I.tok _)
  · subst ey
    cases (show u = Value.ref b from ry)
    obtain ⟨z, hd, xs, rel, dd⟩ := dt_rd I.hok e
    refine wpAny_notIn_heap (tupleKind_room_in1 hu) (key_of I.hok eb) hd dd ?_
    have q := (rel.val k).isSome_eq
    rw [Option.isSome_map] at q
    rw [← q, ← l]
    exact h _ (I.tok _)
/-- a dict's object is replaced -/
theorem d_write {h' : Heap} {t' : Nat} {ob : HO} (I : Inv X pins σ H s) (mu : Mut (H a)) (hs : Heap.SameBut a s.heap h') (he : ∃ q, h'.get? a = some q) (new : ObjOk X.prog X.w (upd H a ob) h' a ob) :
    Inv X pins σ (upd H a ob) { s with heap := h', toks := t' } :=
  I.write (x := a) (e := a) mu (.inl rfl) (fun b q hb z => (hs.2 b hb).trans z) he new
theorem dk_new {P : Program} {w : World} {H' : Hp} {h' : Heap} {kvs : List (Key × V)} {vs : List (Key × Value)} (z : kvs.length ≤ sizeLine) (hd : (a == sysModules) = false) (rel : KV kvs vs) (dd : h'.DictOf (mixKind P w) a vs) :
    ObjOk P w H' h' a (.dK kvs) := ⟨z, hd, vs, rel, dd⟩
/-- d[y] = v -/
theorem d_setItem {H' : Hp} {Q : Unit → Shared → Prop} (hu : A.units + 1 < cLine) (I : Inv X pins σ H s) (g : DPut H a y v H') (ry : RelV y u) (rv : RelV v r) (h : ∀ s', Inv X pins σ H' s' → Q () s') :
    wpAny (model X.prog X.w) A (setItem (.ref a) u r) Q E s := by
  rcases g with ⟨kvs, k, e, ey, l, eH⟩ | ⟨kvs, k, b, e, ey, eb, l, eH⟩
  · subst ey eH
    obtain ⟨z, hd, vs, rel, dd⟩ := dk_of I.hok e
    have hz : vs.length ≤ sizeLine := by rw [← rel.length]; exact z
    have hl : (putK kvs k v).length ≤ sizeLine := by have := length_putK kvs k v; omega
    refine wpAny_setItem_pairs (hsz := hz) (kV_is ry) dd fun h' dd' hs => h _ ?_
    have he : ∃ q, h'.get? a = some q := let ⟨q, _, _, hq, _⟩ := dd'; ⟨q, hq⟩
    exact d_write I (by rw [e]; exact True.intro) hs he (dk_new hl hd (rel.put k rv) dd')
  · subst ey eH
    cases (show u = Value.ref b from ry)
    obtain ⟨z, hd, xs, rel, dd⟩ := dt_of I.hok e
    have hz : xs.length ≤ sizeLine := by rw [← Paired.length rel]; exact z
    have hl : (putK kvs k v).length ≤ sizeLine := by have := length_putK kvs k v; omega
    refine wpAny_setItem_heap (hsz := hz) (tupleKind_room_in1 hu) (key_of I.hok eb) dd fun h' dd' hs => h _ ?_
    obtain ⟨q, es, ep, hq, h2, h3, h4, _, h5⟩ := dd'
    refine d_write I (by rw [e]; exact True.intro) hs ⟨q, hq⟩ ⟨hl, hd, _, (rel.put k eb rv).keeps fun c ys ec => ?_, q, es, ep, hq, h2, h3, h4, h5⟩
    rw [upd_ne (ne_of ec e (fun z => nomatch z))]
    exact ec
end

section
variable {X : Cx} {pins : List (Addr × Obj)} {σ : St} {H : Hp} {s : Shared} {a : Addr} {kvs : List (Key × V)} {k : Key} {u : Value} {A : Around} {E : Value → Shared → Prop}
/-- d.pop(k[, x]), there -/
theorem d_pop {v : V} {more : List Value} {Q : Value → Shared → Prop} (I : Inv X pins σ H s) (e : H a = some (.dK kvs)) (ry : RelV (kV k) u) (l : valV kvs k = some v) (hm : more = [] ∨ ∃ x, more = [x])
    (h : ∀ w' s', Inv X pins σ (upd H a (.dK (dropK kvs k))) s' → RelV v w' → Q w' s') : wpAny (model X.prog X.w) A (call (.builtin "dict.pop") (.ref a :: u :: more)) Q E s := by
  obtain ⟨z, hd, vs, rel, dd⟩ := dk_of I.hok e
  obtain ⟨w', hw, rw'⟩ := RelO.some_of (v := v) (o := valueAt vs k) (by rw [← l]; exact rel.val k)
  have hp : (keyPart u).isSome = true := by
    cases k with
    | inl i => obtain ⟨t, q⟩ := (show ∃ t, u = Value.int i t from ry); subst q; rfl
    | inr x => obtain ⟨t, q⟩ := (show ∃ t, u = Value.str x t from ry); subst q; rfl
  have ha : argsOk "dict.pop" ⟨.ref a :: u :: more, []⟩ := by
    rcases hm with q | ⟨x, q⟩
    · subst q; exact PySem.F.args_dict_pop_2 _ _
    · subst q; exact PySem.F.args_dict_pop_3 _ _ _
  refine call_meetsIn PySem.F.slot_dict_pop dd.typeIs PySem.F.entry_dict_pop ha (meets_dict_pop_there (mixKind X.prog X.w) a (kV_is ry) more hm hp)
    ⟨vs, w', dd, by rw [← rel.length]; exact z, hw, fun h' dd' hs => h w' _ ?_ rw'⟩
  have he : ∃ q, h'.get? a = some q := let ⟨q, _, _, hq, _⟩ := dd'; ⟨q, hq⟩
  exact d_write I (by rw [e]; exact True.intro) hs he (dk_new (Nat.le_trans (dropK_le kvs k) z) hd (rel.drop k) dd')
end


/-! ### readings and rules -/
/-- the element of a subscription, not a slice -/
def NoSl (i : Expr) : Prop := ∀ ov iv, subscripted i false ov iv = operate [ov, iv] (getItem ov iv)
theorem subD_of {prog : Program} {w : World} {A : Around} {E : Value → Shared → Prop} {s : Shared} {env : Env} {value slice : Expr} {pos : Pos} {T id : String} {Q : Value → Shared → Prop}
    (hl : typeLookup (.type T) "__getitem__" = pure (some (.builtin id))) (hs : NoSl slice)
    (h : wpAny (model prog w) A (eval value env) (fun o s₁ => wpAny (model prog w) A (eval slice env) (fun i s₂ => s₂.TypeIs o T ∧ wpAny (model prog w) A (getItem o i) Q E s₂) E s₁) E s) :
    wpAny (model prog w) A (eval (.Subscript value slice pos) env) Q E s := by
  refine Subscript_ (wpAny_mono h (fun o s₁ h₁ => wpAny_mono h₁ (fun i s₂ h₂ => ?_) fun _ _ x => x) fun _ _ x => x)
  obtain ⟨hT, h₂⟩ := h₂
  unfold subscriptTail
  refine wpAny_bind ?_
  rw [getitemInPython_of_ne hT.not_modules]
  refine wpAny_bind (wpAny_specialOf hT hl ?_)
  have fin : wpAny (model prog w) A (subscripted slice false o i) (fun r s₃ => wpAny (model prog w) A (letTemporaryGo value o r >>= fun _ => pure r) Q E s₃) E s₂ := by
    rw [hs o i]
    exact wpAny_operating (wpAny_mono h₂ (fun r s₃ h₃ => wpAny_bind (wpAny_letTemporaryGo (wpAny_pure h₃))) fun _ _ x => x)
  first
    | exact wpAny_pure (wpAny_bind fin)
    | exact wpAny_bind (wpAny_pure (wpAny_bind fin))
    | exact wpAny_bind fin

theorem dict_typeIs {X : Cx} {pins : List (Addr × Obj)} {σ : St} {H : Hp} {s : Shared} {a : Addr} {y : V} {o : Option V} (I : Inv X pins σ H s) (g : DGet H a y o) : s.TypeIs (.ref a) "dict" := by
  rcases g with ⟨kvs, k, e, _, _⟩ | ⟨kvs, k, b, e, _, _, _⟩
  · obtain ⟨_, _, vs, _, dd⟩ := dk_rd I.hok e
    exact dd.typeIs
  · obtain ⟨_, _, xs, _, dd⟩ := dt_rd I.hok e
    exact dd.typeIs
/-- d[y] -/
def tDGet (td ty : TE) : TE := fun σ H Q => td σ H fun x H1 => ty σ H1 fun y H2 => ∃ a v, x = .ref a ∧ DGet H2 a y (some v) ∧ Q v H2
/-- y in d, y not in d -/
def tDIn (ty td : TE) : TE := fun σ H Q => ty σ H fun y H1 => td σ H1 fun x H2 => ∃ a o, x = .ref a ∧ DGet H2 a y o ∧ Q (.bl o.isSome) H2
def tDNotIn (ty td : TE) : TE := fun σ H Q => ty σ H fun y H1 => td σ H1 fun x H2 => ∃ a o, x = .ref a ∧ DGet H2 a y o ∧ Q (.bl (!o.isSome)) H2
/-- d[y] = v -/
def sDPut (td ty tv : TE) : TS := fun D σ H => tv σ H fun v H1 => td σ H1 fun x H2 => ty σ H2 fun y H3 => ∃ a H4, x = .ref a ∧ DPut H3 a y v H4 ∧ D.nx σ H4
section
variable {X : Cx} {o i e value : Expr} {pos pos' tpos : Pos} {td ty tv : TE}
theorem pe_dget (hu : X.A.units + 1 < cLine) (ho : PE X o td) (hi : PE X i ty) (hs : NoSl i) : PE X (.Subscript o i pos) (tDGet td ty) := by
  intro pins s σ H Q I h
  refine subD_of PySem.F.slot_dict_getitem.lookup hs (thn (ho pins s σ H _ I h) fun u s1 ⟨x, H1, I1, rx, q1⟩ => thn (hi pins s1 σ H1 _ I1 q1) fun iv s2 ⟨y, H2, I2, ry, a, v, ex, g, q2⟩ => ?_)
  subst ex
  obtain rfl : u = Value.ref a := rx
  exact ⟨dict_typeIs I2 g, d_getItem hu I2 g ry fun w' s3 I3 rw' => ⟨v, H2, I3, rw', q2⟩⟩
theorem pc_din (hu : X.A.units + 1 < cLine) (hi : PE X i ty) (ho : PE X o td) : PC X .In i o (tDIn ty td) := by
  intro pins s σ H Q I h
  refine thn (hi pins s σ H _ I h) fun iv s1 ⟨y, H1, I1, ry, q1⟩ => thn (ho pins s1 σ H1 _ I1 q1) fun u s2 ⟨x, H2, I2, rx, a, ov, ex, g, q2⟩ => ?_
  subst ex
  obtain rfl : u = Value.ref a := rx
  exact d_in hu I2 g ry fun s3 I3 => ⟨.bl ov.isSome, H2, I3, rfl, q2⟩
theorem pc_dnotin (hu : X.A.units + 1 < cLine) (hi : PE X i ty) (ho : PE X o td) : PC X .NotIn i o (tDNotIn ty td) := by
  intro pins s σ H Q I h
  refine thn (hi pins s σ H _ I h) fun iv s1 ⟨y, H1, I1, ry, q1⟩ => thn (ho pins s1 σ H1 _ I1 q1) fun u s2 ⟨x, H2, I2, rx, a, ov, ex, g, q2⟩ => ?_
  subst ex
  obtain rfl : u = Value.ref a := rx
  exact d_notIn hu I2 g ry fun s3 I3 => ⟨.bl (!ov.isSome), H2, I3, rfl, q2⟩
theorem ps_dput (hu : X.A.units + 1 < cLine) (ho : PE X o td) (hi : PE X i ty) (hv : PE X value tv) (hs : swapsWith value (some (.Subscript o i pos')) pos.line X.env = pure false) :
    PS X (.Assign [.Subscript o i pos'] value pos) (sDPut td ty tv) := by
  intro pins s σ H D I h
  refine wpAny_Assign_Subscript (thn (hv pins s σ H _ I h) fun r s1 ⟨v, H1, I1, rv, q1⟩ => thn (ho pins s1 σ H1 _ I1 q1) fun u s2 ⟨x, H2, I2, rx, q2⟩ => thn (hi pins s2 σ H2 _ I2 q2) fun iv s3 ⟨y, H3, I3, ry, a, H4, ex, g, q3⟩ => ?_) hs
  subst ex
  obtain rfl : u = Value.ref a := rx
  exact d_setItem hu I3 g ry rv fun s4 I4 => ⟨σ, H4, I4, q3⟩
end


/-! ### displays -/
theorem dk_empty {P : Program} {w : World} {H : Hp} (h : Heap) (hb : sysModules < h.objs.size) : ObjOk P w H (h.push { cls := .type "dict", data := .dict #[] }) h.objs.size (.dK []) :=
  ⟨Nat.zero_le _, beq_eq_false_iff_ne.mpr (Ne.symm (Nat.ne_of_lt hb)), [], .nil, Heap.DictOf.new h⟩
/-- {}, to be a dict of the kind that is wanted -/
def tDNewK : TE := fun _ H Q => ∀ p, H p = none → Q (.ref p) (upd H p (.dK []))
section
variable {X : Cx} {pos : Pos}
theorem pe_dnewK : PE X (.Dict [] [] pos) tDNewK := fun pins s σ H Q I h =>
  wpAny_Dict_empty ⟨.ref s.heap.objs.size, _, I.laid (a := s.heap.objs.size) (o := .dK []) (t' := s.toks) (fun _ _ q => Heap.get?_push_of_some _ q) (Nat.le_refl _) (dk_empty s.heap I.big), rfl, h _ (I.hok.fresh (Nat.le_refl _))⟩
end

/-- the pairs of a display, from the left -/
def tPairs : List (TE × TE) → St → Hp → (List (V × V) → Hp → Prop) → Prop
  | [], _, H, Q => Q [] H
  | (tk, tv) :: r, σ, H, Q => tk σ H fun x H1 => tv σ H1 fun y H2 => tPairs r σ H2 fun ps H3 => Q ((x, y) :: ps) H3
abbrev VV : List (V × V) → List (Value × Value) → Prop := Paired fun p q => RelV p.1 q.1 ∧ RelV p.2 q.2
def PPs (X : Cx) (pos : Pos) (keys : List (Option Expr)) (values : List Expr) (trs : List (TE × TE)) : Prop :=
  ∀ (pins : List (Addr × Obj)) (s : Shared) (σ : St) (H : Hp) (Q : List (V × V) → Hp → Prop), Inv X pins σ H s → tPairs trs σ H Q →
    wpAny (model X.prog X.w) X.A (evalPairs (pairTrees keys values X.env pos)) (fun vs s' => ∃ ps H', Inv X pins σ H' s' ∧ VV ps vs ∧ Q ps H') X.xe s
theorem pps_nil {X : Cx} {pos : Pos} : PPs X pos [] [] [] := fun pins s σ H Q I h => pairTrees_nil_walk ⟨[], H, I, .nil, h⟩
theorem pps_cons {X : Cx} {pos : Pos} {k v : Expr} {ks : List (Option Expr)} {vs : List Expr} {tk tv : TE} {trs : List (TE × TE)} (hk : PE X k tk) (hv : PE X v tv) (hr : PPs X pos ks vs trs) :
    PPs X pos (some k :: ks) (v :: vs) ((tk, tv) :: trs) := fun pins s σ H Q I h =>
  pairTrees_cons_walk (thn (hk pins s σ H _ I h) fun u s1 ⟨x, H1, I1, rx, q1⟩ => thn (hv pins s1 σ H1 _ I1 q1) fun w2 s2 ⟨y, H2, I2, ry, q2⟩ =>
    thn (hr pins s2 σ H2 _ I2 q2) fun ws s3 ⟨ps, H3, I3, rel, q3⟩ => ⟨(x, y) :: ps, H3, I3, .cons ⟨rx, ry⟩ rel, q3⟩)

def mergeK (kvs more : List (Key × V)) : List (Key × V) := more.foldl (fun acc kv => putK acc kv.1 kv.2) kvs
theorem KV.merge : ∀ {more : List (Key × V)} {rs : List (Key × Value)} {kvs : List (Key × V)} {vs : List (Key × Value)}, KV more rs → KV kvs vs → KV (mergeK kvs more) (merged vs rs) := by
  intro more rs kvs vs r
  unfold KV at r
  induction r generalizing kvs vs with
  | nil => intro q; exact q
  | @cons p q ps qs h t ih =>
    intro r0
    have e : KV (putK kvs p.1 p.2) (stored vs q.1 q.2) := by
      have := r0.put p.1 h.2
      rw [← h.1]; exact this
    exact ih e
theorem length_mergeK : ∀ (more kvs : List (Key × V)), (mergeK kvs more).length ≤ kvs.length + more.length
  | [], kvs => by show kvs.length ≤ kvs.length + 0; omega
  | p :: r, kvs => by
    have h1 := length_mergeK r (putK kvs p.1 p.2)
    have h2 := length_putK kvs p.1 p.2
    show (mergeK (putK kvs p.1 p.2) r).length ≤ _
    rw [List.length_cons]; omega
theorem carries_of {P : Program} {w : World} : ∀ {kvs : List (Key × V)} {ws : List (Value × Value)}, VV (kvs.map fun kv => (kV kv.1, kv.2)) ws → ∃ rs, Carries (mixKind P w) ws rs ∧ KV kvs rs
  | [], _, r => by rw [List.map_nil] at r; cases r; exact ⟨[], True.intro, .nil⟩
  | p :: kvs, _, r => by
    rw [List.map_cons] at r
    cases r with
    | @cons a b as bs h t =>
      obtain ⟨rs, c, q⟩ := carries_of (P := P) (w := w) t
      obtain ⟨b1, b2⟩ := b
      exact ⟨(p.1, b2) :: rs, ⟨kV_is h.1, rfl, c⟩, .cons ⟨rfl, h.2⟩ q⟩
/-- {k: v, ..} with keys ints and texts; the new dict stands empty while the pairs are made -/
def tDisp (trs : List (TE × TE)) : TE := fun σ H Q => ∀ p, H p = none → tPairs trs σ (upd H p (.dK [])) fun ps H2 => H2 p = some (.dK []) ∧ ∃ kvs : List (Key × V), ps = kvs.map (fun kv => (kV kv.1, kv.2)) ∧ kvs.length ≤ 15 ∧ Q (.ref p) (upd H2 p (.dK (mergeK [] kvs)))
theorem pe_disp {X : Cx} {pos : Pos} {keys : List (Option Expr)} {values : List Expr} {trs : List (TE × TE)} (h : PPs X pos keys values trs) (hall : keys.all (·.isSome) = true) (hl : keys.length = values.length) (h0 : keys ≠ [])
    (h15 : keys.length ≤ 15) : PE X (.Dict keys values pos) (tDisp trs) := by
  intro pins s σ H Q I q
  have hn := I.hok.fresh (Nat.le_refl s.heap.objs.size)
  have I1 := I.laid (a := s.heap.objs.size) (o := .dK []) (h' := s.heap.push { cls := .type "dict", data := .dict #[] }) (t' := s.toks) (fun _ _ q => Heap.get?_push_of_some _ q) (Nat.le_refl _) (dk_empty s.heap I.big)
  refine wpAny_Dict_walk (knd := mixKind X.prog X.w) hall hl h0 h15 (thn (h pins _ σ _ _ I1 (q _ hn)) fun ws s2 ⟨ps, H2, I2, rel, e, kvs, ep, lk, q2⟩ => ?_)
  subst ep
  obtain ⟨rs, c, rk⟩ := carries_of (P := X.prog) (w := X.w) rel
  obtain ⟨z, hd, vs0, r0, dd⟩ := dk_of I2.hok e
  cases r0
  refine ⟨rs, c, dd, fun h' dd' hs => ⟨.ref s.heap.objs.size, _, ?_, rfl, q2⟩⟩
  have hz : (mergeK [] kvs).length ≤ sizeLine := by
    have h1 := length_mergeK kvs []
    rw [List.length_nil] at h1
    rw [sizeLine_eq]; omega
  have he : ∃ q, h'.get? s.heap.objs.size = some q := let ⟨q, _, _, hq, _⟩ := dd'; ⟨q, hq⟩
  exact d_write I2 (by rw [e]; exact True.intro) hs he (dk_new hz hd (rk.merge .nil) dd')


/-! ### methods -/
/-- a method call o.m(e) of a built-in, with one argument: what must be seen of the text -/
structure M1 (X : Cx) (o : Expr) (m : Str) (apos : Pos) (e : Expr) (cpos : Pos) : Prop where
  base : attributeBase o m X.env (eval o X.env) = eval o X.env
  few : ((backTo cpos (starEach [e] X.env)).all (fun x => !x.1) && (backToKw cpos (keywordEach [] X.env)).all (fun x => x.1.isSome)
    && decide (([e] : List Expr).length + ([] : List Keyword).length + (if ([] : List Keyword).isEmpty then 0 else 1) < 30)) = true
  line : (apos.endLine == cpos.line) = true
  trees : backTo cpos (starEach [e] X.env) = [(false, eval e X.env)]
structure M2 (X : Cx) (o : Expr) (m : Str) (apos : Pos) (e f : Expr) (cpos : Pos) : Prop where
  base : attributeBase o m X.env (eval o X.env) = eval o X.env
  few : ((backTo cpos (starEach [e, f] X.env)).all (fun x => !x.1) && (backToKw cpos (keywordEach [] X.env)).all (fun x => x.1.isSome)
    && decide (([e, f] : List Expr).length + ([] : List Keyword).length + (if ([] : List Keyword).isEmpty then 0 else 1) < 30)) = true
  line : (apos.endLine == cpos.line) = true
  trees : backTo cpos (starEach [e, f] X.env) = [(false, eval e X.env), (false, eval f X.env)]

/-- a is a dict, whatever its keys -/
def IsD (H : Hp) (a : Addr) : Prop := (∃ kvs, Rd H a (.dK kvs)) ∨ ∃ kvs, Rd H a (.dT kvs)
theorem isD_at {X : Cx} {pins : List (Addr × Obj)} {σ : St} {H : Hp} {s : Shared} {a : Addr} (I : Inv X pins σ H s) (d : IsD H a) :
    s.TypeIs (.ref a) "dict" ∧ (∀ b, Value.ref a = .ref b → ∃ ob, s.heap.get? b = some ob ∧ ob.dict = none) ∧ (a == sysModules) = false := by
  rcases d with ⟨kvs, e⟩ | ⟨kvs, e⟩
  · obtain ⟨_, hd, vs, _, dd⟩ := dk_rd I.hok e
    refine ⟨dd.typeIs, fun b q => ?_, hd⟩
    cases q
    obtain ⟨ob, _, _, h1, h2, _⟩ := dd
    exact ⟨ob, h1, h2.2.1⟩
  · obtain ⟨_, hd, xs, _, dd⟩ := dt_rd I.hok e
    refine ⟨dd.typeIs, fun b q => ?_, hd⟩
    cases q
    obtain ⟨ob, _, _, h1, h2, _⟩ := dd
    exact ⟨ob, h1, h2.2.1⟩

section
variable {X : Cx} {pins : List (Addr × Obj)} {σ : St} {H : Hp} {s : Shared} {a : Addr} {y d : V} {u r : Value} {o : Option V} {A : Around} {E : Value → Shared → Prop}
/-- d.get(y, x) -/
theorem d_get2 {Q : Value → Shared → Prop} (hu : A.units + 1 < cLine) (I : Inv X pins σ H s) (g : DGet H a y o) (ry : RelV y u) (rd : RelV d r) (h : ∀ w' s', Inv X pins σ H s' → RelV (o.getD d) w' → Q w' s') :
    wpAny (model X.prog X.w) A (call (.builtin "dict.get") [.ref a, u, r]) Q E s := by
  rcases g with ⟨kvs, k, e, ey, l⟩ | ⟨kvs, k, b, e, ey, eb, l⟩
  · subst ey
    obtain ⟨z, hd, vs, rel, dd⟩ := dk_rd I.hok e
    refine call_meetsIn PySem.F.slot_dict_get dd.typeIs PySem.F.entry_dict_get (PySem.F.args_dict_get_3 _ _ _) (meets_dict_get_default (mixKind X.prog X.w) a (kV_is ry) hd r) ⟨_, dd.mapOf, h _ _ (I.tok _) ?_⟩
    rw [l]
    exact (rel.val k).getD rd
  · subst ey
    cases (show u = Value.ref b from ry)
    obtain ⟨z, hd, xs, rel, dd⟩ := dt_rd I.hok e
    refine call_meetsIn PySem.F.slot_dict_get dd.typeIs PySem.F.entry_dict_get (PySem.F.args_dict_get_3 _ _ _) (meetsH_dict_get_default (tupleKind (mixKind X.prog X.w)) a b hd r) ⟨tupleKind_room_in1 hu, k, xs, key_of I.hok eb, dd, h _ _ (I.tok _) ?_⟩
    rw [l]
    exact (rel.val k).getD rd
end

def tDGet2 (td ty tx : TE) : TE := fun σ H Q => td σ H fun x H1 => ∃ a, x = .ref a ∧ IsD H1 a ∧ ty σ H1 fun y H2 => tx σ H2 fun z H3 => ∃ o, DGet H3 a y o ∧ Q (o.getD z) H3
/-- d.pop(k): there; d.pop(k, x): there or not -/
def tDPop1 (td ty : TE) : TE := fun σ H Q => td σ H fun x H1 => ∃ a, x = .ref a ∧ IsD H1 a ∧ ty σ H1 fun y H2 => ∃ kvs k v, H2 a = some (.dK kvs) ∧ y = kV k ∧ valV kvs k = some v ∧ Q v (upd H2 a (.dK (dropK kvs k)))
section
variable {X : Cx} {o e f : Expr} {apos cpos : Pos} {td ty tx : TE}
theorem pe_dget2 (hu : X.A.units + 1 < cLine) (ho : PE X o td) (he : PE X e ty) (hf : PE X f tx) (m : M2 X o "get" apos e f cpos) : PE X (.Call (.Attribute o "get" apos) [e, f] [] cpos) (tDGet2 td ty tx) := by
  intro pins s σ H Q I h
  refine wpAny_Call_method m.base m.few m.line PySem.F.plainAttrs_dict PySem.F.slot_dict_get PySem.F.type_dict_get (thn (ho pins s σ H _ I h) fun u s1 ⟨x, H1, I1, rx, a, ex, d, q1⟩ => ?_)
  subst ex
  obtain rfl : u = Value.ref a := rx
  obtain ⟨t1, t2, _⟩ := isD_at I1 d
  refine ⟨t1, t2, ?_⟩
  rw [m.trees]
  refine Calls.callWith_builtin rfl (Calls.evalArgs_plain (Calls.spliced_cons (thn (he pins s1 σ H1 _ I1 q1) fun iv s2 ⟨y, H2, I2, ry, q2⟩ =>
    Calls.spliced_cons (thn (hf pins s2 σ H2 _ I2 q2) fun fv s3 ⟨z, H3, I3, rz, ov, g, q3⟩ => Calls.spliced_nil ?_))))
  exact d_get2 hu I3 g ry rz fun w' s4 I4 rw' => ⟨_, H3, I4, rw', q3⟩
theorem pe_dpop1 (ho : PE X o td) (he : PE X e ty) (m : M1 X o "pop" apos e cpos) : PE X (.Call (.Attribute o "pop" apos) [e] [] cpos) (tDPop1 td ty) := by
  intro pins s σ H Q I h
  refine wpAny_Call_method m.base m.few m.line PySem.F.plainAttrs_dict PySem.F.slot_dict_pop PySem.F.type_dict_pop (thn (ho pins s σ H _ I h) fun u s1 ⟨x, H1, I1, rx, a, ex, d, q1⟩ => ?_)
  subst ex
  obtain rfl : u = Value.ref a := rx
  obtain ⟨t1, t2, _⟩ := isD_at I1 d
  refine ⟨t1, t2, ?_⟩
  rw [m.trees]
  refine Calls.callWith_builtin rfl (Calls.evalArgs_plain (Calls.spliced_cons (thn (he pins s1 σ H1 _ I1 q1) fun iv s2 ⟨y, H2, I2, ry, kvs, k, v, ea, ey, l, q2⟩ => Calls.spliced_nil ?_)))
  subst ey
  exact d_pop I2 ea ry l (.inl rfl) fun w' s3 I3 rw' => ⟨v, _, I3, rw', q2⟩
end

/-! ### dict(d): a copy -/
section
variable {X : Cx} {pins : List (Addr × Obj)} {σ : St} {H : Hp} {s : Shared} {a : Addr} {kvs : List (Key × V)} {A : Around} {E : Value → Shared → Prop}
theorem d_copyOf {Q : Value → Shared → Prop} (I : Inv X pins σ H s) (e : Rd H a (.dK kvs)) (h : ∀ p s', H p = none → Inv X pins σ (upd H p (.dK kvs)) s' → Q (.ref p) s') : wpAny (model X.prog X.w) A (call (.type "dict") [.ref a]) Q E s := by
  obtain ⟨z, hd, vs, rel, dd⟩ := dk_rd I.hok e
  refine kt_call_dict hd dd (by rw [← rel.length]; exact z) fun h' dd' hs => ?_
  refine h _ _ (I.hok.fresh (Nat.le_refl _)) (I.laid (a := s.heap.objs.size) (o := .dK kvs) (t' := s.toks) (fun b q hq => ?_) (Nat.le_refl _) (dk_new z (beq_eq_false_iff_ne.mpr (Ne.symm (Nat.ne_of_lt I.big))) rel dd'))
  exact (hs.2 b (Nat.ne_of_lt (Heap.lt_size hq))).trans (Heap.get?_push_of_some _ hq)
end


section
variable {X : Cx} {pins : List (Addr × Obj)} {σ : St} {H : Hp} {s : Shared} {a : Addr} {y : V} {u : Value} {A : Around} {E : Value → Shared → Prop}
end
end L2

namespace Att
open PySem PySem.W PySem.Calls PyProof.Rows

/-! ### the script -/
theorem ints_of_wellAll {P : Params} {h : Heap} : ∀ (ns : List Int) (vs : List Value), WellAll P h vs (ns.map WData.int) → IntsAre vs ns := by
  intro ns
  induction ns with
  | nil =>
    intro vs w
    rw [List.map_nil] at w
    cases w
    exact .nil
  | cons n ns ih =>
    intro vs w
    rw [List.map_cons] at w
    cases w with
    | cons a b =>
      cases a
      exact .cons _ _ (ih _ b)

theorem script_of {l : OpenLaw} {n : Nat} (hn : l.most = some n) {P : Params} {h : Heap} {args : List WData} {vals : List Value}
    (hpre : l.row.toRowW.claim.pre args = true) (hwl : WellAll P h vals args) :
    ∃ a vs ns, vals = [Value.ref a] ∧ args = [WData.list (ns.map WData.int)] ∧ h.get? a = some { cls := .type "list", data := .seq vs.toArray } ∧ IntsAre vs ns ∧ ns.length ≤ n := by
  have hsh : WShape.hasAll [] args [.list .int] = true := (pre_splitW hpre).1
  have hc : l.pre.holds [] { args := args } = true := (pre_splitW hpre).2
  obtain ⟨d, r, rfl, h1, h2⟩ := hasAllW_cons hsh
  obtain rfl := hasAllW_nil h2
  obtain ⟨xs, rfl, h3⟩ := hasW_list h1
  obtain ⟨ns, rfl⟩ := items_int h3
  have hlen : ns.length ≤ n := by
    unfold OpenLaw.pre at hc
    have h4 : (WTm.not (.lt (.lit (.int (n : Int))) (.len (.arg 0)))).holds [] { args := [.list (ns.map .int)] } = true := by
      have h4 := (holds_andW hc).1
      rw [hn] at h4
      exact h4
    have h5 := condW_of h4 (w_not (w_lt w_lit (w_len_list (w_arg rfl))))
    rw [List.length_map] at h5
    refine Nat.le_of_not_lt fun q => ?_
    have q' : (n : Int) < ((ns.length : Nat) : Int) := by omega
    first
      | (rw [decide_eq_true q'] at h5; exact absurd h5 (by decide))
      | (simp at h5; omega)
  cases hwl with
  | cons w1 w2 =>
    cases w2
    cases w1 with
    | list ho hall => exact ⟨_, _, ns, rfl, rfl, ho, ints_of_wellAll ns _ hall, hlen⟩

theorem post_true (l : OpenLaw) (args : List WData) : l.row.toRowW.claim.post args (.bool true) args = true :=
  postW_of (r := l.row.toRowW) (X := (true == true))
    (show WShape.has [] (.bool true) .bool = true by first | rfl | decide | simp [WShape.has, WShape.arms, WShape.armsAll])
    (show (WTm.eq .res (.lit (.bool true))).value [] { args := args, res := some (.bool true), after := args } = some (.bool (true == true)) from w_eq_bool (w_res rfl) w_lit) rfl

/-! ### the attachment: holds_open's last premise (the goal 'hc' behind k_head) from a wpAny of the law's body -/
/-- the same from a codeAny of the CALL (for a layer whose function contracts speak of calls) -/
theorem attach_call {l : OpenLaw} {n : Nat} {q : Program} {loose : List Str} {XP : (Str → Option Value) → Heap → Prop} {YP : World → Heap → Prop} {d : DefRec}
    (hn : l.most = some n) (hdf : d.params.defaults = [])
    (call : ∀ (w : World) (s₀ s₁ : Shared) (mg mb : Str → Option Value) (fa : Addr) (o : Obj) (pm cd doc : Value) (a : Addr) (vs : List Value) (ns : List Int),
      Ground q loose [] XP w s₀ mg mb s₁.heap → YP w s₁.heap →
      s₁.heap.get? fa = some o → o.data = .func (docDef d.name d.params d.body d.scope pm cd doc) → s₁.heap.CodeRec cd d.name → mg d.name = some (.ref fa) →
      s₁.heap.get? a = some { cls := .type "list", data := .seq vs.toArray } → IntsAre vs ns → ns.length ≤ n → s₁.gens = #[] →
      codeAny (model l.prog w) callerA (.call (.ref fa) ⟨[.ref a], []⟩) (fun r s' => r = .ok (.ret (.bool true)) ∧ OldK s₁.heap s'.heap ∧ s'.os = s₁.os ∧ AllBare s'.gens) s₁) :
    WalkO q loose XP YP l.row.toRowW d [] (fun f vs => PySem.call f vs) := by
  intro w s₀ s₁ mg mb G Y fa o pm cd doc dV kV ho hd hcd hD hmg hg args vals as hpre hlay hrd hwl hlo
  obtain rfl : dV = .none := Dflts.none hD hdf
  obtain rfl : kV = .none := Dflts.noKw hD
  obtain ⟨a, vs, ns, rfl, rfl, hobj, hints, hlen⟩ := script_of hn hpre hwl
  refine enter_call (codeAny_mono (call w s₀ s₁ mg mb fa o pm cd doc a vs ns G Y ho (fd_plain hd) hcd hmg hobj hints hlen hg) fun r s' hq => ?_)
  obtain ⟨rfl, h2, h3, h4⟩ := hq
  exact ⟨.inl ⟨.bool true, .bool true, [], rfl, fun _ => rfl, .bool true, post_true l _, fun _ => ⟨List.Pairwise.nil, fun _ hm => (nomatch hm)⟩⟩, h2, h3, h4⟩

/-! ### rules over ANY heap (no ledger) from facts about the written part K: the library's own take a ledger (News) for what they write -/
section
variable {prog : Program} {w : World} {A : Around} {E : Value → Shared → Prop} {s : Shared} {K : Frag}

/-! the whole heap as the ledger: makes every rule that writes through a ledger a rule over any heap -/
def ledger (h : Heap) (L d : Addr) : List (Addr × Obj) := (List.range h.objs.size).filterMap fun a => if a = L ∨ a = d then none else (h.get? a).map fun o => (a, o)
end
end Att

namespace L2
open PySem PySem.Spec PyProof.Rows

theorem vals_ints : ∀ {vs : List Value} {ns : List Int}, IntsAre vs ns → Vals (ns.map V.int) vs
  | _, _, .nil => .nil
  | _, _, .cons n t h => .cons ⟨t, rfl⟩ (vals_ints h)

/-- nothing is tracked but the script, known to the object (or it is an object of the module) -/
def Only (H : Hp) : Prop := ∀ b, H b = none ∨ ∃ o xs, H b = some (.frz o (.lst xs))

/-- THE HEAD: the law's promise, at the heap behind the top. F, the promise of the law's def, may use that base is part of the heap (so K.In base, base.Ns mainGlobals mg stand in Mod) -/
theorem law_call {P : Program} {w : World} {K : PySem.W.Frag} {mg mb : Str → Option Value} {CX : CXT} {k : Nat} {fa a : Addr} {fd : FuncData} {x : Str} {sp : Sp} {s₁ : Shared} {vs : List Value} {ns : List Int}
    (KX : K.In s₁.heap) (hns : s₁.heap.Ns mainGlobals mg) (hb : s₁.heap.Ns builtinsNs mb) (hbb : ∀ x : Str, x ≠ "__name__" → mb x = bootBuiltins x) (hlim : s₁.heap.NoLimit) (hg : s₁.gens = #[])
    (ha : s₁.heap.get? a = some { cls := .type "list", data := .seq vs.toArray }) (hi : IntsAre vs ns) (hl : ns.length ≤ sizeLine) (hr : Room k callerA)
    (F : ∀ base : Heap, K.In base → base.Ns mainGlobals mg → FnOk P w K mg base CX k fa fd [x] sp) (hbind : ∀ (s : Shared) (u : Value), BindsTo s fd ⟨[u], []⟩ [(x, u)])
    (hsp : ∀ H : Hp, Only H → SqL K H a (ns.map V.int) → sp [.ref a] H (fun v _ => v = .bl true) fun _ _ _ => False)
    (hCX : ∀ H e s', CX [] H s₁ (fun _ _ _ => False) e s' → False) :
    codeAny (model P w) callerA (.call (.ref fa) ⟨[.ref a], []⟩) (fun r s' => r = .ok (.ret (.bool true)) ∧ OldK s₁.heap s'.heap ∧ s'.os = s₁.os ∧ AllBare s'.gens) s₁ := by
  have rv := vals_ints hi
  have lenV := hi.length
  -- from an abstract heap in which nothing but the script may be tracked
  have core : ∀ H : Hp, Only H → SqL K H a (ns.map V.int) → HOk P w H s₁.heap → (∀ b, H b ≠ none → b = a) → (H a ≠ none → K.lookup a = none) →
      codeAny (model P w) callerA (.call (.ref fa) ⟨[.ref a], []⟩) (fun r s' => r = .ok (.ret (.bool true)) ∧ OldK s₁.heap s'.heap ∧ s'.os = s₁.os ∧ AllBare s'.gens) s₁ := by
    intro H hO hS hok hA hK
    have base_of : ∀ {b : Addr} {o : Obj}, s₁.heap.get? b = some o → H b = none → (hidT s₁.heap H).get? b = some o := fun e n => hidT_get e n
    have noA : ∀ {b : Addr} {o : Obj} {es : Array DictEntry} {ep : Nat}, s₁.heap.get? b = some o → o.data = .dict es ep → H b = none := fun {b o es ep} e d => by
      cases q : H b with
      | none => rfl
      | some u =>
        have e' : b = a := hA b (by rw [q]; simp)
        subst e'
        rw [ha] at e; cases e
        have d' : Data.seq vs.toArray _ = Data.dict es ep := d
        cases d'
    have nsK : ∀ {b : Addr} {m : Str → Option Value}, s₁.heap.Ns b m → (hidT s₁.heap H).Ns b m := fun {b m} ⟨o, es, ep, e, d, r⟩ => ⟨o, es, ep, base_of e (noA e d), d, r⟩
    have hKb : K.In (hidT s₁.heap H) := fun b o e => base_of (KX b o e) (by
      cases q : H b with
      | none => rfl
      | some u =>
        have e' : b = a := hA b (by rw [q]; simp)
        subst e'
        rw [hK (by rw [q]; simp)] at e; cases e)
    have hM : Mod K mg (hidT s₁.heap H) := ⟨hKb, nsK hns, ⟨mb, nsK hb, hbb⟩, let ⟨mc, h1, h2⟩ := hlim; ⟨mc, nsK h1, h2⟩⟩
    have e0 : Env0 P w K mg (hidT s₁.heap H) callerA [] s₁ H := ⟨rfl, hM, fun b o e => of_hidT e, Nat.le_of_eq (hidT_size _ _), trivial, fun b hb => absurd (show b ∈ ([] : List Addr) from hb) (by simp), hok, .of_eq hg⟩
    refine codeAny_mono ((F _ hKb (nsK hns)).run callerA [] s₁ H ⟨[.ref a], []⟩ [.ref a] [.ref a] _ _ hr e0 (hbind s₁ (.ref a)) (.cons rfl .nil) (hsp H hO hS)) fun r s' h => ?_
    cases r with
    | error e => exact (hCX H e s' h).elim
    | ok fl =>
      cases fl with
      | next => exact False.elim h
      | brk => exact False.elim h
      | cont => exact False.elim h
      | ret u =>
        obtain ⟨v, H', os, bare, un, hok', r', q⟩ := h
        have q' : v = .bl true := q
        subst q'
        obtain rfl : u = Value.bool true := r'
        refine ⟨rfl, OldK.of_keep fun b o e => ?_, os, bare⟩
        cases q : H b with
        | none => exact un.keep b o e q (by intro z; exact absurd (show b ∈ ([] : List Addr) from z) (by simp)) (by simp)
        | some u =>
          rcases hO b with z | ⟨ob, xs, z⟩
          · rw [q] at z; cases z
          · have z2 := un.frzs b ob _ z
            obtain ⟨e1, _⟩ := hok b _ z
            obtain ⟨e2, _⟩ := hok' b _ z2
            rw [e] at e1; cases e1
            exact e2
  cases hk : K.lookup a with
  | some o =>
    -- the script is one of the module's own objects
    have e := KX a o hk
    rw [ha] at e
    cases e
    refine core (fun _ => none) (fun _ => .inl rfl) (.inr ⟨_, vs.toArray, _, hk, rfl, rfl, rfl, by rw [List.size_toArray, lenV]; exact hl, by simpa using rv⟩) (fun b u z => by have z' : (none : Option HO) = some u := z; cases z') (fun b z => absurd rfl z) fun z => absurd rfl z
  | none =>
    refine core (fun b => if b = a then some (.frz { cls := .type "list", data := .seq vs.toArray } (.lst (ns.map V.int))) else none) (fun b => ?_) (.inl (.inr ⟨{ cls := .type "list", data := .seq vs.toArray }, if_pos rfl⟩)) (fun b u z => ?_) (fun b z => ?_) fun _ => hk
    · by_cases hb : b = a
      · exact .inr ⟨_, _, if_pos hb⟩
      · exact .inl (if_neg hb)
    · by_cases hb : b = a
      · have z' := (if_pos hb).symm.trans z
        cases z'
        subst hb
        exact ⟨ha, by rw [List.length_map]; exact hl, vs, _, rv, ha⟩
      · have z' := (if_neg hb).symm.trans z
        cases z'
    · by_cases hb : b = a
      · exact hb
      · exact absurd (if_neg hb) z
end L2

namespace L2
open PySem PySem.Spec PyProof.Rows

/-- the goal that k_head leaves (case hc), from the law's promise. F gives the function object fd (K's own) once, then the promise over every base -/
theorem walk_of {l : PySem.W.OpenLaw} {n k : Nat} {q : Program} {loose : List Str} {XP : (Str → Option Value) → Heap → Prop} {YP : World → Heap → Prop} {d : DefRec} {K : Params → PySem.W.Frag} {CX : World → CXT} {sp : World → Sp} {x : Str}
    (hn : l.most = some n) (hn2 : n ≤ sizeLine) (hdf : d.params.defaults = []) (hr : Room k callerA)
    (hY : ∀ (w : World) (h : Heap), YP w h → (K w.params).In h)
    (F : ∀ (w : World) (mg : Str → Option Value) (fa : Addr) (h : Heap), (K w.params).In h → h.Ns mainGlobals mg → mg d.name = some (.ref fa) →
      ∃ fd : FuncData, (∀ (s : Shared) (u : Value), BindsTo s fd ⟨[u], []⟩ [(x, u)]) ∧
        ∀ base : Heap, (K w.params).In base → base.Ns mainGlobals mg → FnOk l.prog w (K w.params) mg base (CX w) k fa fd [x] (sp w))
    (hsp : ∀ (w : World) (H : Hp) (a : Addr) (ns : List Int), ns.length ≤ n → Only H → SqL (K w.params) H a (ns.map V.int) → sp w [.ref a] H (fun v _ => v = .bl true) fun _ _ _ => False)
    (hCX : ∀ (w : World) (H : Hp) (s : Shared) (e : Value) (s' : Shared), CX w [] H s (fun _ _ _ => False) e s' → False) :
    PySem.W.WalkO q loose XP YP l.row.toRowW d [] (fun f vs => PySem.call f vs) := by
  refine Att.attach_call hn hdf fun w s₀ s₁ mg mb fa o pm cd doc a vs ns G Y ho hd hcd hmg hobj hints hlen hg => ?_
  have KX := hY w _ Y
  obtain ⟨fd, hb, hF⟩ := F w mg fa _ KX G.T.g hmg
  exact law_call KX G.T.g G.T.b G.T.builtins G.T.nolimit hg hobj hints (Nat.le_trans hlen hn2) hr hF hb (fun H hO hS => hsp w H a ns hlen hO hS) fun H e s' => hCX w H s₁ e s'
end L2


/-! SHORT WORDS over the layer: a def of the text, its body, what a loop and a test want. -/
namespace L2
open PySem PySem.Spec PyProof.Rows

/-! ### the text by places -/
/-- the j-th statement of a class's body -/
def inClass (s : Stmt) (j : Nat) : Stmt := match s with
  | .ClassDef _ _ _ body _ _ _ _ _ _ _ => body.getD j (.Pass ⟨0, 0, 0, 0⟩)
  | _ => .Pass ⟨0, 0, 0, 0⟩
def defArgs (s : Stmt) : Arguments := match s with
  | .FunctionDef _ a _ _ _ _ _ _ _ _ => a
  | _ => { posonlyargs := [], args := [], vararg := none, kwonlyargs := [], kw_defaults := [], kwarg := none, defaults := [] }
def defBody (s : Stmt) : List Stmt := match s with
  | .FunctionDef _ _ b _ _ _ _ _ _ _ => b
  | _ => []
def defScope (s : Stmt) : Scope := match s with
  | .FunctionDef _ _ _ _ _ _ sc _ _ _ => sc
  | _ => { kind := .function, names := [], isGenerator := false, isCoroutine := false }

/-! ### no exception leaves a def -/
abbrev CX0 : CXT := fun _ _ _ _ _ _ => False
abbrev E0 : XK := fun _ _ _ => False
theorem pass0 {X : Cx} : Passes CX0 X E0 := fun _ _ _ _ _ _ _ h => h.elim

/-! ### a def (or method) of the text as it stands behind the top -/
structure Fun (K : PySem.W.Frag) (x qual : Str) (st : Stmt) (f : Addr) (fd : FuncData) : Prop where
  ex : ∃ (oc : Value) (od : Option Addr) (kV doc pm : Value) (an : Option Addr) (cdv ct : Value) (osl : Array (Option Value)),
    fd = PySem.W.fnOf x qual (defArgs st) (defBody st) (defScope st) .none kV doc pm an cdv ct ∧ K.lookup f = some ⟨oc, od, .func fd, osl⟩ ∧ PySem.W.codeIn K cdv qual = true
  kp : PySem.W.keepIn K (.ref f) = true
section
variable {P : Program} {w : World} {K : PySem.W.Frag} {mg : Str → Option Value} {base : Heap}
/-- THE RULE for a def: its body as a term of rules, and the reading of that term -/
theorem Fun.ok {x qual : Str} {st : Stmt} {f : Addr} {fd : FuncData} {N ps : List Str} {k : Nat} {sp : Sp} (F : Fun K x qual st f fd) (S : FnScope N ps (defScope st)) (len : ∀ vs H Q E, sp vs H Q E → vs.length = ps.length)
    (hbody : ∀ (cdv : Value) (A : Around) (outer : List Env) (s : Shared) (H : Hp) (vs : List V) (Q : VK) (E : XK), Room k (A.deeper (envOfC qual (defScope st) s.heap.objs.size f cdv)) → sp vs H Q E →
      ∃ t, PSs (cxOf CX0 P w K mg base N qual (defScope st) f cdv A outer s H E).nox (defBody st) t ∧ t { nx := fun _ H' => Q .non H', rt := Q } (start N vs) H) : FnOk P w K mg base CX0 (k + 1) f fd ps sp := by
  obtain ⟨oc, od, kV, doc, pm, an, cdv, ct, osl, rfl, lk, hcd⟩ := F.ex
  refine fn_of lk hcd S len fun A outer s H vs Q E hr hsp => ?_
  obtain ⟨t, h, q⟩ := hbody cdv A outer s H vs Q E hr hsp
  exact ⟨t, h.nox, q⟩
/-- how its arguments bind (no defaults): h is «fun _ _ _ _ _ _ us hl => match us, hl with | [_, _], _ => rfl», one _ a parameter -/
theorem Fun.binds {x qual : Str} {st : Stmt} {f : Addr} {fd : FuncData} {ps : List Str} (F : Fun K x qual st f fd)
    (h : ∀ (kV doc pm : Value) (an : Option Addr) (cdv ct : Value) (us : List Value), us.length = ps.length → bindArgs (PySem.W.fnOf x qual (defArgs st) (defBody st) (defScope st) .none kV doc pm an cdv ct) ⟨us, []⟩ = pure (ps.zip us)) : Binds K fd ps [] := by
  obtain ⟨oc, od, kV, doc, pm, an, cdv, ct, osl, rfl, lk, hcd⟩ := F.ex
  exact .all (h kV doc pm an cdv ct)
theorem fun_mk {x qual : Str} {st : Stmt} {f : Addr} {oc : Value} {od an : Option Addr} {osl : Array (Option Value)} {kV doc pm cdv ct : Value} (l : K.lookup f = some ⟨oc, od, .func (PySem.W.fnOf x qual (defArgs st) (defBody st) (defScope st) .none kV doc pm an cdv ct), osl⟩)
    (c : PySem.W.codeIn K cdv qual = true) (k : PySem.W.keepIn K (.ref f) = true) : Fun K x qual st f (PySem.W.fnOf x qual (defArgs st) (defBody st) (defScope st) .none kV doc pm an cdv ct) := ⟨⟨oc, od, kV, doc, pm, an, cdv, ct, osl, rfl, l, c⟩, k⟩
end
theorem hu_of {A : Around} {k : Nat} (hr : Room k A) : A.units + 1 < cLine := Nat.lt_of_le_of_lt (Nat.add_le_add_left (by decide : 1 ≤ 64) _) hr.units
/-! ### expressions in short: the name that stands in the i-th slot -/
section
variable {X : Cx}
theorem pv (i : Nat) {x : Str} {pos : Pos} (hN : X.N[i]? = some x := by rfl) (hv : Vis X.env.scope x := by first | exact Or.inl rfl | exact Or.inr (Or.inl rfl) | exact Or.inr (Or.inr rfl)) (hd : (x == ("__debug__" : Str)) = false := by decide)
    (hcd : (x == ("__classdict__" : Str)) = false := by decide) : PE X (.Name x pos) (tVar i) := pe_var hN hv hd hcd
end

/-! ### tests -/
theorem iteF {A B : Prop} (h : B) : if false = true then A else B := by
  rw [if_neg Bool.false_ne_true]
  exact h
theorem iteT {A B : Prop} (h : A) : if true = true then A else B := by
  rw [if_pos rfl]
  exact h
theorem ite2 {c A B : Prop} [Decidable c] (h1 : c → A) (h2 : ¬ c → B) : if c then A else B := by
  by_cases h : c
  · rw [if_pos h]
    exact h1 h
  · rw [if_neg h]
    exact h2 h
/-! ### heaps -/
/-- all that was tracked is as it was -/
def Same (H H' : Hp) : Prop := ∀ b o, H b = some o → H' b = some o
theorem Same.refl (H : Hp) : Same H H := fun _ _ h => h
theorem Same.trans {H H1 H2 : Hp} (a : Same H H1) (b : Same H1 H2) : Same H H2 := fun c o h => b c o (a c o h)
theorem Same.free {H H' : Hp} (e : Same H H') {l : Addr} (h : H' l = Option.none) : H l = Option.none := by
  cases q : H l with
  | none => rfl
  | some o =>
    rw [e l o q] at h
    cases h
theorem Same.seq {K : PySem.W.Frag} {H H' : Hp} {a : Addr} {xs : List V} (e : Same H H') (h : SqL K H a xs) : SqL K H' a xs := by
  rcases h with (h | ⟨o, h⟩) | h
  · exact .inl (.inl (e _ _ h))
  · exact .inl (.inr ⟨o, e _ _ h⟩)
  · exact .inr h

/-! ### a dict's pairs: keys that differ -/
section
variable {κ : Type} [DecidableEq κ]
end
end L2


set_option maxHeartbeats 4000000
/-! A LIST COMPREHENSION with one clause and no or one test, over the hand layer. -/
namespace L2
open PySem PySem.Spec PyProof.Rows

/-- the cells that a block inside takes along -/
def clOf (cells : List (Str × Addr)) : List (Str × NameKind) → List (Str × Addr) → List (Str × Addr)
  | [], acc => acc
  | (n, k) :: r, acc => if k == .free then clOf cells r ((n, (cells.lookup n).getD 0) :: acc) else clOf cells r acc
theorem closure_of {env : Env} {names : List (Str × NameKind)} (h : ∀ n, (n, NameKind.free) ∈ names → ∃ c, env.cells.lookup n = some c) :
    ∀ acc, (forIn names acc fun (x : Str × NameKind) (cs : List (Str × Addr)) => (match x with
      | (name, kind) => if (kind == NameKind.free) = true then do let c ← cellOf env name; pure (ForInStep.yield ((name, c) :: cs)) else pure (ForInStep.yield cs) : Sem (ForInStep (List (Str × Addr))))) = pure (clOf env.cells names acc) := by
  induction names with
  | nil => intro acc; rfl
  | cons x r ih =>
    intro acc
    obtain ⟨n, k⟩ := x
    have ih' := ih fun m hm => h m (List.mem_cons_of_mem _ hm)
    rw [List.forIn_cons]
    by_cases hk : k = .free
    · subst hk
      obtain ⟨c, hc⟩ := h n List.mem_cons_self
      have e : cellOf env n = pure c := by unfold cellOf; rw [hc]
      simp only [beq_self_eq_true, if_true, e, pure_bind]
      rw [ih']
      show _ = pure (clOf env.cells r ((n, (env.cells.lookup n).getD 0) :: acc))
      rw [hc]; rfl
    · have hb : (k == NameKind.free) = false := by simpa using hk
      simp only [hb, Bool.false_eq_true, if_false, pure_bind]
      rw [ih']
      show _ = pure (if (k == NameKind.free) = true then _ else clOf env.cells r acc)
      rw [hb]; rfl
theorem closureFor_of {scope : Scope} {env : Env} (h : ∀ n, (n, NameKind.free) ∈ scope.names → ∃ c, env.cells.lookup n = some c) : closureFor scope env = pure (clOf env.cells scope.names []) := by
  have e := closure_of h []
  unfold closureFor
  simp only [bind_pure_comp] at *
  first
    | exact e
    | (rw [show (forIn scope.names ([] : List (Str × Addr)) _) = _ from e]; rfl)

theorem cl_sub {cells : List (Str × Addr)} : ∀ {names : List (Str × NameKind)} {acc : List (Str × Addr)}, (∀ n, (n, NameKind.free) ∈ names → ∃ c, cells.lookup n = some c) → (∀ x c, acc.lookup x = some c → cells.lookup x = some c) →
    ∀ x c, (clOf cells names acc).lookup x = some c → cells.lookup x = some c
  | [], _, _, ha, x, c, e => ha x c e
  | (n, k) :: r, acc, h, ha, x, c, e => by
    by_cases hk : k = .free
    · subst hk
      obtain ⟨d, hd⟩ := h n List.mem_cons_self
      refine cl_sub (names := r) (acc := (n, (cells.lookup n).getD 0) :: acc) (fun m hm => h m (List.mem_cons_of_mem _ hm)) (fun y z q => ?_) x c e
      rw [List.lookup_cons] at q
      by_cases hy : y = n
      · subst hy
        simp only [beq_self_eq_true, hd, Option.getD_some] at q
        rw [hd]; exact q
      · have hb : (y == n) = false := beq_eq_false_iff_ne.mpr hy
        simp only [hb] at q
        exact ha y z q
    · have hb : (k == NameKind.free) = false := by simpa using hk
      have e' : (clOf cells r acc).lookup x = some c := by
        have : clOf cells ((n, k) :: r) acc = clOf cells r acc := by show (if (k == NameKind.free) = true then _ else _) = _; rw [hb]; rfl
        rw [← this]; exact e
      exact cl_sub (names := r) (fun m hm => h m (List.mem_cons_of_mem _ hm)) ha x c e'
theorem cl_has {cells : List (Str × Addr)} : ∀ {names : List (Str × NameKind)} {acc : List (Str × Addr)} {x : Str}, ((x, NameKind.free) ∈ names ∨ ∃ c, acc.lookup x = some c) → ∃ c, (clOf cells names acc).lookup x = some c
  | [], _, _, h => by
    rcases h with h | h
    · simp at h
    · exact h
  | (n, k) :: r, acc, x, h => by
    by_cases hk : k = .free
    · subst hk
      show ∃ c, (clOf cells r ((n, (cells.lookup n).getD 0) :: acc)).lookup x = some c
      refine cl_has (names := r) ?_
      by_cases hx : x = n
      · subst hx
        exact .inr ⟨_, by rw [List.lookup_cons]; simp only [beq_self_eq_true]; rfl⟩
      · have hb : (x == n) = false := beq_eq_false_iff_ne.mpr hx
        rcases h with h | ⟨c, h⟩
        · rcases List.mem_cons.mp h with q | q
          · exact absurd (Prod.mk.inj q).1 hx
          · exact .inl q
        · exact .inr ⟨c, by rw [List.lookup_cons]; simp only [hb]; exact h⟩
    · have hb : (k == NameKind.free) = false := by simpa using hk
      have : clOf cells ((n, k) :: r) acc = clOf cells r acc := by show (if (k == NameKind.free) = true then _ else _) = _; rw [hb]; rfl
      rw [this]
      refine cl_has (names := r) ?_
      rcases h with h | h
      · rcases List.mem_cons.mp h with q | q
        · exact absurd (Prod.mk.inj q).2.symm hk
        · exact .inl q
      · exact .inr h
def relK (env : Env) (x : Str) (k : NameKind) : NameKind := if (k == NameKind.free && env.scope.kind == .function && env.kindOf x == some .cell) = true then .cell else k
theorem relabel_lookup {env : Env} {x : Str} : ∀ {names : List (Str × NameKind)},
    (names.map fun (n, k) => if (k == NameKind.free && env.scope.kind == .function && env.kindOf n == some .cell) then (n, NameKind.cell) else (n, k)).lookup x = (names.lookup x).map (relK env x)
  | [] => rfl
  | (n, k) :: r => by
    have ih := @relabel_lookup env x r
    show List.lookup x ((if (k == NameKind.free && env.scope.kind == .function && env.kindOf n == some .cell) = true then (n, NameKind.cell) else (n, k)) :: _) = _
    by_cases hx : x = n
    · subst hx
      rw [List.lookup_cons]
      unfold relK
      by_cases hc : (k == NameKind.free && env.scope.kind == .function && env.kindOf x == some .cell) = true
      · rw [if_pos hc, List.lookup_cons]; simp only [beq_self_eq_true, Option.map_some]; rw [if_pos hc]
      · rw [if_neg hc, List.lookup_cons]; simp only [beq_self_eq_true, Option.map_some]; rw [if_neg hc]
    · have hb : (x == n) = false := beq_eq_false_iff_ne.mpr hx
      rw [List.lookup_cons (k := n)]
      by_cases hc : (k == NameKind.free && env.scope.kind == .function && env.kindOf n == some .cell) = true
      · rw [if_pos hc, List.lookup_cons]; simp only [hb]; exact ih
      · rw [if_neg hc, List.lookup_cons]; simp only [hb]; exact ih
theorem mem_of_lookup {κ β : Type} [BEq κ] [LawfulBEq κ] {x : κ} {b : β} : ∀ {l : List (κ × β)}, l.lookup x = some b → (x, b) ∈ l
  | [], h => by simp at h
  | (n, k) :: r, h => by
    rw [List.lookup_cons] at h
    cases hb : x == n with
    | true =>
      rw [hb] at h
      have e1 := LawfulBEq.eq_of_beq hb
      have e2 : k = b := by simpa using h
      subst e1 e2
      exact List.mem_cons_self
    | false =>
      rw [hb] at h
      exact List.mem_cons_of_mem _ (mem_of_lookup h)

/-- the context of a comprehension's block: its own names and those that it takes along -/
def Cx.blk (X : Cx) (scope : Scope) (N' : List Str) (C : Addr) (s₂ : Shared) (H₂ : Hp) (ex : List Addr) : Cx :=
  { X with N := N', s₀ := s₂, H₀ := H₂, env := compEnvC scope (clOf X.env.cells scope.names []) C X.env, outer := X.stack, stack := X.stack, ex := ex, fn := fun _ => false, pn := [], xe := fun _ _ => False }

/-- what is asked of a comprehension's scope: no cells of its own; its names are locals or taken along; ix: where each of N' stands outside (none: its own) -/
structure CompScope (X : Cx) (scope : Scope) (N' : List Str) (ix : List (Option Nat)) : Prop where
  kind : scope.kind = .function
  cell : ∀ y ∈ scope.names, y.2 ≠ .cell
  own : ∀ y ∈ scope.names, y.2 = .local → scope.names.lookup y.1 = some .local
  free : ∀ y ∈ scope.names, y.2 = .free → (X.env.kindOf y.1 = some .cell ∨ X.env.kindOf y.1 = some .free)
  once : ∀ x, (x, NameKind.local) ∈ scope.names → (x, NameKind.free) ∈ scope.names → False
  len : ix.length = N'.length
  out : ∀ (i j : Nat), ix[i]? = some (some j) → X.N[j]? = N'[i]? ∧ ∀ x, N'[i]? = some x → (x, NameKind.free) ∈ scope.names ∧ Vis X.env.scope x
/-- the values that the block sees at its start -/
def takes (ix : List (Option Nat)) (σ : St) : St := ix.map fun o => o.bind fun j => (σ[j]?).join

section
variable {X : Cx} {pins : List (Addr × Obj)} {σ : St} {H : Hp} {s : Shared} {scope : Scope} {N' : List Str} {ix : List (Option Nat)} {fp : List Addr}
theorem blk_free (I : Inv X pins σ H s) (S : CompScope X scope N' ix) : ∀ n, (n, NameKind.free) ∈ scope.names → ∃ c, X.env.cells.lookup n = some c := fun n hn => I.ok.has n (S.free _ hn rfl)
theorem blk_sub (I : Inv X pins σ H s) (S : CompScope X scope N' ix) : ∀ x c, (clOf X.env.cells scope.names []).lookup x = some c → X.env.cells.lookup x = some c :=
  cl_sub (blk_free I S) fun x c e => by simp at e
theorem blk_has (I : Inv X pins σ H s) (S : CompScope X scope N' ix) {x : Str} (h : (x, NameKind.free) ∈ scope.names) : ∃ c, (clOf X.env.cells scope.names []).lookup x = some c ∧ X.env.cells.lookup x = some c := by
  obtain ⟨c, e⟩ := cl_has (cells := X.env.cells) (acc := []) (.inl h)
  exact ⟨c, e, blk_sub I S x c e⟩
theorem blk_kind {C : Addr} (x : Str) : (compEnvC scope (clOf X.env.cells scope.names []) C X.env).kindOf x = (scope.names.lookup x).map (relK X.env x) := relabel_lookup
theorem blk_ok {C : Addr} (I : Inv X pins σ H s) (S : CompScope X scope N' ix) (hC : s.heap.objs.size ≤ C) (hf : ∀ b ∈ fp, FpOk X pins H b) (hfo : ∀ b ∈ fp, b < C) : (X.blk scope N' C s H fp).Ok where
  mod := I.ok.mod
  kind := S.kind
  glob := I.ok.glob
  blt := I.ok.blt
  above := hC
  inj := fun x y c h1 h2 => I.ok.inj x y c (blk_sub I S x c h1) (blk_sub I S y c h2)
  has := fun x hx => by
    have hx' : (scope.names.lookup x).map (relK X.env x) = some .cell ∨ (scope.names.lookup x).map (relK X.env x) = some .free := by
      rw [← blk_kind (C := C)]; exact hx
    cases e : scope.names.lookup x with
    | none => rw [e] at hx'; rcases hx' with z | z <;> cases z
    | some k =>
      have hm := mem_of_lookup e
      have hk : k = .free := by
        rw [e] at hx'
        have h1 := S.cell _ hm
        unfold relK at hx'
        by_cases hc : (k == NameKind.free && X.env.scope.kind == .function && X.env.kindOf x == some .cell) = true
        · simp only [Bool.and_eq_true, beq_iff_eq] at hc
          exact hc.1.1
        · simp only [Option.map_some, hc, if_false, Bool.false_eq_true] at hx'
          rcases hx' with z | z
          · exact absurd (Option.some.inj z) h1
          · exact Option.some.inj z
      subst hk
      obtain ⟨c, h1, _⟩ := blk_has I S hm
      exact ⟨c, h1⟩
  cab := fun x c h => by cases h
  hd := I.ok.hd
  frames := I.ok.frames
  stk := .inl rfl
  exf := fun b hb => ⟨Nat.ne_of_lt (hfo b hb), fun x c e => (hf b hb).2.2.2.2.1 x c (blk_sub I S x c e)⟩
  bs := I.bs
  bsz := Nat.le_trans I.ok.bsz I.sz
  noex := fun b o e hb => by
    rcases (hf b hb).2.2.2.1 with z | z
    · exact I.ok.noex b o e z
    · exact absurd (Nat.lt_of_lt_of_le (Heap.lt_size e) (Nat.le_trans I.ok.bsz z)) (Nat.lt_irrefl _)
  exfs := fun b hb z => by
    rcases List.mem_cons.mp (I.stkSub b z) with q | q
    · exact (hf b hb).2.1 q
    · exact (hf b hb).2.2.1 q
  funs := I.stack
  frf := I.stkFree

/-- the block's state at its start: the frame at C, all else kept -/
theorem blk_inv {C : Addr} {h' : Heap} {t' : Nat} {m : Str → Option Value} (I : Inv X pins σ H s) (S : CompScope X scope N' ix) (hC : s.heap.objs.size ≤ C) (hf : ∀ b ∈ fp, FpOk X pins H b) (hfo : ∀ b ∈ fp, b < C)
    (k : ∀ b o, s.heap.get? b = some o → h'.get? b = some o) (hn : h'.Ns C m) : Inv (X.blk scope N' C s H fp) [] (takes ix σ) H { s with heap := h', toks := t' } where
  ok := blk_ok I S hC hf hfo
  os := rfl
  bare := I.bare
  base := Un.kept k
  loc := ⟨m, hn, fun i x v e1 e2 e3 => by
    have e2' : (ix[i]?).map (fun o => o.bind fun j => (σ[j]?).join) = some (some v) := by rw [← List.getElem?_map]; exact e2
    cases q : ix[i]? with
    | none => rw [q] at e2'; cases e2'
    | some o =>
      rw [q] at e2'
      cases o with
      | none => cases e2'
      | some j =>
        have e2'' : (σ[j]?).join = some v := by simpa using e2'
        have e4 : σ[j]? = some (some v) := by
          cases z : σ[j]? with
          | none => rw [z] at e2''; cases e2''
          | some y => rw [z] at e2''; exact congrArg some e2''
        obtain ⟨o1, o2⟩ := S.out i j q
        have e1' : N'[i]? = some x := e1
        obtain ⟨o3, o4⟩ := o2 x e1'
        obtain ⟨m0, hn0, hl⟩ := I.loc
        obtain ⟨u, r, l⟩ := hl j x v (o1.trans e1') e4 o4
        refine ⟨u, r, .inr ?_⟩
        obtain ⟨c, c1, c2⟩ := blk_has I S o3
        have fk := S.free _ o3 rfl
        have hcell : h'.IsCell c (some u) := by
          rcases l with ⟨lk, _⟩ | ⟨_, c', lc, lz⟩
          · rcases fk with z | z <;> (rw [lk] at z; cases z)
          · rw [c2] at lc; cases lc
            exact lz.keeps k
        refine ⟨?_, c, c1, hcell⟩
        have hkd : (scope.names.lookup x).map (relK X.env x) = some (relK X.env x ((scope.names.lookup x).getD .free)) := by
          cases z : scope.names.lookup x with
          | none =>
            exfalso
            have : ∀ {l : List (Str × NameKind)}, (x, NameKind.free) ∈ l → l.lookup x ≠ none := by
              intro l
              induction l with
              | nil => intro h; simp at h
              | cons y r ih =>
                intro h
                rw [List.lookup_cons]
                rcases List.mem_cons.mp h with q | q
                · rw [← q]; simp
                · cases hb : x == y.1 with
                  | true => simp
                  | false => exact ih q
            exact this o3 z
          | some k => rfl
        have hvis : Vis (compEnvC scope (clOf X.env.cells scope.names []) C X.env).scope x := e3
        have hkx : (compEnvC scope (clOf X.env.cells scope.names []) C X.env).kindOf x = some .local ∨ (compEnvC scope (clOf X.env.cells scope.names []) C X.env).kindOf x = some .cell ∨ (compEnvC scope (clOf X.env.cells scope.names []) C X.env).kindOf x = some .free := hvis
        rcases hkx with z | z
        · exfalso
          rw [blk_kind] at z
          cases w : scope.names.lookup x with
          | none => rw [w] at z; cases z
          | some k =>
            rw [w] at z
            have z' : relK X.env x k = .local := Option.some.inj z
            unfold relK at z'
            split at z'
            · cases z'
            · subst z'
              -- a name that is local and taken along at once
              have := S.once x (mem_of_lookup w) o3
              exact this
        · exact z⟩
  cell := fun x c e => by
    obtain ⟨v, z⟩ := I.cell x c (blk_sub I S x c e)
    exact ⟨v, z.keeps k⟩
  free := I.hok.fresh hC
  freeC := fun x c e => I.freeC x c (blk_sub I S x c e)
  pin := fun p hp => nomatch hp
  hok := I.hok.kept k
  len := by
    show (takes ix σ).length = N'.length
    unfold takes
    rw [List.length_map]; exact S.len
/-- behind the block: the frame is let go, the list at D is tracked -/
theorem blk_back {C D : Addr} {h' : Heap} {s' : Shared} {H' : Hp} {σ' : St} {pins' : List (Addr × Obj)} {ys : List V} {its : List Value} {n : Nat} (I : Inv X pins σ H s) (hD : s.heap.objs.size ≤ D) (hDC : D < C) (hf : ∀ b ∈ fp, FpOk X pins H b)
    (I' : Inv (X.blk scope N' C s H (D :: fp)) pins' σ' H' s') (hs : Heap.SameBut C s'.heap h') (hDn : H' D = none) (hl : ys.length ≤ sizeLine) (rv : Vals ys its) (ho : s'.heap.get? D = some { cls := .type "list", data := .seq its.toArray n }) :
    Inv X pins σ (upd H' D (.lst ys)) { s' with heap := h' } := by
  have nD : ∀ b o, s.heap.get? b = some o → b ≠ D := fun b o e => Nat.ne_of_lt (Nat.lt_of_lt_of_le (Heap.lt_size e) hD)
  have nC : ∀ b o, s.heap.get? b = some o → b ≠ C := fun b o e => Nat.ne_of_lt (Nat.lt_trans (Nat.lt_of_lt_of_le (Heap.lt_size e) hD) hDC)
  have nt : ∀ b o, H b = some o → b ≠ D := fun b o e => Nat.ne_of_lt (Nat.lt_of_lt_of_le (I.hok.lt e) hD)
  have nx : ∀ b o, s.heap.get? b = some o → b ∉ fp → b ∉ D :: fp := fun b o e hb z => by
    rcases List.mem_cons.mp z with q | q
    · exact nD b o e q
    · exact hb q
  have ho' : h'.get? D = some { cls := .type "list", data := .seq its.toArray n } := (hs.2 D (Nat.ne_of_lt hDC)).trans ho
  have hbase : Un (frs X.stack) (D :: fp) H H' s.heap s'.heap := I'.base
  have hfreeC : H' C = none := I'.free
  refine I.call' (ch := fp) (s' := { s' with heap := h' }) I'.os ⟨fun b o e n hb hx => ?_, fun b o e n hb hx => ?_, fun b o e n hx => ?_, fun b o e hx => ?_, fun b xs e => ?_, fun b o u e => ?_, fun b ps e => ?_⟩ (fun b u e => ?_) I'.bare (fun b hb => ?_)
  · exact (hs.2 b (nC b o e)).trans (hbase.keep b o e n hb (nx b o e hx))
  · obtain ⟨sl, q⟩ := hbase.slot b o e n hb (nx b o e hx)
    exact ⟨sl, (hs.2 b (nC b o e)).trans q⟩
  · rw [upd_ne (nD b o e)]; exact hbase.free b o e n (nx b o e hx)
  · obtain ⟨o', q⟩ := hbase.there b o e (nx b o e hx)
    exact ⟨o', (hs.2 b (nC b o e)).trans q⟩
  · rw [upd_ne (nt b _ e)]; exact hbase.tups b xs e
  · rw [upd_ne (nt b _ e)]; exact hbase.frzs b o u e
  · rw [upd_ne (nt b _ e)]; exact hbase.tbls b ps e
  · by_cases hb : b = D
    · subst hb
      rw [upd_same] at e; cases e
      exact ⟨hl, its, n, rv, ho'⟩
    · rw [upd_ne hb] at e
      refine (I'.hok b u e).stay (fun c v hc q => (hs.2 c ?_).trans q) (fun c q => ?_) fun c xs q => ?_
      · rintro rfl
        rcases hc with z | z
        · subst z; rw [hfreeC] at e; cases e
        · rw [hfreeC] at z; cases z
      · rw [upd_ne (ne_of_none q hDn)]; exact q
      · rw [upd_ne (ne_of_none q hDn)]; exact q
  · exact ⟨(hf b hb).2.2.2.1, (hf b hb).2.1, (hf b hb).2.2.2.2.1, (hf b hb).2.2.2.2.2⟩
end

/-! ### the tests of a clause -/
def PIfs (X : Cx) (ifs : List Expr) (tc : TT) : Prop :=
  ∀ (pins : List (Addr × Obj)) (s : Shared) (σ : St) (H : Hp) (Q : Bool → Hp → Prop), Inv X pins σ H s → tc σ H Q →
    wpAny (model X.prog X.w) X.A (forIn ifs true fun c r => if r = true then do let ok ← isTrue c X.env (eval c X.env); pure (ForInStep.yield ok) else pure (ForInStep.yield r)) (TP X pins σ Q) X.xe s
def tYes : TT := fun _ H Q => Q true H
theorem pifs_nil {X : Cx} : PIfs X [] tYes := fun _ _ _ H _ I h => wpAny_tests_nil ⟨H, I, h⟩
theorem pifs_one {X : Cx} {c : Expr} {tc : TT} (hc : PT X c tc) : PIfs X [c] tc := fun pins s σ H Q I h => wpAny_tests_one (hc pins s σ H Q I h)

def TgOwn (g : TG) (own : List Nat) : Prop := ∀ v σ H (Q : St → Hp → Prop), g v σ H Q → g v σ H fun σ' H' => Q σ' H' ∧ σ'.length = σ.length ∧ ∀ k, k ∉ own → σ'[k]? = σ[k]?
theorem own_name {i : Nat} : TgOwn (gName i) [i] := fun v σ H Q h => ⟨h, List.length_set, fun k hk => List.getElem?_set_ne (fun e => hk (by simp [e]))⟩
/-- [elt for tg in iter if ..] -/
def tComp (wi : TI) (ix : List (Option Nat)) (g : TG) (tc : TT) (te : TE) : TE := fun σ H Q => wi σ H fun J H1 => ∃ (n : Nat) (Pv : Nat → List V → Hp → Prop), n ≤ sizeLine ∧ Pv 0 [] H1 ∧
  (∀ i ys H2, i < n → Pv i ys H2 → J.go i H2 ∧ ∀ x H3, J.yld i H2 x H3 → g x (takes ix σ) H3 fun σ4 H4 => tc σ4 H4 fun b H5 => if b = true then te σ4 H5 fun y H6 => Pv (i + 1) (ys ++ [y]) H6 else Pv (i + 1) ys H5) ∧
  ∀ ys H2, Pv n ys H2 → J.stop n H2 ∧ ∀ D, H2 D = none → Q (.ref D) (upd H2 D (.lst ys))

section
variable {X : Cx} {elt iter tg : Expr} {ifs : List Expr} {scope : Scope} {pos : Pos} {N' : List Str} {ix : List (Option Nat)} {own : List Nat} {wi : TI} {g : TG} {tc : TT} {te : TE}
theorem comp_core {use : Option (Value → Sem Unit)} {QQ : Value → Shared → Prop} (hcalm : X.calm = true) (S : CompScope X scope N' ix) (hown : ∀ k ∈ own, ix[k]? = some none) (hi : PI X tg iter wi)
    (hg : ∀ C s₂ H₂ ex, PG (X.blk scope N' C s₂ H₂ ex) tg g) (hgo : TgOwn g own) (hc : ∀ C s₂ H₂ ex, PIfs (X.blk scope N' C s₂ H₂ ex) ifs tc) (he : ∀ C s₂ H₂ ex, PE (X.blk scope N' C s₂ H₂ ex) elt te)
    (hs : ∀ x, foldedSetIterable iter X.env x = pure x) {pins : List (Addr × Obj)} {s : Shared} {σ : St} {H : Hp} {Q : VK} (I : Inv X pins σ H s) (h : tComp wi ix g tc te σ H Q)
    (hend : ∀ (s2 : Shared) (H2 : Hp) (fp : List Addr) (C D : Addr) (s4 : Shared) (H' : Hp) (ys : List V) (its : List Value) (k : Nat) (pins' : List (Addr × Obj)) (σ' : St), Inv X pins σ H2 s2 → s2.heap.objs.size ≤ D → D < C → (∀ b ∈ fp, FpOk X pins H2 b) →
      Inv (X.blk scope N' C s2 H2 (D :: fp)) pins' σ' H' s4 → H' D = none → ys.length ≤ sizeLine → Vals ys its → s4.heap.get? D = some { cls := .type "list", data := .seq its.toArray k } → Q (.ref D) (upd H' D (.lst ys)) →
      compPost (model X.prog X.w) X.A X.xe use QQ (.ref D) C (.ok .next) s4) (p' : Pos) :
    wpAny (model X.prog X.w) X.A (comprehension (.ListComp elt [⟨tg, iter, ifs, 0⟩] scope pos) scope X.env p' (newList []) false (eval iter X.env) use) QQ X.xe s := by
  refine wpAny_comprehension_free (use := use) (cl := clOf X.env.cells scope.names []) rfl hs (closureFor_of (blk_free I S)) S.kind S.own ?_
  refine thn (hi pins s σ H _ I h) fun v s1 h1 => thn h1 fun itv s2 h2 => ?_
  obtain ⟨it, fp, tn, J, H2, e, I2, T, st2, f2, n, Pv, hn, p0, turn, fin⟩ := h2
  subst e
  refine wpAny_newObj_type (wpAny_newFunctionEnv S.cell (by intro y hy; simp at hy) (fun h₁ hns₁ hsb₁ => ?_) S.kind)
  dsimp only at hns₁ hsb₁ ⊢
  generalize hH2 : s2.heap.push { cls := .type "list", dict := none, data := .seq ([] : List Value).toArray } = G2 at hns₁ hsb₁ ⊢
  have hC : G2.objs.size = s2.heap.objs.size + 1 := by rw [← hH2, Heap.size_push]
  have hDC : s2.heap.objs.size < G2.objs.size := by rw [hC]; exact Nat.lt_succ_self _
  have hCle : s2.heap.objs.size ≤ G2.objs.size := Nat.le_of_lt hDC
  have old : ∀ b o, s2.heap.get? b = some o → h₁.get? b = some o := fun b o e => hsb₁.extBut b o (Nat.ne_of_lt (Nat.lt_trans (Heap.lt_size e) hDC)) (Heap.get?_push_of_some _ (hH2 ▸ Heap.get?_push_of_some _ e))
  have hacc : h₁.get? s2.heap.objs.size = some { cls := .type "list", data := .seq #[] } := hsb₁.extBut _ _ (Nat.ne_of_lt hDC) (Heap.get?_push_of_some _ (hH2 ▸ Heap.get?_push_size _ rfl))
  have hDn : H2 s2.heap.objs.size = none := I2.hok.fresh (Nat.le_refl _)
  have fD : ∀ b ∈ s2.heap.objs.size :: fp, FpOk X pins H2 b := fun b hb => by
    rcases List.mem_cons.mp hb with q | q
    · rw [q]; exact I2.fpOk (Nat.le_refl _) hDn
    · exact f2 b q
  have lfp : ∀ b ∈ fp, b < s2.heap.objs.size := fun b hb => by
    obtain ⟨o, ho, _⟩ := T.obj 0 _ st2 b hb
    exact Heap.lt_size ho
  have lD : ∀ b ∈ s2.heap.objs.size :: fp, b < G2.objs.size := fun b hb => by
    rcases List.mem_cons.mp hb with q | q
    · rw [q]; exact hDC
    · exact Nat.lt_trans (lfp b q) hDC
  have I3 : Inv (X.blk scope N' G2.objs.size s2 H2 (s2.heap.objs.size :: fp)) [] (takes ix σ) H2 { s2 with heap := h₁, toks := s2.toks + ([] : List (Str × Value)).length } := blk_inv I2 S hCle fD lD old hns₁
  have st3 : tn 0 h₁ := T.keep 0 _ _ st2 fun b hb o e => old b o e
  have noxE : ∀ {α : Type} {t : Sem α} {Q' : α → Shared → Prop} {E' : Value → Shared → Prop} {s' : Shared}, wpAny (model X.prog X.w) X.A t Q' (fun _ _ => False) s' → wpAny (model X.prog X.w) X.A t Q' E' s' := fun w => wpAny_mono w (fun _ _ q => q) fun _ _ z => False.elim z
  -- a record of the block's own
  have fpB : ∀ {H' : Hp} {pins' : List (Addr × Obj)}, (∀ b ∈ s2.heap.objs.size :: fp, H' b = none) → pins' = [] → ∀ b ∈ s2.heap.objs.size :: fp, FpOk (X.blk scope N' G2.objs.size s2 H2 (s2.heap.objs.size :: fp)) pins' H' b := by
    intro H' pins' hn' hp b hb
    subst hp
    have ok := I3.ok
    exact ⟨hn' b hb, (ok.exf b hb).1, ok.exfs b hb, .inl hb, (ok.exf b hb).2, fun p hp => nomatch hp⟩
  have loop : ∀ s3 : Shared, s3 = { s2 with heap := h₁, toks := s2.toks + ([] : List (Str × Value)).length } →
      codeAny (model X.prog X.w) X.A (.compLoop (.ListComp elt [⟨tg, iter, ifs, 0⟩] scope pos) 0 (.ref it) (.ref s2.heap.objs.size) (compEnvC scope (clOf X.env.cells scope.names []) G2.objs.size X.env))
        (compPost (model X.prog X.w) X.A X.xe use QQ (.ref s2.heap.objs.size) G2.objs.size) s3 := by
    rintro s3 rfl
    refine codeAny_loop rfl (fun mm s' => ∃ i ys its k H', mm = n - i ∧ i ≤ n ∧ ys.length ≤ i ∧ Inv (X.blk scope N' G2.objs.size s2 H2 (s2.heap.objs.size :: fp)) [] (takes ix σ) H' s' ∧ tn i s'.heap ∧
        (∀ b ∈ s2.heap.objs.size :: fp, H' b = none) ∧ Vals ys its ∧ s'.heap.get? s2.heap.objs.size = some { cls := .type "list", data := .seq its.toArray k } ∧ Pv i ys H') ?_ n
      ⟨0, [], [], _, H2, rfl, Nat.zero_le _, Nat.le_refl _, I3, st3, fun b hb => (fD b hb).1, .nil, hacc, p0⟩
    rintro mm s' ⟨i, ys, its, k, H', rfl, hin, hyl, I', st', fr', rv, hob, pv⟩
    show wpAny _ X.A ((compTurn (.ListComp elt [⟨tg, iter, ifs, 0⟩] scope pos) 0 (.ref it) (.ref s2.heap.objs.size) (compEnvC scope (clOf X.env.cells scope.names []) G2.objs.size X.env)).onRaise (fun x => do noteFrame x (compEnvC scope (clOf X.env.cells scope.names []) G2.objs.size X.env); theTreesLotGoes x)) _ _ s'
    refine wpAny_noted ?_
    rw [compTurn_list]
    refine wpAny_bind (wpAny_standAt (wpAny_bind ?_))
    have fpT : ∀ b ∈ fp, FpOk (X.blk scope N' G2.objs.size s2 H2 (s2.heap.objs.size :: fp)) [] H' b := fun b hb => fpB fr' rfl b (List.mem_cons_of_mem _ hb)
    by_cases hlt : i < n
    · obtain ⟨go, step⟩ := turn i ys H' hlt pv
      -- the list is pinned while the iterator turns
      refine noxE (thn (T.item (X.blk scope N' G2.objs.size s2 H2 (s2.heap.objs.size :: fp)) rfl rfl rfl hcalm i [(s2.heap.objs.size, ({ cls := .type "list", data := .seq its.toArray k } : Obj))] s' _ H' (fun _ _ => False) (I'.pins_of fun p hp => ?_) (fun b hb => ?_) st' go) fun r s4 ⟨u, hr, h4⟩ => ?_)
      · obtain rfl := List.mem_singleton.mp hp
        refine ⟨hob, fr' _ List.mem_cons_self, Nat.ne_of_lt hDC, ?_, fun v z => ?_⟩
        · exact I3.ok.exfs _ List.mem_cons_self
        · have z' : Data.seq _ _ = Data.cell v := z
          cases z'
      · obtain ⟨f0, f1, f2', f3, f4, f5⟩ := fpT b hb
        refine ⟨f0, f1, f2', f3, f4, fun p hp => ?_⟩
        obtain rfl := List.mem_singleton.mp hp
        exact Nat.ne_of_gt (lfp b hb)
      · subst hr
        refine wpAny_bind (noxE (thn h4 fun _ s5 ⟨x, H5, I5, r5, y5, st5, fr5⟩ => ?_))
        -- from here on the iterator's records and the list are pinned
        have D5 := I5.pin (s2.heap.objs.size, ({ cls := .type "list", data := .seq its.toArray k } : Obj)) (by simp [Cx.blk])
        have fr5' : ∀ b ∈ s2.heap.objs.size :: fp, H5 b = none := fun b hb => by
          rcases List.mem_cons.mp hb with q | q
          · rw [q]; exact D5.2.1
          · exact fr5 b q
        have I5' : Inv (X.blk scope N' G2.objs.size s2 H2 (s2.heap.objs.size :: fp)) ([] ++ pinsAt (s2.heap.objs.size :: fp) s5.heap) (takes ix σ) H5 s5 :=
          (I5.pins_of (pins' := []) fun p hp => nomatch hp).pinned (fpB fr5' rfl) fun b hb => by
            rcases List.mem_cons.mp hb with q | q
            · subst q
              exact ⟨_, D5.1, D5.2.2.2.2⟩
            · exact T.obj _ _ st5 b q
        refine wpAny_bind (noxE (thn (hg _ _ _ _ _ s5 _ H5 x u _ I5' r5 (hgo _ _ _ _ (step x H5 y5))) fun _ s6 ⟨σ6, H6, I6, q6, l6, k6⟩ => ?_))
        refine wpAny_bind (noxE (thn (hc _ _ _ _ _ s6 σ6 H6 _ I6 q6) fun ok s7 ⟨H7, I7, q7⟩ => ?_))
        have back : ∀ {H8 : Hp} {s8 : Shared}, Inv (X.blk scope N' G2.objs.size s2 H2 (s2.heap.objs.size :: fp)) ([] ++ pinsAt (s2.heap.objs.size :: fp) s5.heap) σ6 H8 s8 →
            Inv (X.blk scope N' G2.objs.size s2 H2 (s2.heap.objs.size :: fp)) [] (takes ix σ) H8 s8 ∧ tn (i + 1) s8.heap ∧ (∀ b ∈ s2.heap.objs.size :: fp, H8 b = none) ∧ s8.heap.get? s2.heap.objs.size = some { cls := .type "list", data := .seq its.toArray k } := by
          intro H8 s8 I8
          have hp : ∀ b ∈ s2.heap.objs.size :: fp, ∀ o, s5.heap.get? b = some o → s8.heap.get? b = some o ∧ H8 b = none := fun b hb o e =>
            let z := I8.pin (b, o) (List.mem_append_right _ (List.mem_append_right _ (mem_pinsAt hb e)))
            ⟨z.1, z.2.1⟩
          refine ⟨(I8.pins_of (pins' := []) fun p hp => nomatch hp).weak (by rw [l6]) (fun j v ej => ?_), T.keep _ _ _ st5 (fun b hb o e => (hp b (List.mem_cons_of_mem _ hb) o e).1), fun b hb => ?_, (hp _ List.mem_cons_self _ D5.1).1⟩
          · by_cases hj : j ∈ own
            · exfalso
              have e1 : (ix[j]?).map (fun o => o.bind fun j => (σ[j]?).join) = some (some v) := by rw [← List.getElem?_map]; exact ej
              rw [hown j hj] at e1
              cases e1
            · rw [k6 j hj]; exact ej
          · rcases List.mem_cons.mp hb with q | q
            · rw [q]; exact (hp _ List.mem_cons_self _ D5.1).2
            · obtain ⟨o, ho, _⟩ := T.obj _ _ st5 b q
              exact (hp b hb o ho).2
        cases ok with
        | false =>
          have q7' : Pv (i + 1) ys H7 := by simpa using q7
          obtain ⟨b1, b2, b3, b4⟩ := back I7
          exact wpAny_pure ⟨rfl, n - (i + 1), by omega, i + 1, ys, its, k, H7, rfl, hlt, Nat.le_succ_of_le hyl, b1, b2, b3, rv, b4, q7'⟩
        | true =>
          have q7' : te σ6 H7 fun y H6 => Pv (i + 1) (ys ++ [y]) H6 := by simpa using q7
          refine wpAny_bind (wpAny_bind (noxE (thn (he _ _ _ _ _ s7 σ6 H7 _ I7 q7') fun z s8 ⟨y, H8, I8, r8, q8⟩ => ?_)))
          obtain ⟨b1, b2, b3, b4⟩ := back I8
          have hsz : its.toArray.size ≤ sizeLine := by rw [List.size_toArray, ← rv.length]; omega
          refine wpAny_bind (append_at (hsz := hsz) b4 fun h9 hs9 hD9 => ?_)
          · refine wpAny_pure (wpAny_pure ⟨rfl, n - (i + 1), by omega, i + 1, ys ++ [y], its ++ [z], k + 1, H8, rfl, hlt, ?_, ?_, ?_, b3, ?_, ?_, q8⟩)
            · rw [List.length_append, List.length_singleton]; exact Nat.succ_le_succ hyl
            · have fd := fpB b3 rfl _ List.mem_cons_self
              exact b1.turned (t' := s8.toks) (fun b o hb e => hs9.extBut b o hb e) fd.1 fd.2.1 fd.2.2.2.1 fd.2.2.2.2.1 fd.2.2.2.2.2
            · exact T.keep _ _ _ b2 fun b hb o e => hs9.extBut b o (Nat.ne_of_lt (lfp b hb)) e
            · exact rv.append (.cons r8 .nil)
            · rw [hD9]; simp
    · have hieq : i = n := by omega
      subst hieq
      obtain ⟨stop, qf⟩ := fin ys H' pv
      refine noxE (thn (T.done (X.blk scope N' G2.objs.size s2 H2 (s2.heap.objs.size :: fp)) rfl rfl rfl hcalm i [(s2.heap.objs.size, ({ cls := .type "list", data := .seq its.toArray k } : Obj))] s' _ H' (fun _ _ => False) (I'.pins_of fun p hp => ?_) (fun b hb => ?_) st' stop) fun r s4 ⟨hr, I4⟩ => ?_)
      · obtain rfl := List.mem_singleton.mp hp
        refine ⟨hob, fr' _ List.mem_cons_self, Nat.ne_of_lt hDC, ?_, fun v z => ?_⟩
        · exact I3.ok.exfs _ List.mem_cons_self
        · have z' : Data.seq _ _ = Data.cell v := z
          cases z'
      · obtain ⟨f0, f1, f2', f3, f4, f5⟩ := fpT b hb
        refine ⟨f0, f1, f2', f3, f4, fun p hp => ?_⟩
        obtain rfl := List.mem_singleton.mp hp
        exact Nat.ne_of_gt (lfp b hb)
      · subst hr
        have D4 := I4.pin (s2.heap.objs.size, ({ cls := .type "list", data := .seq its.toArray k } : Obj)) (by simp [Cx.blk])
        refine wpAny_pure ?_
        exact hend s2 H2 fp _ _ s4 H' ys its k _ _ I2 (Nat.le_refl _) hDC f2 I4 D4.2.1 (Nat.le_trans hyl hn) rv D4.1 (qf _ D4.2.1)
  refine codeAny_compStart_list (loop _ rfl) (T.self X.A 0 _ _ _ st3 (loop _ rfl))
theorem pe_comp (hcalm : X.calm = true) (S : CompScope X scope N' ix) (hown : ∀ k ∈ own, ix[k]? = some none) (hi : PI X tg iter wi)
    (hg : ∀ C s₂ H₂ ex, PG (X.blk scope N' C s₂ H₂ ex) tg g) (hgo : TgOwn g own) (hc : ∀ C s₂ H₂ ex, PIfs (X.blk scope N' C s₂ H₂ ex) ifs tc) (he : ∀ C s₂ H₂ ex, PE (X.blk scope N' C s₂ H₂ ex) elt te)
    (hs : ∀ x, foldedSetIterable iter X.env x = pure x := by intro _; rfl) :
    PE X (.ListComp elt [⟨tg, iter, ifs, 0⟩] scope pos) (tComp wi ix g tc te) := by
  intro pins s σ H Q I h
  rw [eval_ListComp]
  refine comp_core (use := none) hcalm S hown hi hg hgo hc he hs I h (fun s2 H2 fp C D s4 H' ys its k pins' σ' I2 hD hDC f2 I4 hDn hl rv ho q => ?_) _
  obtain ⟨m4, hn4, _⟩ := id I4.loc
  exact ⟨m4, hn4, fun h' hs' => ⟨.ref D, upd H' D (.lst ys), blk_back I2 hD hDC f2 I4 hs' hDn hl rv ho, rfl, q⟩⟩
/-- x = [elt for ..]: the name is stored ahead of the block's end -/
theorem ps_comp {i : Nat} {y : Str} {py spos : Pos} (hN : X.N.Nodup) (hyi : X.N[i]? = some y) (hyl : Loc X.env.scope y) (hcalm : X.calm = true) (S : CompScope X scope N' ix) (hown : ∀ k ∈ own, ix[k]? = some none) (hi : PI X tg iter wi)
    (hg : ∀ C s₂ H₂ ex, PG (X.blk scope N' C s₂ H₂ ex) tg g) (hgo : TgOwn g own) (hc : ∀ C s₂ H₂ ex, PIfs (X.blk scope N' C s₂ H₂ ex) ifs tc) (he : ∀ C s₂ H₂ ex, PE (X.blk scope N' C s₂ H₂ ex) elt te)
    (hsw : swapsWith (.ListComp elt [⟨tg, iter, ifs, 0⟩] scope pos) (some (.Name y py)) spos.line X.env = pure true := by rfl)
    (hs : ∀ x, foldedSetIterable iter X.env x = pure x := by intro _; rfl) (hf : X.fn y = true ∨ X.env.scope.names.lookup y = some .local := by first | exact .inl rfl | exact .inr rfl | assumption) :
    PS X (.Assign [.Name y py] (.ListComp elt [⟨tg, iter, ifs, 0⟩] scope pos) spos) (tAsg (tComp wi ix g tc te) (gName i)) := by
  intro pins s σ H D0 I h
  rw [exec_Assign_Name_used _ _ _ _ hsw]
  refine wpAny_bind (wpAny_standAt (wpAny_bind ?_))
  show wpAny _ X.A (do let _ ← comprehension (.ListComp elt [⟨tg, iter, ifs, 0⟩] scope pos) scope X.env _ (newList []) false (eval iter X.env) (some (assign (.Name y py) X.env))) _ _ s
  refine wpAny_bind (wpAny_mono (comp_core (use := some (assign (.Name y py) X.env)) (QQ := fun _ s' => SP X pins D0 .next s') hcalm S hown hi hg hgo hc he hs I h (fun s2 H2 fp C D s4 H' ys its k pins' σ' I2 hD hDC f2 I4 hDn hl rv ho q => ?_) _) (fun _ s' hq => wpAny_pure (wpAny_pure hq)) fun _ _ e => e)
  have J4 : Inv X pins σ (upd H' D (.lst ys)) s4 := blk_back I2 hD hDC f2 I4 (Heap.SameBut.refl C s4.heap) hDn hl rv ho
  obtain ⟨m4, hn4, _⟩ := id I4.loc
  have hCs : s2.heap.objs.size ≤ C := Nat.le_of_lt (Nat.lt_of_le_of_lt hD hDC)
  have cL : C ≠ X.env.locals := Nat.ne_of_gt (Nat.lt_of_lt_of_le I2.lt hCs)
  have cC : ∀ x c, X.env.cells.lookup x = some c → c ≠ C := fun x c e => by
    obtain ⟨v, q⟩ := I2.cell x c e
    exact Nat.ne_of_lt (Nat.lt_of_lt_of_le q.lt hCs)
  have cH : upd H' D (.lst ys) C = none := by rw [upd_ne (Nat.ne_of_gt hDC)]; exact I4.free
  show wpAny _ X.A (assign (.Name y py) X.env (.ref D)) _ _ s4
  refine wpAny_assign_Name (store_ok2 (v := .ref D) J4 hN hyi hyl rfl (fun s5 I5 ⟨a, sb, ha⟩ => ?_) hf)
  have ca : C ≠ a := by
    rcases ha with z | z
    · rw [z]; exact cL
    · exact fun w => cC _ _ z w.symm
  refine ⟨m4, hn4.sameBut sb ca, fun h' hs' => ?_⟩
  refine ⟨σ.set i (some (.ref D)), upd H' D (.lst ys), ?_, q⟩
  exact I5.turned (t' := s5.toks) (fun b o hb e => hs'.extBut b o hb e) cH cL (.inr (Nat.le_trans I2.sz hCs)) cC (fun p hp z => by
    have := Heap.lt_size (I2.pin p hp).1
    rw [z] at this
    exact absurd (Nat.lt_of_lt_of_le this hCs) (Nat.lt_irrefl _))
end
end L2

namespace L2
open PySem PySem.Spec PyProof.Rows

/-! ### a walk of the library's as a loop's source -/
section
variable {P : Program} {w : World} {K : PySem.W.Frag} {tg : Expr}
end
section
variable {X : Cx} {tg : Expr}
/-! ### all(list of bools), ''.join, isinstance -/
theorem ty_one {n : String} : ∀ cv u, RelV cv (.type n) → RelV cv u → u = .type n := by
  intro cv u h1 h2
  cases cv with
  | ty m =>
    have e1 : Value.type n = Value.type m := h1
    have e2 : u = Value.type m := h2
    rw [e2, e1]
  | non => cases (show Value.type n = Value.none from h1)
  | bl b => cases (show Value.type n = Value.bool b from h1)
  | int i => obtain ⟨t, e⟩ := (show ∃ t, Value.type n = Value.int i t from h1); cases e
  | str x => obtain ⟨t, e⟩ := (show ∃ t, Value.type n = Value.str x t from h1); cases e
  | byt b => obtain ⟨t, e⟩ := (show ∃ t, Value.type n = Value.bytes b t from h1); cases e
  | flt b => obtain ⟨t, e⟩ := (show ∃ t, Value.type n = Value.float b t from h1); cases e
  | ref a => cases (show Value.type n = Value.ref a from h1)
/-! ### () + t is t -/
def rCat0 (K : PySem.W.Frag) : R2 := fun x y H Q => ∃ a b ys, x = .ref a ∧ y = .ref b ∧ SqT K H a [] ∧ SqT K H b ys ∧ Q (.ref b) H
theorem op_cat0 : OpR X (binaryOp .Add) (rCat0 X.K) := by
  intro pins s σ H x y v u Q I rx ry h
  obtain ⟨a, b, ys, rfl, rfl, ha, hb, q⟩ := h
  cases rx
  cases ry
  obtain ⟨its, r1, p1, _⟩ := I.tuple ha
  obtain ⟨its2, r2, p2, _⟩ := I.tuple hb
  have e := Vals.zero r1
  subst e
  obtain ⟨⟨cls, dd, data, sl⟩, ho, hc, n, hd⟩ := id p1
  obtain ⟨⟨cls2, dd2, data2, sl2⟩, ho2, hc2, n2, hd2⟩ := id p2
  simp only at hc hd hc2 hd2
  subst hc hd hc2 hd2
  exact concat_meets ⟨_, ho, rfl⟩ ⟨_, ho2, rfl⟩ noFill_tuple_add seq_tuple_add PySem.F.slot_tuple_add PySem.F.entry_tuple_add (PySem.F.args_tuple_add_2 _ _)
      (tuple_addW0 a b [].toArray its2.toArray n n2 dd dd2 sl sl2 rfl) ⟨ho, ho2, ⟨.ref b, H, I, rfl, q⟩⟩
end
end L2

namespace L2
open PySem PySem.Spec PyProof.Rows

/-! ### a[::-1] -/
section
variable {prog : Program} {w : World} {A : Around} {E : Value → Shared → Prop} {s : Shared}
end
section
variable {X : Cx} {e st : Expr} {te : TE} {pos p2 p3 p4 : Pos}
end
end L2

namespace L2
open PySem PySem.Spec PyProof.Rows

/-! ### data that stands in the heap -/
mutual
def Has (H : Hp) : V → PyData → Prop
  | v, .none => v = .non
  | v, .bool b => v = .bl b
  | v, .int i => v = .int i
  | v, .str x => v = .str x
  | v, .list ds => ∃ a xs, v = .ref a ∧ H a = some (.lst xs) ∧ HasL H xs ds
  | v, .tuple ds => ∃ a xs, v = .ref a ∧ H a = some (.tup xs) ∧ HasL H xs ds
  | _, .dict _ => False
def HasL (H : Hp) : List V → List PyData → Prop
  | xs, [] => xs = []
  | xs, d :: ds => ∃ x r, xs = x :: r ∧ Has H x d ∧ HasL H r ds
end
mutual
theorem Has.same {H H' : Hp} (e : Same H H') : ∀ {v : V} {d : PyData}, Has H v d → Has H' v d
  | v, .none, h => by unfold Has at h ⊢; exact h
  | v, .bool b, h => by unfold Has at h ⊢; exact h
  | v, .int i, h => by unfold Has at h ⊢; exact h
  | v, .str x, h => by unfold Has at h ⊢; exact h
  | v, .list ds, h => by
    unfold Has at h ⊢
    obtain ⟨a, xs, h1, h2, h3⟩ := h
    exact ⟨a, xs, h1, e _ _ h2, HasL.same e h3⟩
  | v, .tuple ds, h => by
    unfold Has at h ⊢
    obtain ⟨a, xs, h1, h2, h3⟩ := h
    exact ⟨a, xs, h1, e _ _ h2, HasL.same e h3⟩
  | v, .dict kvs, h => by unfold Has at h; exact h.elim
theorem HasL.same {H H' : Hp} (e : Same H H') : ∀ {xs : List V} {ds : List PyData}, HasL H xs ds → HasL H' xs ds
  | xs, [], h => by unfold HasL at h ⊢; exact h
  | xs, d :: ds, h => by
    unfold HasL at h ⊢
    obtain ⟨x, r, h1, h2, h3⟩ := h
    exact ⟨x, r, h1, Has.same e h2, HasL.same e h3⟩
end
theorem HasL.length {H : Hp} : ∀ {xs : List V} {ds : List PyData}, HasL H xs ds → xs.length = ds.length
  | xs, [], h => by unfold HasL at h; subst h; rfl
  | xs, d :: ds, h => by
    unfold HasL at h
    obtain ⟨x, r, rfl, h2, h3⟩ := h
    simp [HasL.length h3]
theorem HasL.get {H : Hp} : ∀ {xs : List V} {ds : List PyData} {i : Nat} {d : PyData}, HasL H xs ds → ds[i]? = some d → ∃ x, xs[i]? = some x ∧ Has H x d
  | xs, [], i, d, h, e => by simp at e
  | xs, d' :: ds, 0, d, h, e => by
    unfold HasL at h
    obtain ⟨x, r, rfl, h2, h3⟩ := h
    simp at e; subst e
    exact ⟨x, rfl, h2⟩
  | xs, d' :: ds, i + 1, d, h, e => by
    unfold HasL at h
    obtain ⟨x, r, rfl, h2, h3⟩ := h
    obtain ⟨y, h4, h5⟩ := HasL.get (i := i) h3 (by simpa using e)
    exact ⟨y, by simpa using h4, h5⟩
theorem HasL.append {H : Hp} : ∀ {xs ys : List V} {ds es : List PyData}, HasL H xs ds → HasL H ys es → HasL H (xs ++ ys) (ds ++ es)
  | xs, ys, [], es, h, h' => by unfold HasL at h; subst h; simpa using h'
  | xs, ys, d :: ds, es, h, h' => by
    unfold HasL at h
    obtain ⟨x, r, rfl, h2, h3⟩ := h
    show HasL H (x :: (r ++ ys)) (d :: (ds ++ es))
    unfold HasL
    exact ⟨x, r ++ ys, rfl, h2, HasL.append h3 h'⟩
theorem hasL_nil {H : Hp} : HasL H [] [] := by unfold HasL; rfl
theorem hasL_cons {H : Hp} {x : V} {xs : List V} {d : PyData} {ds : List PyData} (h : Has H x d) (t : HasL H xs ds) : HasL H (x :: xs) (d :: ds) := by unfold HasL; exact ⟨x, xs, rfl, h, t⟩
theorem has_int {H : Hp} (i : Int) : Has H (.int i) (.int i) := by unfold Has; rfl
theorem has_str {H : Hp} (x : Str) : Has H (.str x) (.str x) := by unfold Has; rfl
theorem has_lst {H : Hp} {a : Addr} {xs : List V} {ds : List PyData} (h : H a = some (.lst xs)) (t : HasL H xs ds) : Has H (.ref a) (.list ds) := by unfold Has; exact ⟨a, xs, rfl, h, t⟩
theorem has_tup {H : Hp} {a : Addr} {xs : List V} {ds : List PyData} (h : H a = some (.tup xs)) (t : HasL H xs ds) : Has H (.ref a) (.tuple ds) := by unfold Has; exact ⟨a, xs, rfl, h, t⟩

section
variable {X : Cx} {pins : List (Addr × Obj)} {σ : St} {H : Hp} {s : Shared}
mutual
theorem has_reads (I : Inv X pins σ H s) : ∀ {v : V} {d : PyData} {u : Value}, Has H v d → RelV v u → ∃ as, Reads s.heap u d as
  | v, .none, u, h, r => by unfold Has at h; subst h; cases (show u = Value.none from r); exact ⟨_, .none⟩
  | v, .bool b, u, h, r => by unfold Has at h; subst h; cases (show u = Value.bool b from r); exact ⟨_, .bool b⟩
  | v, .int i, u, h, r => by unfold Has at h; subst h; obtain ⟨t, rfl⟩ := r; exact ⟨_, .int i t⟩
  | v, .str x, u, h, r => by unfold Has at h; subst h; obtain ⟨t, rfl⟩ := r; exact ⟨_, .str x t⟩
  | v, .list ds, u, h, r => by
    unfold Has at h
    obtain ⟨a, xs, rfl, h2, h3⟩ := h
    cases (show u = Value.ref a from r)
    obtain ⟨z, its, n, rv, e⟩ := (show ObjOk X.prog X.w H s.heap a (.lst xs) from I.hok a _ h2)
    obtain ⟨as, ra⟩ := hasL_reads I h3 rv
    exact ⟨_, .list e rfl rfl (by simpa using ra)⟩
  | v, .tuple ds, u, h, r => by
    unfold Has at h
    obtain ⟨a, xs, rfl, h2, h3⟩ := h
    cases (show u = Value.ref a from r)
    obtain ⟨z, its, rv, p⟩ := (show ObjOk X.prog X.w H s.heap a (.tup xs) from I.hok a _ h2)
    obtain ⟨o, e, c, n, d⟩ := p
    obtain ⟨as, ra⟩ := hasL_reads I h3 rv
    exact ⟨_, .tuple e c d (by simpa using ra)⟩
  | v, .dict kvs, u, h, r => by unfold Has at h; exact h.elim
theorem hasL_reads (I : Inv X pins σ H s) : ∀ {xs : List V} {ds : List PyData} {us : List Value}, HasL H xs ds → Vals xs us → ∃ as, ReadsAll s.heap us ds as
  | xs, [], us, h, r => by
    unfold HasL at h
    subst h
    cases Vals.zero r
    exact ⟨_, .nil⟩
  | xs, d :: ds, us, h, r => by
    unfold HasL at h
    obtain ⟨x, rr, rfl, h2, h3⟩ := h
    cases r with
    | cons r1 r2 =>
      obtain ⟨as, a1⟩ := has_reads I h2 r1
      obtain ⟨bs, a2⟩ := hasL_reads I h3 r2
      exact ⟨_, .cons a1 a2⟩
end
/-- == and != of data -/
def rEqD : R2 := fun x y H Q => ∃ d e, Has H x d ∧ Has H y e ∧ SeqAt.shaped d = true ∧ SeqAt.shaped e = true ∧ Q (.bl (PyData.eqv d e)) H
def rNeD : R2 := fun x y H Q => ∃ d e, Has H x d ∧ Has H y e ∧ SeqAt.shaped d = true ∧ SeqAt.shaped e = true ∧ Q (.bl (!PyData.eqv d e)) H
theorem op_eqD (hu : X.A.units + 64 < cLine) : OpR X (compareOp .Eq) rEqD := by
  rintro pins s σ H x y v u Q I rx ry ⟨d, e, h1, h2, s1, s2, q⟩
  obtain ⟨as, r1⟩ := has_reads I h1 rx
  obtain ⟨bs, r2⟩ := has_reads I h2 ry
  exact eq_dataH r1 r2 s1 s2 hu ⟨.bl _, H, I, rfl, q⟩
theorem op_neD (hu : X.A.units + 64 < cLine) : OpR X (compareOp .NotEq) rNeD := by
  rintro pins s σ H x y v u Q I rx ry ⟨d, e, h1, h2, s1, s2, q⟩
  obtain ⟨as, r1⟩ := has_reads I h1 rx
  obtain ⟨bs, r2⟩ := has_reads I h2 ry
  exact ne_dataH r1 r2 s1 s2 hu ⟨.bl _, H, I, rfl, q⟩
end

/-! ### a def that is called by its name -/
structure Callee (P : Program) (w : World) (K : PySem.W.Frag) (mg : Str → Option Value) (base : Heap) (k : Nat) (x : Str) (ps : List Str) (sp : Sp) : Prop where
  ex : ∃ f fd, FnOk P w K mg base CX0 k f fd ps sp ∧ mg x = some (.ref f) ∧ PySem.W.keepIn K (.ref f) = true ∧ Binds K fd ps []
section
variable {X : Cx} {k : Nat} {x : Str} {ps : List Str} {sp : Sp} {e : Expr} {es : List Expr} {t : TA} {p pos : Pos}
theorem pe_fn (C : Callee X.prog X.w X.K X.mg X.base k x ps sp) (hr : Room k X.A) (ha : PA X (e :: es) t) (hg : Gl X x := by rfl) (hdb : (x == ("__debug__" : Str)) = false := by decide)
    (he : starEach (e :: es) X.env = (false, eval e X.env) :: starEach es X.env := by rfl) (hpl : (backTo pos (starEach es X.env)).any (·.1) = false := by rfl) :
    PE X (.Call (.Name x p) (e :: es) [] pos) (tCall sp [] E0 t) := by
  obtain ⟨f, fd, F, hm, hk, hb⟩ := C.ex
  exact pe_call F hr hg hm hk hb .nil pass0 ha hdb he hpl
theorem pe_fn0 (C : Callee X.prog X.w X.K X.mg X.base k x ps sp) (hr : Room k X.A) (hg : Gl X x := by rfl) (hdb : (x == ("__debug__" : Str)) = false := by decide) :
    PE X (.Call (.Name x p) [] [] pos) (tCall sp [] E0 tNil) := by
  obtain ⟨f, fd, F, hm, hk, hb⟩ := C.ex
  exact pe_call0 F hr hg hm hk hb .nil pass0 hdb
end

/-! ### the scope of a comprehension, by a look -/
def visB (o : Option NameKind) : Bool := o == some .local || o == some .cell || o == some .free
def compOk (osc : Scope) (ON : List Str) (scope : Scope) (N' : List Str) (ix : List (Option Nat)) : Bool :=
  scope.kind == .function && scope.names.all (fun y => y.2 != .cell) && scope.names.all (fun y => y.2 != .local || scope.names.lookup y.1 == some .local) &&
  scope.names.all (fun y => y.2 != .free || (osc.names.lookup y.1 == some .cell || osc.names.lookup y.1 == some .free)) &&
  scope.names.all (fun y => y.2 != .local || !(scope.names.any fun z => z.1 == y.1 && z.2 == .free)) && ix.length == N'.length &&
  (List.range ix.length).all fun i => match ix[i]? with
    | some (some j) => ON[j]? == N'[i]? && (match N'[i]? with | some x => (scope.names.any fun z => z.1 == x && z.2 == .free) && visB (osc.names.lookup x) | none => true)
    | _ => true
theorem cs_of {X : Cx} {osc : Scope} {ON : List Str} {scope : Scope} {N' : List Str} {ix : List (Option Nat)} (h1 : X.env.scope = osc) (h2 : X.N = ON) (h : compOk osc ON scope N' ix = true) : CompScope X scope N' ix := by
  unfold compOk at h
  simp only [Bool.and_eq_true] at h
  obtain ⟨⟨⟨⟨⟨⟨a1, a2⟩, a3⟩, a4⟩, a5⟩, a6⟩, a7⟩ := h
  rw [List.all_eq_true] at a2 a3 a4 a5 a7
  refine ⟨eq_of_beq a1, fun y hy => by simpa using a2 y hy, fun y hy hl => ?_, fun y hy hl => ?_, fun x h3 h4 => ?_, eq_of_beq a6, fun i j hij => ?_⟩
  · have := a3 y hy
    rw [hl] at this
    simpa using this
  · have := a4 y hy
    rw [hl] at this
    have e : X.env.kindOf y.1 = osc.names.lookup y.1 := by rw [← h1]; rfl
    rw [e]
    simpa using this
  · have := a5 _ h3
    simp only [bne_self_eq_false, Bool.false_or, Bool.not_eq_true'] at this
    rw [List.any_eq_false] at this
    have z := this _ h4
    simp at z
  · have hi : i < ix.length := (List.getElem?_eq_some_iff.mp hij).1
    have := a7 i (List.mem_range.mpr hi)
    rw [hij] at this
    simp only [Bool.and_eq_true] at this
    obtain ⟨b1, b2⟩ := this
    refine ⟨by rw [h2]; exact eq_of_beq b1, fun x hx => ?_⟩
    rw [hx] at b2
    simp only [Bool.and_eq_true] at b2
    obtain ⟨c1, c2⟩ := b2
    obtain ⟨z, hz, hz2⟩ := List.any_eq_true.mp c1
    simp only [Bool.and_eq_true, beq_iff_eq] at hz2
    obtain ⟨z1, z2⟩ := z
    obtain ⟨rfl, rfl⟩ := hz2
    refine ⟨hz, ?_⟩
    unfold visB at c2
    simp only [Bool.or_eq_true, beq_iff_eq] at c2
    unfold Vis
    rw [h1]
    rcases c2 with (c2 | c2) | c2
    · exact .inl c2
    · exact .inr (.inl c2)
    · exact .inr (.inr c2)

/-! ### isinstance of data -/
/-! ### heaps that grow -/
theorem Same.new {H : Hp} {p : Addr} {o : HO} (h : H p = none) : Same H (upd H p o) := fun b u e => by rw [upd_ne (ne_of_none e h)]; exact e
theorem Same.tup {K : PySem.W.Frag} {H H' : Hp} (e : Same H H') {a : Addr} {xs : List V} (h : SqT K H a xs) : SqT K H' a xs := by
  rcases h with (h | ⟨o, h⟩) | h
  · exact .inl (.inl (e _ _ h))
  · exact .inl (.inr ⟨o, e _ _ h⟩)
  · exact .inr h
theorem SqT.ofT {K : PySem.W.Frag} {H : Hp} {a : Addr} {xs : List V} (h : H a = some (.tup xs)) : SqT K H a xs := .inl (.inl h)
theorem SqL.ofL {K : PySem.W.Frag} {H : Hp} {a : Addr} {xs : List V} (h : H a = some (.lst xs)) : SqL K H a xs := .inl (.inl h)
theorem rd_yes {σ : St} {H : Hp} {Q : Bool → Hp → Prop} (h : Q true H) : tYes σ H Q := h
theorem rd_name {i : Nat} {v : V} {σ : St} {H : Hp} {Q : St → Hp → Prop} (h : Q (σ.set i (some v)) H) : gName i v σ H Q := h
end L2
namespace L2
open PySem PySem.Spec PyProof.Rows
section
variable {X : Cx}
/-- xs == [], xs != [] -/
def rEq0 (K : PySem.W.Frag) : R2 := fun x y H Q => ∃ a b xs, x = .ref a ∧ y = .ref b ∧ SqL K H a xs ∧ SqL K H b [] ∧ Q (.bl xs.isEmpty) H
def rNe0 (K : PySem.W.Frag) : R2 := fun x y H Q => ∃ a b xs, x = .ref a ∧ y = .ref b ∧ SqL K H a xs ∧ SqL K H b [] ∧ Q (.bl (!xs.isEmpty)) H
theorem op_eq0 (hu : X.A.units < cLine) : OpR X (compareOp .Eq) (rEq0 X.K) := by
  rintro pins s σ H x y v u Q I rx ry ⟨a, b, xs, rfl, rfl, ha, hb, q⟩
  cases rx; cases ry
  obtain ⟨its, r1, p1, _⟩ := I.list ha
  obtain ⟨its2, r2, p2, _⟩ := I.list hb
  cases Vals.zero r2
  by_cases h : xs = []
  · subst h
    cases Vals.zero r1
    exact SeqAt.RcAt.lists (e := fun _ => true) p1.isList p2.isList rfl hu (fun j h1 _ => absurd h1 (by simp)) _ _ _ _ ⟨.bl true, H, I, rfl, q⟩
  · have e : xs.isEmpty = false := by simpa using h
    rw [e] at q
    have hl := r1.length
    refine SeqAt.RcAt.lists_lengths p1.isList p2.isList ?_ hu _ _ _ _ ⟨.bl false, H, I, rfl, q⟩
    have : xs.length ≠ 0 := fun z => h (List.length_eq_zero_iff.mp z)
    simp; intro z; subst z; simp at hl; exact this (by simpa using hl)
theorem op_ne0 (hu : X.A.units < cLine) : OpR X (compareOp .NotEq) (rNe0 X.K) := by
  rintro pins s σ H x y v u Q I rx ry ⟨a, b, xs, rfl, rfl, ha, hb, q⟩
  cases rx; cases ry
  obtain ⟨its, r1, p1, _⟩ := I.list ha
  obtain ⟨its2, r2, p2, _⟩ := I.list hb
  cases Vals.zero r2
  by_cases h : xs = []
  · subst h
    cases Vals.zero r1
    exact SeqAt.RcNeAt.lists (e := fun _ => true) p1.isList p2.isList rfl hu (fun j h1 _ => absurd h1 (by simp)) _ _ _ _ ⟨.bl false, H, I, rfl, q⟩
  · have e : xs.isEmpty = false := by simpa using h
    rw [e] at q
    have hl := r1.length
    refine SeqAt.RcNeAt.lists_lengths p1.isList p2.isList ?_ hu _ _ _ _ ⟨.bl true, H, I, rfl, q⟩
    have : xs.length ≠ 0 := fun z => h (List.length_eq_zero_iff.mp z)
    simp; intro z; subst z; simp at hl; exact this (by simpa using hl)
end
end L2
namespace L2
open PySem PySem.Spec PyProof.Rows
section
variable {X : Cx}
/-- t + u of tuples, whatever is empty -/
def rCatU : R2 := fun x y H Q => ∃ a b xs ys, x = .ref a ∧ y = .ref b ∧ H a = some (.tup xs) ∧ H b = some (.tup ys) ∧ xs.length + ys.length ≤ sizeLine ∧ ∀ p H', Same H H' → H' p = some (.tup (xs ++ ys)) → Q (.ref p) H'
theorem op_catU : OpR X (binaryOp .Add) rCatU := by
  rintro pins s σ H x y v u Q I rx ry ⟨a, b, xs, ys, rfl, rfl, ha, hb, hz, q⟩
  by_cases hx : xs = []
  · subst hx
    exact op_cat0 pins s σ H (.ref a) (.ref b) v u Q I rx ry ⟨a, b, ys, rfl, rfl, SqT.ofT ha, SqT.ofT hb, q b H (Same.refl H) hb⟩
  · refine op_catT pins s σ H (.ref a) (.ref b) v u Q I rx ry ⟨a, b, xs, ys, rfl, rfl, SqT.ofT ha, SqT.ofT hb, hx, hz, fun e => ?_, fun e p hp => q p _ (Same.new hp) upd_same⟩
    subst e
    exact q a H (Same.refl H) (by rw [List.append_nil]; exact ha)
end
end L2
namespace L2
end L2

namespace L2
open PySem PySem.Spec PyProof.Rows
/-! ### argument lists whose looks are cheap -/
def plainE : Expr → Bool
  | .Starred _ _ => false
  | _ => true
theorem star_of {e : Expr} {es : List Expr} {env : Env} (h : plainE e = true) : starEach (e :: es) env = (false, eval e env) :: starEach es env := by
  cases e <;> first | rfl | (exact absurd (show false = true from h) Bool.false_ne_true)
structure PAs (X : Cx) (es : List Expr) (t : TA) : Prop where
  pa : PA X es t
  st : ∀ env, starEach es env = es.map fun e => (false, eval e env)
section
variable {X : Cx} {e : Expr} {es : List Expr} {te : TE} {t : TA} {pos p : Pos} {x : Str} {k : Nat} {ps : List Str} {sp : Sp} {id T : String} {r : List V → Hp → VK → Prop}
theorem as_nil : PAs X [] tNil := ⟨pa_nil, fun _ => rfl⟩
theorem as_cons (ha : PE X e te) (hr : PAs X es t) (hp : plainE e = true := by rfl) : PAs X (e :: es) (tCons te t) :=
  ⟨pa_cons ha hr.pa (star_of hp), fun env => by rw [star_of hp, hr.st]; rfl⟩
theorem back_any (pos : Pos) (env : Env) : ∀ es : List Expr, (backTo pos (es.map fun e => (false, eval e env))).any (·.1) = false
  | [] => rfl
  | e :: es => by
    show (false || (backTo pos (es.map fun e => (false, eval e env))).any (·.1)) = false
    rw [back_any pos env es]; rfl
theorem PAs.he (h : PAs X (e :: es) t) (ht : ∀ env, starEach es env = es.map fun e => (false, eval e env)) : starEach (e :: es) X.env = (false, eval e X.env) :: starEach es X.env := by
  rw [h.st, ht]; rfl
/-- the tail is plain as well -/
structure PAt (X : Cx) (e : Expr) (es : List Expr) (t : TA) : Prop where
  all : PAs X (e :: es) t
  tl : ∀ env, starEach es env = es.map fun e => (false, eval e env)
theorem at_cons (ha : PE X e te) (hr : PAs X es t) (hp : plainE e = true := by rfl) : PAt X e es (tCons te t) := ⟨as_cons ha hr hp, hr.st⟩
theorem as_lst (h : PAs X es t) : PE X (.List es pos) (tLst t) := pe_lst h.pa
theorem as_tup {x1} (h : PAs X es t) : PE X (.Tuple es x1 pos) (tTup t) := pe_tup h.pa
theorem as_fn (C : Callee X.prog X.w X.K X.mg X.base k x ps sp) (hr : Room k X.A) (ha : PAt X e es t) (hg : Gl X x := by rfl) (hdb : (x == ("__debug__" : Str)) = false := by decide) :
    PE X (.Call (.Name x p) (e :: es) [] pos) (tCall sp [] E0 t) := pe_fn C hr ha.all.pa hg hdb (ha.all.he ha.tl) (by rw [ha.tl]; exact back_any _ _ _)
theorem as_callB (hc : CallR X (.builtin id) r) (hg : Gl X x) (hm : X.mg x = none) (hv : bootBuiltins x = some (.builtin id)) (ha : PAt X e es t) (hn : x ≠ "__name__" := by decide) (hdb : (x == ("__debug__" : Str)) = false := by decide) :
    PE X (.Call (.Name x p) (e :: es) [] pos) (tCB r t) := pe_callB hc hg hm hv ha.all.pa hn hdb (ha.all.he ha.tl) (by rw [ha.tl]; exact back_any _ _ _)
theorem as_callTy (hc : CallR X (.type T) r) (hg : Gl X x) (hm : X.mg x = none) (hv : bootBuiltins x = some (.type T)) (ha : PAt X e es t) (hn : x ≠ "__name__" := by decide) (hdb : (x == ("__debug__" : Str)) = false := by decide) :
    PE X (.Call (.Name x p) (e :: es) [] pos) (tCB r t) := pe_callTy hc hg hm hv ha.all.pa hn hdb (ha.all.he ha.tl) (by rw [ha.tl]; exact back_any _ _ _)
end

/-! ### the rules with the written part named (a block's own context is not to be in a reading) -/
section
variable {X : Cx} {e a : Expr} {te : TE} {tg : Expr} (K : PySem.W.Frag)
theorem k_ix_list (h : X.K = K := by rfl) : IxR X (rIxL K) := h ▸ ix_list
theorem k_ix_tup (h : X.K = K := by rfl) : IxR X (rIxT K) := h ▸ ix_tup
theorem k_len_seq (h : X.K = K := by rfl) : CallR X (.builtin "len") (fun xs H Q => ∃ p ys, xs = [.ref p] ∧ (SqL K H p ys ∨ SqT K H p ys) ∧ Q (.int ys.length) H) := h ▸ call_len_seq
theorem k_list_of (h : X.K = K := by rfl) : CallR X (.type "list") (fun xs H Q => ∃ p ys, xs = [.ref p] ∧ (SqL K H p ys ∨ SqT K H p ys) ∧ ∀ l, H l = none → Q (.ref l) (upd H l (.lst ys))) := h ▸ call_list_of
theorem k_eq0 (hu : X.A.units < cLine) (h : X.K = K := by rfl) : OpR X (compareOp .Eq) (rEq0 K) := h ▸ op_eq0 hu
theorem k_ne0 (hu : X.A.units < cLine) (h : X.K = K := by rfl) : OpR X (compareOp .NotEq) (rNe0 K) := h ▸ op_ne0 hu
theorem k_it_list (he : PE X e te) (h : X.K = K := by rfl) : PI X tg e (iList K te) := h ▸ pi_list he
theorem k_fld {f : Str} {pos : Pos} (he : PE X e te) (hb : attributeBase e f X.env (eval e X.env) = eval e X.env) (h : X.K = K := by rfl) : PE X (.Attribute e f pos) (tFld K te f) := h ▸ pe_fld he hb
theorem k_tup {es : List Expr} {k : Nat} {t : TGs} {n : Nat} {pos : Pos} (hc : X.calm = true) (hs : PGs X es t) (h : X.K = K := by rfl)
    (hn : (assignEach es X.env).length = n := by rfl) (hst : (assignEach es X.env).findIdx? (·.1) = none := by rfl) : PG X (.Tuple es k pos) (gTup K n t) := h ▸ pg_tup hc hs hn hst
theorem k_bm {o : Expr} {es : List Expr} {to : TE} {t : TA} {name : Str} {apos cpos : Pos} {T id : String} {r : V → List V → Hp → VK → Prop} (pa : PlainAttrs T) (slot : Slot T name id) (hty : typeOf (.builtin id) = pure (.type "method_descriptor")) (hm : MtR X id r) (ho : PE X o to) (ha : PA X (e :: es) t) (h : X.K = K := by rfl)
    (hbase : attributeBase o name X.env (eval o X.env) = eval o X.env := by rfl)
    (hfew : ((backTo cpos (starEach (e :: es) X.env)).all (fun x => !x.1) && (backToKw cpos (keywordEach [] X.env)).all (fun x => x.1.isSome)
      && decide ((e :: es).length + ([] : List Keyword).length + (if ([] : List Keyword).isEmpty then 0 else 1) < 30)) = true := by rfl)
    (hline : (apos.endLine == cpos.line) = true := by rfl) (hs : starEach (e :: es) X.env = (false, eval e X.env) :: starEach es X.env := by rfl) (hplain : (backTo cpos (starEach es X.env)).any (·.1) = false := by rfl) :
    PE X (.Call (.Attribute o name apos) (e :: es) [] cpos) (tBM K T r to t) := h ▸ pe_bm pa slot hty hm ho ha hbase hfew hline hs hplain
end
end L2

namespace L2
open PySem PySem.Spec PyProof.Rows
section
variable {X : Cx} {pins : List (Addr × Obj)} {σ : St} {H : Hp} {s : Shared}
/-- an object of ours that was not tracked is tracked from here on -/
theorem Inv.track {D : Addr} {o : HO} (I : Inv X pins σ H s) (f : FpOk X pins H D) (ok : ObjOk X.prog X.w (upd H D o) s.heap D o) : Inv X pins σ (upd H D o) s := by
  obtain ⟨f0, f1, f2, f3, f4, f5⟩ := f
  have nt : ∀ b u, H b = some u → b ≠ D := fun b u e => ne_of_none e f0
  have r := I.step (H' := upd H D o) (h' := s.heap) (g' := s.gens) (d' := s.drawn) (t' := s.toks) (ch := [D]) (fun b hb => by
      obtain rfl : b = D := by simpa using hb
      exact ⟨f3, f1, f4, f5⟩) (fun b ob _ _ _ e _ => e) (fun b ob _ _ _ e _ => ⟨ob.slots, e⟩)
    (fun b ob hb _ n => by rw [upd_ne (fun z => hb (by simp [z]))]; exact n) (fun b ob _ e => ⟨ob, e⟩) (fun b xs e => by rw [upd_ne (nt b _ e)]; exact e) (fun b ob u e => by rw [upd_ne (nt b _ e)]; exact e)
    (fun b ps e => ⟨#[], by rw [upd_ne (nt b _ e), e]; simp⟩) (fun m hm => hm) (fun b u e => by
      by_cases hb : b = D
      · subst hb; rw [upd_same] at e; cases e; exact ok
      · rw [upd_ne hb] at e
        exact (I.hok b u e).stay (fun c v _ q => q) (fun c q => by rw [upd_ne (nt c _ q)]; exact q) fun c xs q => by rw [upd_ne (nt c _ q)]; exact q) I.bare
  exact r
theorem Inv.upd1 {a : Addr} {f : Array Value → Array Value} {t' : Nat} (I : Inv X pins σ H s) (fa : FpOk X pins H a) : Inv X pins σ H { s with heap := s.heap.update a (Obj.mapSeq f), toks := t' } :=
  I.turned (fun b o hb e => (Heap.SameBut.update s.heap a (Obj.mapSeq f)).extBut b o hb e) fa.1 fa.2.1 fa.2.2.2.1 fa.2.2.2.2.1 fa.2.2.2.2.2
end

section
variable {X : Cx} {pins : List (Addr × Obj)} {σ : St} {H : Hp} {s : Shared} {A : Around} {E : Value → Shared → Prop} {a kS : Addr} {vs : List Value} {kz : List Int} {keys : Array Value} {e e1 : Nat} {P : PySem.Fin → Shared → Prop}
end
end L2

namespace L2
open PySem PySem.Spec PyProof.Rows
/-- the items of a thing that may be walked, by values -/
def Coll (X : Cx) (x : V) (H : Hp) (xs : List V) : Prop :=
  ∀ (pins : List (Addr × Obj)) (s : Shared) (σ : St) (v : Value) (A : Around) (E : Value → Shared → Prop) (Q : List Value → Shared → Prop), Inv X pins σ H s → RelV x v → A.handled = none →
    (∀ vs s', Vals xs vs → Inv X pins σ H s' → Q vs s') → wpAny (model X.prog X.w) A (collect v) Q E s
section
variable {X : Cx}
/-- a list is walked -/
theorem coll_list {a : Addr} {H : Hp} {xs : List V} (h : SqL X.K H a xs) : Coll X (.ref a) H xs := by
  intro pins s σ v A E Q I r hh hq
  cases r
  obtain ⟨its, rv, pl, hz⟩ := I.list h
  refine collect_list pl.isList (hq its _ rv ?_) (by rw [← rv.length]; exact hz)
  refine I.kept (t' := s.toks) fun b o e => ?_
  have hb : b ≠ s.heap.objs.size := Nat.ne_of_lt (Heap.lt_size e)
  exact (Heap.get?_update_other _ _ (Ne.symm hb)).trans (Heap.get?_push_of_some _ e)
/-- d.values() -/
def ValsO (p d : Addr) : HO := .ext fun h => h.IsValuesView p d
theorem kv_vals : ∀ {kvs : List (Key × V)} {ws : List (Key × Value)}, KV kvs ws → Vals (kvs.map (·.2)) (ws.map (·.2))
  | _, _, .nil => .nil
  | _, _, .cons r t => .cons r.2 (kv_vals t)
theorem view_at {pins : List (Addr × Obj)} {σ : St} {H : Hp} {s : Shared} {p d : Addr} {kvs : List (Key × V)} (I : Inv X pins σ H s) (hp : H p = some (ValsO p d)) (hd : H d = some (.dK kvs)) :
    ∃ ws ep, KV kvs ws ∧ kvs.length ≤ sizeLine ∧ s.heap.IsValuesView p d ∧ s.heap.DictAt (mixKind X.prog X.w) d ws ep := by
  obtain ⟨hz, lo, ws, rk, hD⟩ := (show ObjOk X.prog X.w H s.heap d (.dK kvs) from I.hok d _ hd)
  obtain ⟨hv, _, _⟩ := (show ObjOk X.prog X.w H s.heap p (ValsO p d) from I.hok p _ hp)
  obtain ⟨ep, hat⟩ := hD.dictAt
  exact ⟨ws, ep, rk, hz, hv, hat⟩
theorem items_vals {ws : List (Key × Value)} {acc : Array Value} (h : ItemsOf (fun i v => ∃ k, ws[i]? = some (k, v)) acc ws.length) : acc.toList = ws.map (·.2) :=
  PySem.W.kdl_vals_eq acc.toList (by rw [Array.length_toList]; exact h.1) fun j v e => h.2 j v (by rw [← Array.getElem?_toList]; exact e)
theorem coll_vals {p d : Addr} {H : Hp} {kvs : List (Key × V)} (hp : H p = some (ValsO p d)) (hd : H d = some (.dK kvs)) : Coll X (.ref p) H (kvs.map (·.2)) := by
  intro pins s σ v A E Q I r hh hq
  cases r
  obtain ⟨ws, ep, rk, hz, hv, hat⟩ := view_at I hp hd
  have hl : kvs.length = ws.length := Paired.length rk
  have kp : ∀ b o, s.heap.get? b = some o → (s.heap.push (seqObj "list" #[] 0)).get? b = some o := fun b o e => Heap.get?_push_of_some _ e
  have hv' : (s.heap.push (seqObj "list" #[] 0)).IsValuesView p d := let ⟨o, e, x⟩ := hv; ⟨o, kp _ _ e, x⟩
  have hat' : (s.heap.push (seqObj "list" #[] 0)).DictAt (mixKind X.prog X.w) d ws ep := hat.at' fun o e => kp _ _ e
  have lp : p < s.heap.objs.size := let ⟨o, e, _⟩ := hv; Heap.lt_size e
  have ld : d < s.heap.objs.size := hat.lt_size
  unfold collect
  refine wpAny_bind (wpAny_runValue (codeAny_builtin entry_proto_collect' ?_))
  show wpAny _ _ (do again (.builtin "list.__iadd__" ⟨[← newList [], .ref p], []⟩)) _ _ s
  refine wpAny_bind (wpAny_newList (wpAny_pure ⟨Code.quiet_builtin _ (by decide +kernel), codeAny_builtin entry_list_iadd' ?_⟩))
  show wpAny _ _ (Builtin.List.listExtendWith (.ref s.heap.objs.size) (.ref p) (.ref s.heap.objs.size)) _ _ { s with heap := s.heap.push (seqObj "list" #[] 0) }
  rw [Around.under_plainId (show plainId "list.__iadd__" = true by decide +kernel) _]
  have fin : ∀ s' : Shared, (∃ acc c, s'.heap.get? s.heap.objs.size = some { cls := .type "list", dict := none, data := .seq acc c, slots := #[] } ∧ acc.toList = ws.map (·.2) ∧ Inv X pins σ H s') →
      wpAny (model X.prog X.w) A (do
        let o ← load s.heap.objs.size
        match o.data with
        | .seq xs _ => pure xs.toList
        | _ => unsupported "internal:collect") Q E s' := by
    rintro s' ⟨acc, c, hS, e, I'⟩
    refine wpAny_bind (wpAny_load hS ?_)
    show wpAny _ _ (pure acc.toList) Q E _
    exact wpAny_pure (hq _ _ (by rw [e]; exact kv_vals rk) I')
  refine wpAny_mono (PySem.W.kdl_extend (R := fun r s' => r = .ok (.ret (.ref s.heap.objs.size)) ∧ ∃ acc c, s'.heap.get? s.heap.objs.size = some { cls := .type "list", dict := none, data := .seq acc c, slots := #[] } ∧ acc.toList = ws.map (·.2) ∧ Inv X pins σ H s')
    (s := { s with heap := s.heap.push (seqObj "list" #[] 0) }) (PySem.W.kdl_values (knd := mixKind X.prog X.w) (kvs := ws) (ep := ep)) hh ⟨hv', hat'⟩ s.heap.objs.size (Nat.ne_of_gt lp) (Nat.ne_of_gt ld) _ 0 (Heap.get?_push_size _ rfl) (fun h' tk acc c hk hS hacc => ?_) (show ws.length ≤ sizeLine by omega))
    (fun fi s' hf => ?_) (fun e s' he => nomatch he.1)
  · exact ⟨rfl, acc, c, hS, items_vals hacc, I.kept fun b o eb => hk b o (Nat.ne_of_lt (Heap.lt_size eb)) (kp b o eb)⟩
  · cases fi with
    | done f =>
      obtain ⟨e, g⟩ := hf
      cases e
      exact fin s' g
    | again c' =>
      refine ⟨hf.1, codeAny_mono hf.2 fun r s2 ⟨e, g⟩ => ?_⟩
      subst e
      exact fin s2 g
end

/-! ### sorted(x, key=number_of), of messages -/
/-- what an item of a tuple of three is, asked of a def -/
def spItem (i : Nat) : Sp := fun vs H Q _ => ∃ a x y z, vs = [.ref a] ∧ H a = some (.tup [x, y, z]) ∧ Q ([x, y, z].getD i .non) H
def CollV (K : PySem.W.Frag) (x : V) (H : Hp) (xs : List V) : Prop :=
  (∃ a, x = .ref a ∧ SqL K H a xs) ∨ ∃ p d kvs, x = .ref p ∧ H p = some (ValsO p d) ∧ H d = some (.dK kvs) ∧ xs = kvs.map (·.2)
theorem CollV.coll {X : Cx} {x : V} {H : Hp} {xs : List V} (h : CollV X.K x H xs) : Coll X x H xs := by
  rcases h with ⟨a, rfl, h⟩ | ⟨p, d, kvs, rfl, hp, hd, rfl⟩
  · exact coll_list h
  · exact coll_vals hp hd
theorem Vals.back : ∀ {xs : List V} {vs : List Value} {i : Nat} {v : Value}, Vals xs vs → vs[i]? = some v → ∃ x, xs[i]? = some x ∧ RelV x v
  | _, _, _, _, .nil, e => by simp at e
  | _, _, 0, _, .cons r _, e => by simp at e; subst e; exact ⟨_, rfl, r⟩
  | _, _, i + 1, v, .cons _ t, e => by
    obtain ⟨u, h1, h2⟩ := Vals.back (i := i) (v := v) t (by simpa using e)
    exact ⟨u, by simpa using h1, h2⟩
section
variable {X : Cx} {e : Expr} {te : TE} {p p2 kpos pos : Pos} {x : Str} {ps : List Str}
end
end L2

namespace L2
open PySem PySem.Spec PyProof.Rows PySem.W
/-! ### sorted(x) of messages that rise already -/
theorem getD_range (vs : List Value) : (List.range vs.length).map (fun i => vs.getD i Value.none) = vs := by
  refine List.ext_getElem (by simp) fun i h1 h2 => ?_
  simp at h1
  simp [List.getD, h1]
section
variable {X : Cx} {pins : List (Addr × Obj)} {σ : St} {H : Hp} {s : Shared} {A : Around} {E : Value → Shared → Prop} {a : Addr} {vs : List Value} {P : PySem.Fin → Shared → Prop}
end
end L2

/-! Messages, tables and gaps, by themselves. -/
namespace L2
open PySem
/-! ### messages, by themselves -/
structure Msg where
  n : Int
  t : Str
  x : Str
deriving DecidableEq
/-- l rises by numbers -/
def Rise (l : List Msg) : Prop := l.Pairwise fun p q => p.n < q.n
theorem Rise.nil : Rise [] := List.Pairwise.nil
theorem rise_ext : ∀ {l r : List Msg}, Rise l → Rise r → (∀ m, m ∈ l ↔ m ∈ r) → l = r
  | [], [], _, _, _ => rfl
  | [], b :: r, _, _, h => absurd ((h b).mpr List.mem_cons_self) List.not_mem_nil
  | a :: l, [], _, _, h => absurd ((h a).mp List.mem_cons_self) List.not_mem_nil
  | a :: l, b :: r, h1, h2, h => by
    obtain ⟨a1, a2⟩ := List.pairwise_cons.mp h1
    obtain ⟨b1, b2⟩ := List.pairwise_cons.mp h2
    have e : a = b := by
      rcases List.mem_cons.mp ((h a).mp List.mem_cons_self) with e | e
      · exact e
      · rcases List.mem_cons.mp ((h b).mpr List.mem_cons_self) with e' | e'
        · exact e'.symm
        · have := a1 b e'; have := b1 a e; omega
    subst e
    refine congrArg (a :: ·) (rise_ext a2 b2 fun m => ⟨fun hm => ?_, fun hm => ?_⟩)
    · rcases List.mem_cons.mp ((h m).mp (List.mem_cons_of_mem _ hm)) with e | e
      · subst e; have := a1 m hm; omega
      · exact e
    · rcases List.mem_cons.mp ((h m).mpr (List.mem_cons_of_mem _ hm)) with e | e
      · subst e; have := b1 m hm; omega
      · exact e
/-- m is the last of its topic in ms -/
def Top (ms : List Msg) (m : Msg) : Prop := m ∈ ms ∧ ∀ k ∈ ms, k.t = m.t → k.n ≤ m.n
def Lasts (ms ls : List Msg) : Prop := Rise ls ∧ ∀ m, m ∈ ls ↔ Top ms m
theorem Top.perm {ms ms' : List Msg} {m : Msg} (h : ms.Perm ms') : Top ms m ↔ Top ms' m :=
  ⟨fun ⟨a, b⟩ => ⟨h.mem_iff.mp a, fun k hk => b k (h.mem_iff.mpr hk)⟩, fun ⟨a, b⟩ => ⟨h.mem_iff.mpr a, fun k hk => b k (h.mem_iff.mp hk)⟩⟩
theorem Lasts.perm {ms ms' ls : List Msg} (h : ms.Perm ms') (l : Lasts ms ls) : Lasts ms' ls := ⟨l.1, fun m => (l.2 m).trans (Top.perm h)⟩
theorem Lasts.uniq {ms l r : List Msg} (h1 : Lasts ms l) (h2 : Lasts ms r) : l = r := rise_ext h1.1 h2.1 fun m => (h1.2 m).trans (h2.2 m).symm
/-- the numbers differ -/
def Diff (ms : List Msg) : Prop := (ms.map (·.n)).Nodup
theorem Rise.diff {l : List Msg} (h : Rise l) : Diff l := by
  unfold Diff List.Nodup
  rw [List.pairwise_map]
  exact h.imp fun hlt => Int.ne_of_lt hlt
theorem Diff.perm {l r : List Msg} (h : l.Perm r) (d : Diff l) : Diff r := (h.map _).nodup_iff.mp d
theorem Diff.eq : ∀ {ms : List Msg}, Diff ms → ∀ {a b : Msg}, a ∈ ms → b ∈ ms → a.n = b.n → a = b
  | [], _, a, b, ha, _, _ => absurd ha List.not_mem_nil
  | m :: ms, d, a, b, ha, hb, e => by
    unfold Diff at d
    rw [List.map_cons, List.nodup_cons] at d
    rcases List.mem_cons.mp ha with h1 | h1 <;> rcases List.mem_cons.mp hb with h2 | h2
    · rw [h1, h2]
    · exact absurd (List.mem_map.mpr ⟨b, h2, by rw [← e, h1]⟩) d.1
    · exact absurd (List.mem_map.mpr ⟨a, h1, by rw [e, h2]⟩) d.1
    · exact Diff.eq d.2 h1 h2 e
theorem Top.topic {ms : List Msg} (d : Diff ms) {a b : Msg} (ha : Top ms a) (hb : Top ms b) (e : a.t = b.t) : a = b :=
  Diff.eq d ha.1 hb.1 (Int.le_antisymm (hb.2 a ha.1 e) (ha.2 b hb.1 e.symm))
/-! ### tables from topics on -/
section
variable {α β : Type}
def putD (D : List (Str × α)) (t : Str) (d : α) : List (Str × α) := if D.any (fun p => decide (p.1 = t)) = true then D.map fun p => if p.1 = t then (p.1, d) else p else D ++ [(t, d)]
/-- all put, one behind the other -/
def puts (D : List (Str × α)) (l : List (Str × α)) : List (Str × α) := l.foldl (fun D p => putD D p.1 p.2) D
end
/-- the newest of each topic -/
def kM (m : Msg) : Str × Msg := (m.t, m)
def newest (ms : List Msg) : List (Str × Msg) := puts [] (ms.map kM)
/-! ### gaps -/
end L2

namespace L2
open PySem PySem.Spec PyProof.Rows PySem.W
/-! ### sorted(x) of messages that rise already -/
section
variable {X : Cx}
end
/-! ### == of tables of texts -/
section
variable {X : Cx}
end
/-! ### messages in the heap -/
def mD (m : Msg) : PyData := .tuple [.int m.n, .str m.t, .str m.x]
def mT (m : Msg) : HO := .tup [.int m.n, .str m.t, .str m.x]
def mOk (m : Msg) : Prop := PyData.strOk m.t = true ∧ PyData.strOk m.x = true
theorem has_msg {H : Hp} {v : V} {m : Msg} (h : Has H v (mD m)) : ∃ c, v = .ref c ∧ H c = some (mT m) := by
  unfold mD Has at h
  obtain ⟨a, xs, rfl, h1, h2⟩ := h
  unfold HasL at h2
  obtain ⟨x1, r1, rfl, e1, h2⟩ := h2
  unfold HasL at h2
  obtain ⟨x2, r2, rfl, e2, h2⟩ := h2
  unfold HasL at h2
  obtain ⟨x3, r3, rfl, e3, h2⟩ := h2
  unfold HasL at h2
  subst h2
  unfold Has at e1 e2 e3
  subst e1 e2 e3
  exact ⟨a, rfl, h1⟩
theorem msg_has {H : Hp} {c : Addr} {m : Msg} (h : H c = some (mT m)) : Has H (.ref c) (mD m) := has_tup h (hasL_cons (has_int _) (hasL_cons (has_str _) (hasL_cons (has_str _) hasL_nil)))
/-- the list xs holds the messages ms -/
def Ms (H : Hp) (xs : List V) (ms : List Msg) : Prop := HasL H xs (ms.map mD)
theorem Ms.same {H H' : Hp} {xs : List V} {ms : List Msg} (h : Ms H xs ms) (e : Same H H') : Ms H' xs ms := HasL.same e h
theorem Ms.nil {H : Hp} : Ms H [] [] := hasL_nil
theorem Ms.len {H : Hp} {xs : List V} {ms : List Msg} (h : Ms H xs ms) : xs.length = ms.length := by have := HasL.length h; rw [List.length_map] at this; exact this
theorem Ms.append {H : Hp} {xs ys : List V} {ms ns : List Msg} (h : Ms H xs ms) (h' : Ms H ys ns) : Ms H (xs ++ ys) (ms ++ ns) := by unfold Ms; rw [List.map_append]; exact HasL.append h h'
theorem Ms.one {H : Hp} {c : Addr} {m : Msg} (h : H c = some (mT m)) : Ms H [.ref c] [m] := hasL_cons (msg_has h) hasL_nil
theorem Ms.get {H : Hp} {xs : List V} {ms : List Msg} (h : Ms H xs ms) {i : Nat} (hi : i < ms.length) : ∃ c, xs[i]? = some (.ref c) ∧ H c = some (mT ms[i]) := by
  obtain ⟨x, e, hx⟩ := HasL.get (i := i) (d := mD ms[i]) h (by rw [List.getElem?_map, List.getElem?_eq_getElem hi]; rfl)
  obtain ⟨c, rfl, hc⟩ := has_msg hx
  exact ⟨c, e, hc⟩
theorem Ms.cons_iff {H : Hp} {x : V} {xs : List V} {ms : List Msg} : Ms H (x :: xs) ms ↔ ∃ m r, ms = m :: r ∧ Has H x (mD m) ∧ Ms H xs r := by
  cases ms with
  | nil =>
    constructor
    · intro h; unfold Ms at h; rw [List.map_nil] at h; unfold HasL at h; exact absurd h (by simp)
    · rintro ⟨m, r, e, _⟩; exact absurd e (by simp)
  | cons m r =>
    constructor
    · intro h
      unfold Ms at h; rw [List.map_cons] at h; unfold HasL at h
      obtain ⟨x', r', e, h1, h2⟩ := h
      cases e
      exact ⟨m, r, rfl, h1, h2⟩
    · rintro ⟨m', r', e, h1, h2⟩
      cases e
      exact hasL_cons h1 h2
theorem Ms.head {H : Hp} {x : V} {xs : List V} {m : Msg} {r : List Msg} (h : Ms H (x :: xs) (m :: r)) : Has H x (mD m) ∧ Ms H xs r := by
  obtain ⟨m', r', e, h1, h2⟩ := Ms.cons_iff.mp h
  cases e
  exact ⟨h1, h2⟩
theorem Ms.take {H : Hp} : ∀ {xs : List V} {ms : List Msg} (n : Nat), Ms H xs ms → Ms H (xs.take n) (ms.take n)
  | [], [], n, h => by simpa using Ms.nil
  | [], m :: r, n, h => by have := h.len; simp at this
  | x :: xs, [], n, h => by have := h.len; simp at this
  | x :: xs, m :: r, 0, h => by simpa using Ms.nil
  | x :: xs, m :: r, n + 1, h => hasL_cons h.head.1 (Ms.take n h.head.2)
theorem Ms.drop {H : Hp} : ∀ {xs : List V} {ms : List Msg} (n : Nat), Ms H xs ms → Ms H (xs.drop n) (ms.drop n)
  | [], [], n, h => by simpa using Ms.nil
  | [], m :: r, n, h => by have := h.len; simp at this
  | x :: xs, [], n, h => by have := h.len; simp at this
  | x :: xs, m :: r, 0, h => h
  | x :: xs, m :: r, n + 1, h => Ms.drop n h.head.2
theorem lay_ms : ∀ {ms : List Msg}, (∀ m ∈ ms, mOk m) → PyData.canLayAll0 (ms.map mD) = true
  | [], _ => by simp [PyData.canLayAll0]
  | m :: r, h => by
    obtain ⟨h1, h2⟩ := h m List.mem_cons_self
    simp [PyData.canLayAll0, PyData.canLay0, mD, h1, h2, lay_ms fun k hk => h k (List.mem_cons_of_mem _ hk)]
theorem depth_ms : ∀ ms : List Msg, PyData.depthAll (ms.map mD) ≤ 3
  | [] => by simp [PyData.depthAll]
  | m :: r => by
    have := depth_ms r
    simp only [List.map_cons, PyData.depthAll, PyData.depth, mD]
    omega
theorem shaped_ms {ms : List Msg} (h : ∀ m ∈ ms, mOk m) : SeqAt.shaped (.list (ms.map mD)) = true := by
  have h1 := depth_ms ms
  have h2 : PyData.depth (.list (ms.map mD)) ≤ 64 := by simp only [PyData.depth]; omega
  show (PyData.canLay0 (.list (ms.map mD)) && decide (PyData.depth (.list (ms.map mD)) ≤ 64)) = true
  rw [Bool.and_eq_true]
  exact ⟨by simp only [PyData.canLay0]; exact lay_ms h, decide_eq_true h2⟩
/-! ### a table from topics to messages -/
inductive DM (H : Hp) : List (Key × V) → List (Str × Msg) → Prop
  | nil : DM H [] []
  | cons {t : Str} {v : V} {m : Msg} {r : List (Key × V)} {D : List (Str × Msg)} : Has H v (mD m) → DM H r D → DM H ((Sum.inr t, v) :: r) ((t, m) :: D)
theorem DM.same {H H' : Hp} (e : Same H H') : ∀ {kvs : List (Key × V)} {D : List (Str × Msg)}, DM H kvs D → DM H' kvs D
  | _, _, .nil => .nil
  | _, _, .cons h t => .cons (h.same e) (DM.same e t)
theorem DM.len {H : Hp} : ∀ {kvs : List (Key × V)} {D : List (Str × Msg)}, DM H kvs D → kvs.length = D.length
  | _, _, .nil => rfl
  | _, _, .cons _ t => by rw [List.length_cons, List.length_cons, DM.len t]
theorem DM.ms {H : Hp} : ∀ {kvs : List (Key × V)} {D : List (Str × Msg)}, DM H kvs D → Ms H (kvs.map (·.2)) (D.map (·.2))
  | _, _, .nil => Ms.nil
  | _, _, .cons h t => hasL_cons h (DM.ms t)
theorem DM.any {H : Hp} (t : Str) : ∀ {kvs : List (Key × V)} {D : List (Str × Msg)}, DM H kvs D → (kvs.any fun kv => decide (kv.1 = Sum.inr t)) = D.any fun p => decide (p.1 = t)
  | _, _, .nil => rfl
  | _, _, .cons (t := t') h r => by
    rw [List.any_cons, List.any_cons, DM.any t r]
    congr 1
    exact decide_eq_decide.mpr ⟨fun z => Sum.inr.inj z, fun z => congrArg Sum.inr z⟩
theorem DM.repl {H : Hp} (t : Str) {v : V} {m : Msg} (h : Has H v (mD m)) : ∀ {kvs : List (Key × V)} {D : List (Str × Msg)}, DM H kvs D → DM H (kvs.map fun kv => if kv.1 = Sum.inr t then (kv.1, v) else kv) (D.map fun p => if p.1 = t then (p.1, m) else p)
  | _, _, .nil => .nil
  | _, _, .cons (t := t') h' r => by
    rw [List.map_cons, List.map_cons]
    by_cases e : t' = t
    · rw [if_pos (by rw [e]), if_pos e]; exact .cons h (DM.repl t h r)
    · rw [if_neg (fun z => e (by injection z)), if_neg e]; exact .cons h' (DM.repl t h r)
theorem DM.snoc {H : Hp} (t : Str) {v : V} {m : Msg} (h : Has H v (mD m)) : ∀ {kvs : List (Key × V)} {D : List (Str × Msg)}, DM H kvs D → DM H (kvs ++ [(Sum.inr t, v)]) (D ++ [(t, m)])
  | _, _, .nil => .cons h .nil
  | _, _, .cons h' r => .cons h' (DM.snoc t h r)
theorem DM.put {H : Hp} (t : Str) {v : V} {m : Msg} (h : Has H v (mD m)) {kvs : List (Key × V)} {D : List (Str × Msg)} (d : DM H kvs D) : DM H (putK kvs (Sum.inr t) v) (putD D t m) := by
  unfold putK putD
  rw [d.any t]
  split
  · exact d.repl t h
  · exact d.snoc t h
/-! ### sorted by numbers -/
end L2

namespace L2
open PySem PySem.Spec PyProof.Rows PySem.W
/-- what was not there may be changed -/
theorem Same.put {H H' : Hp} (e : Same H H') {p : Addr} {o : HO} (h : H p = none) : Same H (upd H' p o) := fun b u hb => by
  rw [upd_ne (fun z => by rw [z, h] at hb; cases hb)]; exact e b u hb
theorem flt_succ {α : Type} {ms : List α} {i : Nat} (hi : i < ms.length) {b : α → Bool} : (ms.take (i + 1)).filter b = (ms.take i).filter b ++ if b ms[i] = true then [ms[i]] else [] := by
  rw [List.take_add_one, List.getElem?_eq_getElem hi, List.filter_append]
  show _ ++ List.filter b [ms[i]] = _
  rw [List.filter_cons]; rfl
/-! ### the promises of the program's message functions -/
/-- topics: None, or a list of texts -/
def TopV (K : PySem.W.Frag) (H : Hp) (tv : V) (ts : Option (List Str)) : Prop := (tv = .non ∧ ts = none) ∨ ∃ b l, tv = .ref b ∧ SqL K H b (l.map V.str) ∧ ts = some l
theorem TopV.same {K : PySem.W.Frag} {H H' : Hp} {tv : V} {ts : Option (List Str)} (h : TopV K H tv ts) (e : Same H H') : TopV K H' tv ts := by
  rcases h with h | ⟨b, l, h1, h2, h3⟩
  · exact .inl h
  · exact .inr ⟨b, l, h1, e.seq h2, h3⟩
def ofT : Option (List Str) → List Msg → List Msg
  | none, ms => ms
  | some l, ms => ms.filter fun m => decide (m.t ∈ l)
/-! ### data without lists stands while a list is written -/
mutual
def noLst : PyData → Bool
  | .list _ => false
  | .dict _ => false
  | .tuple ds => noLstA ds
  | _ => true
def noLstA : List PyData → Bool
  | [] => true
  | d :: ds => noLst d && noLstA ds
end
theorem noLst_ms : ∀ ms : List Msg, noLstA (ms.map mD) = true
  | [] => by simp [noLstA]
  | m :: r => by simp [noLstA, noLst, mD, noLst_ms r]
theorem HasL.split {H : Hp} {e : PyData} : ∀ {xs : List V} {ds : List PyData}, HasL H xs (ds ++ [e]) → ∃ ys y, xs = ys ++ [y] ∧ HasL H ys ds ∧ Has H y e
  | xs, [], h => by
    rw [List.nil_append] at h
    unfold HasL at h
    obtain ⟨x, r, rfl, h1, h2⟩ := h
    unfold HasL at h2
    subst h2
    exact ⟨[], x, rfl, hasL_nil, h1⟩
  | xs, d :: ds, h => by
    rw [List.cons_append] at h
    unfold HasL at h
    obtain ⟨x, r, rfl, h1, h2⟩ := h
    obtain ⟨ys, y, rfl, h3, h4⟩ := HasL.split h2
    exact ⟨x :: ys, y, rfl, hasL_cons h1 h3, h4⟩
end L2
namespace L2
open PySem PySem.Spec PyProof.Rows PySem.W
/-! ### the law's own helpers -/
def Rows (ms : List Msg) : Prop := ∀ i (h : i < ms.length), ms[i].n = (i : Int) + 1
theorem Rows.nil : Rows [] := fun i h => absurd h (by simp)
theorem Rows.snoc {ms : List Msg} {m : Msg} (h : Rows ms) (e : m.n = (ms.length : Int) + 1) : Rows (ms ++ [m]) := by
  intro i hi
  rw [List.length_append, List.length_singleton] at hi
  by_cases hl : i < ms.length
  · rw [List.getElem_append_left hl]; exact h i hl
  · have e' : i = ms.length := by omega
    subst e'
    rw [List.getElem_append_right (Nat.le_refl _)]
    simpa using e
theorem Rows.rise {ms : List Msg} (h : Rows ms) : Rise ms := by
  refine List.pairwise_iff_getElem.mpr fun i j hi hj hij => ?_
  rw [h i hi, h j hj]; omega
/-! data without lists stands while a table is written -/
end L2

namespace L2
open PySem PySem.Spec PyProof.Rows PySem.W
/-! ### methods and classes, by their promises -/
structure CalleeM (P : Program) (w : World) (K : PySem.W.Frag) (mg : Str → Option Value) (base : Heap) (k : Nat) (C : Addr) (m : Str) (ps : List Str) (sp : Sp) : Prop where
  ex : ∃ f fd, FnOk P w K mg base CX0 k f fd ps sp ∧ Meth K C m f ∧ Binds K fd ps []
structure CalleeI (P : Program) (w : World) (K : PySem.W.Frag) (mg : Str → Option Value) (base : Heap) (k : Nat) (C : Addr) (ps : List Str) (sp : Sp) : Prop where
  ex : ∃ f fd, FnOk P w K mg base CX0 k f fd ps sp ∧ Mk K C f ∧ Binds K fd ps []
section
variable {X : Cx} {k : Nat} {C : Addr} {m x : Str} {ps : List Str} {sp : Sp} {o e : Expr} {es : List Expr} {ta tv : TE} {t : TA} {p apos pos pos' : Pos}
theorem as_meth {pl : Sem Bool} (M : CalleeM X.prog X.w X.K X.mg X.base k C m ps sp) (c : Cls X.K C) (hr : Room k X.A) (he : PE X o ta) (ha : PAt X e es t)
    (ht : eval (.Call (.Attribute o m apos) (e :: es) [] pos) X.env = (do
      let ov ← eval o X.env
      standAt apos.atName
      let (f, first) ← holding [ov] (getMethod ov m pl)
      callWith pos f first (backTo pos (starEach (e :: es) X.env)) (backToKw pos (keywordEach [] X.env))) := by rfl) :
    PE X (.Call (.Attribute o m apos) (e :: es) [] pos) (tMeth C m sp [] E0 ta t) := by
  obtain ⟨f, fd, F, hm, hb⟩ := M.ex
  exact pe_meth (pl := pl) he c hm F hr hb .nil pass0 ha.all.pa (ha.all.he ha.tl) (by rw [ha.tl]; exact back_any _ _ _) ht
theorem as_meth0 {pl : Sem Bool} (M : CalleeM X.prog X.w X.K X.mg X.base k C m ps sp) (c : Cls X.K C) (hr : Room k X.A) (he : PE X o ta)
    (ht : eval (.Call (.Attribute o m apos) [] [] pos) X.env = (do
      let ov ← eval o X.env
      standAt apos.atName
      let (f, first) ← holding [ov] (getMethod ov m pl)
      callWith pos f first (backTo pos (starEach [] X.env)) (backToKw pos (keywordEach [] X.env))) := by rfl) :
    PE X (.Call (.Attribute o m apos) [] [] pos) (tMeth C m sp [] E0 ta tNil) := by
  obtain ⟨f, fd, F, hm, hb⟩ := M.ex
  exact pe_meth0 (pl := pl) he c hm F hr hb .nil pass0 ht
theorem as_make0 (M : CalleeI X.prog X.w X.K X.mg X.base k C ps sp) (hr : Room (k + 1) X.A) (hm : X.mg x = some (.ref C)) (hg : Gl X x := by rfl) (hdb : (x == ("__debug__" : Str)) = false := by decide) :
    PE X (.Call (.Name x p) [] [] pos) (tMake C sp [] E0 tNil) := by
  obtain ⟨f, fd, F, hM, hb⟩ := M.ex
  exact pe_make0 hM F hr hg hm hb .nil pass0 hdb
theorem k_sfld (K : PySem.W.Frag) {value : Expr} {f : Str} (ha : PE X o ta) (hv : PE X value tv) (hs : swapsWith value (some (.Attribute o f pos')) pos.line X.env = pure false) (h : X.K = K := by rfl) : PS X (.Assign [.Attribute o f pos'] value pos) (sFld K ta tv f) := h ▸ ps_fld ha hv hs
end
/-! ### attributes in a written order -/
theorem lk_hit {f : Str} {v : V} {r : List (Str × V)} : List.lookup f ((f, v) :: r) = some v := by simp [List.lookup]
theorem lk_miss {f g : Str} {v : V} {r : List (Str × V)} (h : ¬ f = g) : List.lookup f ((g, v) :: r) = List.lookup f r := by
  have hb : (f == g) = false := beq_eq_false_iff_ne.mpr h
  simp [List.lookup, hb]
theorem pf_hit {f : Str} {v x : V} {r : List (Str × V)} : putF f v ((f, x) :: r) = (f, v) :: r := by
  show (if f = f then _ else _) = _
  rw [if_pos rfl]
theorem pf_miss {f g : Str} {v x : V} {r : List (Str × V)} (h : ¬ g = f) : putF f v ((g, x) :: r) = (g, x) :: putF f v r := by
  show (if g = f then _ else _) = _
  rw [if_neg h]
/-! ### what tuples alone tell -/
def Tups (H H' : Hp) : Prop := ∀ c xs, H c = some (.tup xs) → H' c = some (.tup xs)
theorem Same.tups {H H' : Hp} (e : Same H H') : Tups H H' := fun c xs h => e _ _ h
theorem Tups.refl (H : Hp) : Tups H H := fun _ _ h => h
theorem Tups.trans {H H' H'' : Hp} (a : Tups H H') (b : Tups H' H'') : Tups H H'' := fun c xs h => b _ _ (a _ _ h)
theorem Tups.put {H H' : Hp} (a : Tups H H') {g : Addr} {u o : HO} (h : H' g = some u) (hn : ∀ xs, u ≠ .tup xs) : Tups H (upd H' g o) := fun c xs hc => by
  have h1 := a _ _ hc
  rw [upd_ne (fun e => by rw [e, h] at h1; exact hn xs (Option.some.inj h1))]; exact h1
theorem Tups.new {H H' : Hp} (a : Tups H H') {g : Addr} {o : HO} (h : H' g = none) : Tups H (upd H' g o) := fun c xs hc => by
  have h1 := a _ _ hc
  rw [upd_ne (ne_of_none h1 h)]; exact h1
mutual
theorem Has.tups {H H' : Hp} (e : Tups H H') : ∀ {v : V} {d : PyData}, noLst d = true → Has H v d → Has H' v d
  | v, .none, _, h => by unfold Has at h ⊢; exact h
  | v, .bool b, _, h => by unfold Has at h ⊢; exact h
  | v, .int i, _, h => by unfold Has at h ⊢; exact h
  | v, .str x, _, h => by unfold Has at h ⊢; exact h
  | v, .list ds, n, h => by unfold noLst at n; cases n
  | v, .tuple ds, n, h => by
    unfold noLst at n
    unfold Has at h ⊢
    obtain ⟨a, xs, h1, h2, h3⟩ := h
    exact ⟨a, xs, h1, e _ _ h2, HasL.tups e n h3⟩
  | v, .dict kvs, n, h => by unfold noLst at n; cases n
theorem HasL.tups {H H' : Hp} (e : Tups H H') : ∀ {xs : List V} {ds : List PyData}, noLstA ds = true → HasL H xs ds → HasL H' xs ds
  | xs, [], _, h => by unfold HasL at h ⊢; exact h
  | xs, d :: ds, n, h => by
    unfold noLstA at n
    rw [Bool.and_eq_true] at n
    unfold HasL at h ⊢
    obtain ⟨x, r, h1, h2, h3⟩ := h
    exact ⟨x, r, h1, Has.tups e n.1 h2, HasL.tups e n.2 h3⟩
end
theorem Ms.tups {H H' : Hp} {xs : List V} {ms : List Msg} (h : Ms H xs ms) (e : Tups H H') : Ms H' xs ms := HasL.tups e (noLst_ms ms) h
theorem noLst_m (m : Msg) : noLst (mD m) = true := by simp [noLst, noLstA, mD]
theorem DM.tups {H H' : Hp} (e : Tups H H') : ∀ {kvs : List (Key × V)} {D : List (Str × Msg)}, DM H kvs D → DM H' kvs D
  | _, _, .nil => .nil
  | _, _, .cons h t => .cons (h.tups e (noLst_m _)) (DM.tups e t)
/-- all stands but what is at ps -/
def But (ps : List Addr) (H H' : Hp) : Prop := ∀ c o, H c = some o → c ∉ ps → H' c = some o
/-! ### a teller -/
def lastK (k : Int) (all : List Msg) : List Msg := all.drop (all.length - k.toNat)
def tF (k r n : Int) (s d : Addr) : List (Str × V) := [("keep", .int k), ("turn", .int r), ("total", .int n), ("stored", .ref s), ("newest", .ref d)]
section
variable {k r n : Int} {s d : Addr}
end
/-- a teller stands at p: keep k, turn r, all that was told; its list at s, its table at d -/
structure TAt (C : Addr) (H : Hp) (p : Addr) (k r : Int) (all : List Msg) (s d : Addr) : Prop where
  ob : ∃ dx, H p = some (.ins C dx (tF k r (all.length : Int) s d))
  st : ∃ ys, H s = some (.lst ys) ∧ Ms H ys (lastK k all)
  nw : ∃ kvs, H d = some (.dK kvs) ∧ DM H kvs (newest all)
theorem TAt.same {C : Addr} {H H' : Hp} {p : Addr} {k r : Int} {all : List Msg} {s d : Addr} (h : TAt C H p k r all s d) (e : Same H H') : TAt C H' p k r all s d := by
  obtain ⟨⟨dx, h1⟩, ⟨ys, h2, h3⟩, ⟨kvs, h4, h5⟩⟩ := h
  exact ⟨⟨dx, e _ _ h1⟩, ⟨ys, e _ _ h2, h3.same e⟩, ⟨kvs, e _ _ h4, h5.same e⟩⟩
theorem TAt.but {C : Addr} {H H' : Hp} {p p' : Addr} {k r k' r' : Int} {all all' : List Msg} {s d s' d' : Addr} (h : TAt C H p k r all s d) (h' : TAt C H p' k' r' all' s' d') (hp : p ≠ p') (hs : s ≠ s') (hd : d ≠ d') (e : But [p', s', d'] H H') : TAt C H' p k r all s d := by
  obtain ⟨⟨dx, h1⟩, ⟨ys, h2, h3⟩, ⟨kvs, h4, h5⟩⟩ := h
  obtain ⟨⟨dx', g1⟩, ⟨ys', g2, g3⟩, ⟨kvs', g4, g5⟩⟩ := h'
  have tp : Tups H H' := fun c xs hc => e c _ hc (by
    have a1 := ne_of hc g1 (by intro z; cases z)
    have a2 := ne_of hc g2 (by intro z; cases z)
    have a3 := ne_of hc g4 (by intro z; cases z)
    simp [a1, a2, a3])
  refine ⟨⟨dx, e _ _ h1 ?_⟩, ⟨ys, e _ _ h2 ?_, h3.tups tp⟩, ⟨kvs, e _ _ h4 ?_, h5.tups tp⟩⟩
  · have a2 := ne_of h1 g2 (by intro z; cases z)
    have a3 := ne_of h1 g4 (by intro z; cases z)
    simp [hp, a2, a3]
  · have a1 := ne_of h2 g1 (by intro z; cases z)
    have a3 := ne_of h2 g4 (by intro z; cases z)
    simp [a1, hs, a3]
  · have a1 := ne_of h4 g1 (by intro z; cases z)
    have a2 := ne_of h4 g2 (by intro z; cases z)
    simp [a1, a2, hd]
theorem TAt.tups {C : Addr} {H H' : Hp} {p : Addr} {k r : Int} {all : List Msg} {s d : Addr} (h : TAt C H p k r all s d) (e : But [p, s, d] H H') : Tups H H' := by
  obtain ⟨⟨dx, g1⟩, ⟨ys, g2, g3⟩, ⟨kvs, g4, g5⟩⟩ := h
  exact fun c xs hc => e c _ hc (by
    have a1 := ne_of hc g1 (by intro z; cases z)
    have a2 := ne_of hc g2 (by intro z; cases z)
    have a3 := ne_of hc g4 (by intro z; cases z)
    simp [a1, a2, a3])
/-! the promises of a teller's methods -/
theorem putF_len (f : Str) (v : V) : ∀ fs : List (Str × V), (putF f v fs).length ≤ fs.length + 1
  | [] => Nat.le_refl _
  | (g, x) :: r => by
    show (if g = f then (g, v) :: r else (g, x) :: putF f v r).length ≤ _
    have := putF_len f v r
    split
    · simp
    · simp only [List.length_cons]; omega
theorem But.same {ps : List Addr} {H0 H H' : Hp} (e : Same H0 H) (b : But ps H H') (hn : ∀ p ∈ ps, H0 p = none) : Same H0 H' := fun c o h => b c o (e _ _ h) fun hc => by rw [hn c hc] at h; cases h
/-! ### what behind tells -/
/-! ### rows behind a number -/
end L2

namespace L2
open PySem PySem.Spec PyProof.Rows PySem.W
/-! ### an exception in flight: B holds all that stood ahead of it, but the frames -/
structure Fly (P : Program) (w : World) (outer : List Env) (H H' : Hp) (h : Heap) (a : Addr) (cls : Value) (h' : Heap) : Prop where
  ex : ∃ (B : Heap) (a0 : Value) (hr : Heap) (Ls : List Addr), Heap.FlyingW B outer a cls a0 h' ∧ Un (frs outer) [] H H' h hr ∧ HOk P w H' hr ∧ (∀ b o, hr.get? b = some o → b ∉ frs outer → b ∉ Ls → B.get? b = some o) ∧ (∀ L ∈ Ls, h.get? L = none ∧ H' L = none) ∧ hr.UpToSlots h' ∧ hr.get? a = none
/-- how an exception lies behind a call -/
def CXF (P : Program) (w : World) : CXT := fun outer H s E e s' => ∃ a cls H', e = .ref a ∧ s'.os = s.os ∧ AllBare s'.gens ∧ Fly P w outer H H' s.heap a cls s'.heap ∧ H' a = none ∧ E cls none H'
theorem obj_at {P : Program} {w : World} {H : Hp} {h : Heap} {a : Addr} {o : HO} (x : ObjOk P w H h a o) : ∃ ob, h.get? a = some ob := by
  cases o with
  | lst xs => obtain ⟨_, _, _, _, e⟩ := x; exact ⟨_, e⟩
  | tup xs => obtain ⟨_, _, _, ob, e, _⟩ := x; exact ⟨_, e⟩
  | dK kvs => obtain ⟨_, _, _, _, o, _, _, e, _⟩ := x; exact ⟨_, e⟩
  | dT kvs => obtain ⟨_, _, _, _, o, _, _, e, _⟩ := x; exact ⟨_, e⟩
  | set S n => obtain ⟨o, _, _, _, e, _⟩ := x; exact ⟨_, e⟩
  | ins C dx fs => obtain ⟨_, _, _, e, _⟩ := x; exact ⟨_, e⟩
  | own y => obtain ⟨_, e⟩ := x; exact ⟨_, e⟩
  | xd fs => obtain ⟨_, ⟨_, _, _, e, _⟩, _⟩ := x; exact ⟨_, e⟩
  | rng lo hi => obtain ⟨_, _, _, e⟩ := x; exact ⟨_, e⟩
  | frz ob u => obtain ⟨e, _⟩ := x; exact ⟨_, e⟩
  | tbl ps => exact ⟨_, show h.get? a = some _ from x⟩
  | met f y => exact ⟨_, show h.get? a = some _ from x⟩
  | ext φ => obtain ⟨_, ⟨_, e⟩, _⟩ := x; exact ⟨_, e⟩
theorem un_fly {P : Program} {w : World} {fs : List Addr} {H H' : Hp} {h hr h' B : Heap} {Ls : List Addr} (un : Un fs [] H H' h hr) (hok : HOk P w H' hr) (cov : ∀ b o, hr.get? b = some o → b ∉ fs → b ∉ Ls → B.get? b = some o) (hL : ∀ L ∈ Ls, h.get? L = none ∧ H' L = none)
    (st : B.StaysIn h') (sm : hr.UpToSlots h') (hf : ∀ b ∈ fs, H b = none ∧ ∀ o, h.get? b = some o → ∀ vs, o.data ≠ .fields vs) (hfH : ∀ b ∈ fs, H' b = none) : Un fs [] H H' h h' ∧ HOk P w H' h' := by
  have tr : ∀ b u o, H' b = some u → hr.get? b = some o → h'.get? b = some o := fun b u o hb ho => by
    refine st b o (cov b o ho (fun z => ?_) fun z => ?_)
    · rw [hfH b z] at hb; cases hb
    · rw [(hL b z).2] at hb; cases hb
  have ne : ∀ b o, h.get? b = some o → b ∉ Ls := fun b o e z => by rw [(hL b z).1] at e; cases e
  refine ⟨⟨fun b o e n hb hx => st b o (cov b o (un.keep b o e n hb hx) hb (ne b o e)), fun b o e n hb hx => ?_, un.free, fun b o e hx => ?_, un.tups, un.frzs, un.tbls⟩, fun b u e => ?_⟩
  · obtain ⟨sl, e1⟩ := un.slot b o e n hb hx
    obtain ⟨sl2, e2⟩ := sm b _ e1 ((hf b hb).2 o e)
    exact ⟨sl2, e2⟩
  · by_cases hb : b ∈ fs
    · obtain ⟨sl, e1⟩ := un.slot b o e (hf b hb).1 hb hx
      obtain ⟨sl2, e2⟩ := sm b _ e1 ((hf b hb).2 o e)
      exact ⟨_, e2⟩
    · obtain ⟨o', e1⟩ := un.there b o e hx
      exact ⟨o', st b o' (cov b o' e1 hb (ne b o e))⟩
  · refine (hok b u e).stay (fun c o hc ho => ?_) (fun _ q => q) fun _ _ q => q
    rcases hc with rfl | hc
    · exact tr _ _ _ e ho
    · exact tr _ _ _ hc ho
section
variable {X : Cx} {pins : List (Addr × Obj)} {σ : St} {H H' : Hp} {s : Shared}
theorem Inv.frNo (I : Inv X pins σ H s) : ∀ b ∈ frs X.stack, H b = none ∧ ∀ o, s.heap.get? b = some o → ∀ vs, o.data ≠ .fields vs := fun b hb => by
  refine ⟨I.stkFree b hb, fun o e vs hd => ?_⟩
  obtain ⟨_, o', ho, hn⟩ := I.stack.mem hb
  rw [e] at ho
  cases ho
  exact hn vs hd
/-- behind a flight the caller's state stands -/
theorem Inv.flown {g' : Array GenState} {t' : Nat} {d' : Drawn} {B hr h' : Heap} {Ls : List Addr} (I : Inv X pins σ H s) (un : Un (frs X.stack) [] H H' s.heap hr) (hok : HOk X.prog X.w H' hr) (cov : ∀ b o, hr.get? b = some o → b ∉ frs X.stack → b ∉ Ls → B.get? b = some o)
    (hL : ∀ L ∈ Ls, s.heap.get? L = none ∧ H' L = none) (st : B.StaysIn h') (sm : hr.UpToSlots h') (hg : AllBare g') : Inv X pins σ H' { s with heap := h', gens := g', drawn := d', toks := t' } := by
  have hfH : ∀ b ∈ frs X.stack, H' b = none := fun b hb => by
    obtain ⟨_, o, ho, _⟩ := I.stack.mem hb
    exact un.free b o ho (I.stkFree b hb) (by simp)
  obtain ⟨u, k⟩ := un_fly un hok cov hL st sm I.frNo hfH
  exact I.call (ch := []) u k hg (fun b z => absurd z (by simp))
end
/-! ### raise C(e) in a def's own body -/
/-- the class at C is an exception's of one's own; its name -/
structure Exc (K : PySem.W.Frag) (mg : Str → Option Value) (x : Str) (C : Addr) : Prop where
  at_ : mg x = some (.ref C)
  exc : PySem.W.excIn K C [.type "ValueError", .type "Exception", .type "BaseException", .type "object"] "ValueError.__new__" = true
theorem exc_own {K : PySem.W.Frag} {mg : Str → Option Value} {x : Str} {C : Addr} {h : Heap} {bmB : List Value} {newId : String} (X : K.In h) (e : mg x = some (.ref C)) (q : PySem.W.excIn K C bmB newId = true) : OwnCls x C bmB newId mg h := by
  refine ⟨e, ?_⟩
  unfold PySem.W.excIn at q
  split at q
  · rename_i dd cd sl ho
    split at q
    · rename_i C' bm k0 k1 k2 k3 n k5 hm hs
      simp only [Bool.and_eq_true, beq_iff_eq, Bool.not_eq_true'] at q
      obtain ⟨⟨⟨⟨⟨rfl, rfl⟩, hdel⟩, ht⟩, hok⟩, hni⟩ := q
      obtain ⟨nm, bs, mro, ns, qn, hd, sn, sub, ab, col, del⟩ := cd
      dsimp only at hm hdel hok hni
      subst hm hdel
      have hsl : sl = #[k0, k1, k2, k3, some (.builtin n), k5] := by
        obtain ⟨l⟩ := sl
        simp only at hs
        rw [hs]
      subst hsl
      exact ⟨bm, ns, nm, qn, bs, hd, sn, sub, ab, col, dd, k0, k1, k2, k3, k5, _, X _ _ ho, .of_isNs (PySem.W.isNs_of_in X hok), PySem.W.nsMap_none_of_in X hok hni, PySem.W.tail_of_in X ht⟩
    · cases q
  · cases q
def tRaise (C : Addr) (E : XK) (t : TA) : TS := fun _ σ H => t σ H fun vs H1 => vs.length ≤ sizeLine ∧ E (.ref C) none H1
section
variable {P : Program} {w : World} {K : PySem.W.Frag} {mg : Str → Option Value} {base : Heap} {N : List Str} {qual : Str} {scope : Scope} {f : Addr} {cd : Value} {A : Around} {outer : List Env} {s : Shared} {H : Hp} {E : XK}
theorem ps_raise {x : Str} {C : Addr} {np cpos pos : Pos} {e : Expr} {es : List Expr} {t : TA} (Z : Exc K mg x C) (ha : PAt (cxOf (CXF P w) P w K mg base N qual scope f cd A outer s H E) e es t)
    (hg : Gl (cxOf (CXF P w) P w K mg base N qual scope f cd A outer s H E) x := by rfl) (hd : (x == ("__debug__" : Str)) = false := by decide) :
    PS (cxOf (CXF P w) P w K mg base N qual scope f cd A outer s H E) (.Raise (some (.Call (.Name x np) (e :: es) [] cpos)) none pos) (tRaise C E t) := by
  intro pins s1 σ H1 D I h
  have X1 := I.kIn
  obtain ⟨tl, M, nm, q, bs, hdct, sn, sub, ab, col, dd, k0, k1, k2, k3, k5, mN, hC, hN, hni, T⟩ := (exc_own (h := (cxOf (CXF P w) P w K mg base N qual scope f cd A outer s H E).base) I.ok.mod.kin Z.at_ Z.exc).obj
  refine wpAny_Raise_call_subT (C := C) (nm := nm) (q := q) (N := M) (bs := bs) (bm := tl) (hdct := hdct) (sn := sn) (sub := sub) (ab := ab) (col := col) (dd := dd) (k0 := k0) (k1 := k1) (k2 := k2) (k3 := k3) (k5 := k5)
    PySem.F.excBase_ValueError (mN := mN) (T.hasType PySem.F.excBase_ValueError.hasBase) (I.ok.hd rfl) (by rw [ha.all.st]; exact back_any _ _ _) hni (ld_glob I hg Z.at_ ⟨rfl, ?_⟩ hd)
  have he := ha.all.he ha.tl
  have hsp := ha.all.pa cpos pins s1 σ H1 _ I h
  rw [he] at hsp ⊢
  refine Calls.evalArgs_plain (wpAny_mono hsp (fun us s2 h2 => ?_) fun _ _ y => y)
  obtain ⟨vs, H2, I2, rv, hlen, hE⟩ := h2
  refine ⟨rfl, by rw [← rv.length]; exact hlen, I2.bk _ _ hC, hN.keeps I2.bk, T.keeps I2.bk, fun h' ea hx => ?_⟩
  have fr := I2.stack
  have hin : ∀ env ∈ (cxOf (CXF P w) P w K mg base N qual scope f cd A outer s H E).stack, ∀ b, env.frame = some b → b ∈ frs (cxOf (CXF P w) P w K mg base N qual scope f cd A outer s H E).stack := fun env he b hb => List.mem_filterMap.mpr ⟨env, he, hb⟩
  refine wpAny_leaves_madeW (base := hideAll s2.heap (frs (cxOf (CXF P w) P w K mg base N qual scope f cd A outer s H E).stack)) (h := s2.heap) I2.ok.frames rfl (fun b o q => of_hideAll _ q) (funFrames_hide fr hin) hx fun h2 tt fl _ _ sm => ?_
  refine ⟨ea, .ref C, H2, rfl, I2.os, I2.bare, ⟨_, _, s2.heap, [s.heap.objs.size], fl, I2.base, I2.hok, fun b o ho hb hL => hideAll_get _ ho fun hm => ?_, fun L z => by rw [List.mem_singleton.mp z]; exact ⟨Heap.get?_none_of_le (Nat.le_refl _), I2.free⟩, (Heap.UpToSlots.of_keeps hx.keeps).trans sm, hx.new⟩, ?_, hE⟩
  · have hm' : b ∈ s.heap.objs.size :: frs outer := hm
    rcases List.mem_cons.mp hm' with z | z
    · exact hL (List.mem_singleton.mpr z)
    · exact hb z
  · cases q : H2 ea with
    | none => rfl
    | some u =>
      obtain ⟨o, ho⟩ := obj_at (I2.hok ea u q)
      have hn := hx.new
      rw [ho] at hn; cases hn
end
end L2

namespace L2
open PySem PySem.Spec PyProof.Rows PySem.W
/-! ### a def that may raise -/
section
variable {P : Program} {w : World} {K : PySem.W.Frag} {mg : Str → Option Value} {base : Heap}
theorem Fun.okX {x qual : Str} {st : Stmt} {f : Addr} {fd : FuncData} {N ps : List Str} {k : Nat} {sp : Sp} (F : Fun K x qual st f fd) (S : FnScope N ps (defScope st)) (len : ∀ vs H Q E, sp vs H Q E → vs.length = ps.length)
    (hbody : ∀ (cdv : Value) (A : Around) (outer : List Env) (s : Shared) (H : Hp) (vs : List V) (Q : VK) (E : XK), Room k (A.deeper (envOfC qual (defScope st) s.heap.objs.size f cdv)) → sp vs H Q E →
      ∃ t, PSs (cxOf (CXF P w) P w K mg base N qual (defScope st) f cdv A outer s H E) (defBody st) t ∧ t { nx := fun _ H' => Q .non H', rt := Q } (start N vs) H) : FnOk P w K mg base (CXF P w) (k + 1) f fd ps sp := by
  obtain ⟨oc, od, kV, doc, pm, an, cdv, ct, osl, rfl, lk, hcd⟩ := F.ex
  exact fn_of lk hcd S len fun A outer s H vs Q E hr hsp => hbody cdv A outer s H vs Q E hr hsp
end
structure CalleeMX (P : Program) (w : World) (K : PySem.W.Frag) (mg : Str → Option Value) (base : Heap) (k : Nat) (C : Addr) (m : Str) (ps : List Str) (sp : Sp) : Prop where
  ex : ∃ f fd, FnOk P w K mg base (CXF P w) k f fd ps sp ∧ Meth K C m f ∧ Binds K fd ps []
section
variable {X : Cx} {k : Nat} {C : Addr} {m x : Str} {ps : List Str} {sp : Sp} {o e : Expr} {es : List Expr} {ta tv : TE} {t : TA} {p apos pos pos' : Pos} {E : XK}
theorem as_methX {pl : Sem Bool} (M : CalleeMX X.prog X.w X.K X.mg X.base k C m ps sp) (c : Cls X.K C) (hr : Room k X.A) (hx : Passes (CXF X.prog X.w) X E) (he : PE X o ta) (ha : PAt X e es t)
    (ht : eval (.Call (.Attribute o m apos) (e :: es) [] pos) X.env = (do
      let ov ← eval o X.env
      standAt apos.atName
      let (f, first) ← holding [ov] (getMethod ov m pl)
      callWith pos f first (backTo pos (starEach (e :: es) X.env)) (backToKw pos (keywordEach [] X.env))) := by rfl) :
    PE X (.Call (.Attribute o m apos) (e :: es) [] pos) (tMeth C m sp [] E ta t) := by
  obtain ⟨f, fd, F, hm, hb⟩ := M.ex
  exact pe_meth (pl := pl) he c hm F hr hb .nil hx ha.all.pa (ha.all.he ha.tl) (by rw [ha.tl]; exact back_any _ _ _) ht
end
/-- an exception of a callee leaves a def that may raise as its own -/
theorem pass_on {P : Program} {w : World} {K : PySem.W.Frag} {mg : Str → Option Value} {base : Heap} {N : List Str} {qual : Str} {scope : Scope} {f : Addr} {cd : Value} {A : Around} {outer : List Env} {s : Shared} {H : Hp} {E : XK} :
    Passes (CXF P w) (cxOf (CXF P w) P w K mg base N qual scope f cd A outer s H E) E := by
  intro pins σ H1 s1 e s2 I h
  obtain ⟨a, cls, H2, rfl, os, bare, ⟨B, a0, hr, Ls, fl, un, hok, cov, hL, sm, han⟩, ha, hE⟩ := h
  have hfH : ∀ b ∈ frs (cxOf (CXF P w) P w K mg base N qual scope f cd A outer s H E).stack, H2 b = none := fun b hb => by
    obtain ⟨_, o, ho, _⟩ := I.stack.mem hb
    exact un.free b o ho (I.stkFree b hb) (by simp)
  have I2 := I.call (ch := []) (g' := s2.gens) (d' := s2.drawn) (t' := s2.toks) un hok bare (fun b z => absurd z (by simp))
  have fl' : Heap.FlyingW B (envOfC qual scope s.heap.objs.size f cd :: outer) a cls a0 s2.heap := fl
  refine wpAny_leaves_onW (env := envOfC qual scope s.heap.objs.size f cd) (outer := outer) I.ok.frames rfl fl' fun h' fl2 sm2 => ?_
  refine ⟨a, cls, H2, rfl, os.trans I.os, bare, ⟨B, a0, hr, s.heap.objs.size :: Ls, fl2, I2.base, hok, fun b o ho hb hL2 => ?_, fun L z => ?_, sm.trans sm2, han⟩, ha, hE⟩
  · refine cov b o ho (fun hm => ?_) fun z => hL2 (List.mem_cons_of_mem _ z)
    have hm' : b ∈ s.heap.objs.size :: frs outer := hm
    rcases List.mem_cons.mp hm' with z | z
    · exact hL2 (by rw [z]; exact List.mem_cons_self)
    · exact hb z
  · rcases List.mem_cons.mp z with z | z
    · rw [z]; exact ⟨Heap.get?_none_of_le (Nat.le_refl _), I2.free⟩
    · refine ⟨?_, (hL L z).2⟩
      cases q : s.heap.get? L with
      | none => rfl
      | some o =>
        obtain ⟨o', e'⟩ := I.base.there L o q (fun y => by cases (show L ∈ ([] : List Addr) from y))
        rw [(hL L z).1] at e'; cases e'
/-! ### contexts within try -/
abbrev Cx.tries (X : Cx) (pn : List (Addr × Obj)) (xe : Value → Shared → Prop) : Cx := { X with pn := pn, xe := xe }
abbrev Cx.held (X : Cx) (e : Value) : Cx := { X with A := X.A.mark (some e), calm := false, xe := fun _ _ => False }
section
variable {X : Cx} {pins : List (Addr × Obj)} {σ : St} {H H' : Hp} {s : Shared} {xe : Value → Shared → Prop} {e : Value}
theorem Inv.tries (I : Inv X pins σ H s) : Inv (X.tries (X.pn ++ pins) xe) [] σ H s :=
  ⟨⟨I.ok.mod, I.ok.kind, I.ok.glob, I.ok.blt, I.ok.above, I.ok.inj, I.ok.has, I.ok.cab, I.ok.hd, I.ok.frames, I.ok.stk, I.ok.exf, I.ok.bs, I.ok.bsz, I.ok.noex, I.ok.exfs, I.ok.funs, I.ok.frf⟩, I.os, I.bare, I.base, I.loc, I.cell, I.free, I.freeC,
    fun p hp => I.pin p (by rw [List.append_nil] at hp; exact hp), I.hok, I.len⟩
theorem Inv.untries {pins' : List (Addr × Obj)} (I : Inv (X.tries (X.pn ++ pins) xe) pins' σ H s) : Inv X pins σ H s :=
  ⟨⟨I.ok.mod, I.ok.kind, I.ok.glob, I.ok.blt, I.ok.above, I.ok.inj, I.ok.has, I.ok.cab, I.ok.hd, I.ok.frames, I.ok.stk, I.ok.exf, I.ok.bs, I.ok.bsz, I.ok.noex, I.ok.exfs, I.ok.funs, I.ok.frf⟩, I.os, I.bare, I.base, I.loc, I.cell, I.free, I.freeC,
    fun p hp => I.pin p (List.mem_append_left _ hp), I.hok, I.len⟩
theorem Inv.held (I : Inv X pins σ H s) : Inv (X.held e) pins σ H s :=
  ⟨⟨I.ok.mod, I.ok.kind, I.ok.glob, I.ok.blt, I.ok.above, I.ok.inj, I.ok.has, I.ok.cab, (fun z => by cases z), I.ok.frames, I.ok.stk, I.ok.exf, I.ok.bs, I.ok.bsz, I.ok.noex, I.ok.exfs, I.ok.funs, I.ok.frf⟩, I.os, I.bare, I.base, I.loc, I.cell, I.free, I.freeC, I.pin, I.hok, I.len⟩
theorem Inv.unheld (I : Inv (X.held e) pins σ H s) (hd : X.calm = true → X.A.handled = none) : Inv X pins σ H s :=
  ⟨⟨I.ok.mod, I.ok.kind, I.ok.glob, I.ok.blt, I.ok.above, I.ok.inj, I.ok.has, I.ok.cab, hd, I.ok.frames, I.ok.stk, I.ok.exf, I.ok.bs, I.ok.bsz, I.ok.noex, I.ok.exfs, I.ok.funs, I.ok.frf⟩, I.os, I.bare, I.base, I.loc, I.cell, I.free, I.freeC, I.pin, I.hok, I.len⟩
/-- an object that was not there at the entry is tracked -/
theorem Inv.trackN {D : Addr} {o : HO} (I : Inv X pins σ H s) (hn : H D = none) (h0 : X.s₀.heap.get? D = none) (hL : D ≠ X.env.locals) (hc : ∀ x c, X.env.cells.lookup x = some c → c ≠ D) (hp : ∀ p ∈ X.pn ++ pins, p.1 ≠ D) (ok : ObjOk X.prog X.w (upd H D o) s.heap D o) :
    Inv X pins σ (upd H D o) s := by
  refine ⟨I.ok, I.os, I.bare, ⟨I.base.keep, I.base.slot, fun b u e n hx => ?_, I.base.there, fun b xs q => ?_, fun b u xs q => ?_, fun b ps q => ?_⟩, I.loc, I.cell, ?_, fun x c e => ?_, fun p h => ?_, fun b u e => ?_, I.len⟩
  · rw [upd_ne (fun z => by rw [z, h0] at e; cases e)]; exact I.base.free b u e n hx
  · have := I.base.tups b xs q
    rw [upd_ne (ne_of_none this hn)]; exact this
  · have := I.base.frzs b u xs q
    rw [upd_ne (ne_of_none this hn)]; exact this
  · obtain ⟨more, e⟩ := I.base.tbls b ps q
    exact ⟨more, by rw [upd_ne (ne_of_none e hn)]; exact e⟩
  · rw [upd_ne (Ne.symm hL)]; exact I.free
  · rw [upd_ne (hc x c e)]; exact I.freeC x c e
  · obtain ⟨a, b, c⟩ := I.pin p h
    exact ⟨a, by rw [upd_ne (hp p h)]; exact b, c⟩
  · by_cases hb : b = D
    · subst hb; rw [upd_same] at e; cases e; exact ok
    · rw [upd_ne hb] at e
      exact (I.hok b u e).stay (fun _ _ _ q => q) (fun c q => by rw [upd_ne (ne_of_none q hn)]; exact q) fun c xs q => by rw [upd_ne (ne_of_none q hn)]; exact q
/-- a name has gone: nothing is known of the names -/
theorem Inv.gone {h' : Heap} {m' : Str → Option Value} {t' : Nat} (I : Inv X pins σ H s) (hn' : h'.Ns X.env.locals m') (hs : Heap.SameBut X.env.locals s.heap h') : Inv X pins (List.replicate X.N.length none) H { s with heap := h', toks := t' } := by
  have ne : ∀ b o, X.s₀.heap.get? b = some o → b ≠ X.env.locals := fun b o e => Nat.ne_of_lt (Nat.lt_of_lt_of_le (Heap.lt_size e) I.ok.above)
  refine ⟨I.ok, I.os, I.bare, ⟨fun b o e n hb hx => (hs.2 b (ne b o e)).trans (I.base.keep b o e n hb hx), fun b o e n hb hx => ?_, I.base.free, fun b o e hx => ?_, I.base.tups, I.base.frzs, I.base.tbls⟩, ⟨_, hn', fun j y v' e1 e2 e3 => ?_⟩, fun y c e => ?_, I.free, I.freeC, fun p hp => ?_, fun b u e => ?_, by simp⟩
  · obtain ⟨sl, e1⟩ := I.base.slot b o e n hb hx
    exact ⟨sl, (hs.2 b (ne b o e)).trans e1⟩
  · obtain ⟨o', e1⟩ := I.base.there b o e hx
    exact ⟨o', (hs.2 b (ne b o e)).trans e1⟩
  · rw [List.getElem?_replicate] at e2
    split at e2 <;> cases e2
  · obtain ⟨w', z⟩ := I.cell y c e
    exact ⟨w', z.sameBut hs (I.cne y c e)⟩
  · obtain ⟨e, n, ne', nf, d⟩ := I.pin p hp
    exact ⟨(hs.2 p.1 ne').trans e, n, ne', nf, d⟩
  · refine (I.hok b u e).stay (fun c w' hc q => (hs.2 c ?_).trans q) (fun _ q => q) fun _ _ q => q
    rintro rfl
    have hfree := I.free
    rcases hc with rfl | hc
    · rw [hfree] at e; cases e
    · rw [hfree] at hc; cases hc
end
/-! ### try: .. except C as n: .. -/
def ExcO (a : Addr) (cls : Value) : HO := .ext fun h => ∃ o, h.get? a = some o ∧ o.cls = cls
def tTryAs (K : PySem.W.Frag) (C : Addr) (E : XK) (i len : Nat) (tb ts : TS) : TS := fun D σ H => tb D σ H ∧ ∀ cls a H', E cls none H' → H' a = none → PySem.W.exmOne K cls (.ref C) = some true ∧
  ts { nx := fun _ H2 => D.nx (List.replicate len none) H2, rt := D.rt, bk := fun _ H2 => D.bk (List.replicate len none) H2, ct := fun _ H2 => D.ct (List.replicate len none) H2 } ((List.replicate len none).set i (some (.ref a))) (upd H' a (ExcO a cls))
section
variable {X : Cx} {body : List Stmt} {x n : Str} {b0 : Stmt} {suite : List Stmt} {np hpos pos : Pos} {tb ts : TS} {E : XK} {i : Nat} {C : Addr}
theorem ps_tryAs (K : PySem.W.Frag) (hb : ∀ pn xe, Passes (CXF X.prog X.w) (X.tries pn xe) E → PSs (X.tries pn xe) body tb) (hm : X.mg x = some (.ref C)) (hs : ∀ a, PSs (X.held (.ref a)) (b0 :: suite) ts) (hN : X.N.Nodup) (hi : X.N[i]? = some n) (hl : X.env.kindOf n = some .local)
    (hst : X.stack = X.env :: X.outer) (hfr : X.env.frame = some X.env.locals) (hex : X.ex = []) (hK : X.K = K := by rfl) (hg : Gl X x := by rfl) (hd : (x == ("__debug__" : Str)) = false := by decide) :
    PS X (.Try body [.ExceptHandler (some (.Name x np)) (some n) (b0 :: suite) hpos] [] [] pos) (tTryAs K C E i X.N.length tb ts) := by
  subst hK
  intro pins s σ H D I h
  obtain ⟨h1, h2⟩ := h
  have hp : Passes (CXF X.prog X.w) (X.tries (X.pn ++ pins) fun e s' => ∃ σ0 H0 s0, Inv X pins σ0 H0 s0 ∧ CXF X.prog X.w X.stack H0 s0 E e s') E := fun pins' σ' H' s' e s'' I' c => ⟨σ', H', s', I'.untries, c⟩
  have B := hb _ _ hp [] s σ H D I.tries h1
  refine wpAny_Try_except (wpAny_mono B (fun f s1 q => ?_) (fun e s1 q => ?_))
  · cases f with
    | next => obtain ⟨σ', H', I', q'⟩ := q; exact wpAny_execs_nil ⟨σ', H', I'.untries, q'⟩
    | brk => obtain ⟨σ', H', I', q'⟩ := q; exact ⟨σ', H', I'.untries, q'⟩
    | cont => obtain ⟨σ', H', I', q'⟩ := q; exact ⟨σ', H', I'.untries, q'⟩
    | ret u => obtain ⟨v, σ', H', I', r, q'⟩ := q; exact ⟨v, σ', H', I'.untries, r, q'⟩
  · obtain ⟨σ0, H0, s0, I0, a, cls, H', rfl, os, bare, ⟨B', a0, hr, Ls, fl, un, hok, cov, hL, sm, han⟩, ha, hE⟩ := q
    obtain ⟨hh, g, d, t, os'⟩ := s1
    obtain rfl : os' = s0.os := os
    have gone0 : ∀ b o, s0.heap.get? b = some o → b ≠ a := fun b o e z => by
      obtain ⟨o', e'⟩ := un.there b o e (by simp)
      rw [z, han] at e'; cases e'
    have fl' : Heap.FlyingW B' (X.env :: X.outer) a cls a0 hh := by rw [← hst]; exact fl
    refine wpAny_looks_onW (by rw [I0.ok.frames, hst]) hfr fl' fun h4 held4 sm4 => ?_
    refine wpAny_landsW held4 fun h5 fl5 sm5 => ?_
    have sm5' := sm.trans (sm4.trans sm5)
    have I5 := (I0.flown (g' := g) (d' := d) (t' := t) un hok cov hL fl5.1 sm5' bare).held (e := .ref a)
    obtain ⟨hx1, hsu⟩ := h2 cls a H' hE ha
    refine wpAny_handleBy_cons (codeAny_handlers_test (ld_glob (X := X.held (.ref a)) I5 hg hm ?_ hd)) (by intro q; cases q)
    obtain ⟨ob, hob, hobc⟩ := fl5.there
    have LT : Looks (model X.prog X.w) h5 (typeOf (.ref a)) cls := by rw [← hobc]; exact (Looks.ld hob).andThen .now
    refine (exm_one I5.kIn LT hx1).here ?_
    show codeAny _ _ _ _ _
    refine codeAny_handlers_suite_as ?_
    refine lands_againW fl5 fun h6 fl6 sm6 => ?_
    have sm6' := sm5'.trans sm6
    have I6 := (I0.flown (g' := g) (d' := d) (t' := t) un hok cov hL fl6.1 sm6' bare).held (e := .ref a)
    obtain ⟨ob6, hob6, hobc6⟩ := fl6.there
    have I7 := I6.weak (σ' := List.replicate X.N.length none) (by rw [List.length_replicate]; exact I6.len.symm) (fun j v z => by rw [List.getElem?_replicate] at z; split at z <;> cases z)
    have s0n : X.s₀.heap.get? a = none := by
      cases q : X.s₀.heap.get? a with
      | none => rfl
      | some o =>
        obtain ⟨o', e'⟩ := I0.base.there a o q (by rw [hex]; simp)
        exact absurd rfl (gone0 a o' e')
    have I8 := I7.trackN (D := a) (o := ExcO a cls) ha s0n (by
        obtain ⟨m, ⟨o, _, _, ho, _⟩, _⟩ := I0.loc
        exact (gone0 _ o ho).symm)
      (fun y c e => by
        obtain ⟨v, o, ho, _⟩ := I0.cell y c e
        exact gone0 _ o ho)
      (fun p hp => gone0 _ _ (I0.pin p hp).1)
      ⟨⟨ob6, hob6, hobc6⟩, ⟨ob6, hob6⟩, fun g1 g2 ⟨o, e1, e2⟩ k => ⟨o, k o e1, e2⟩⟩
    refine store_ok (X := X.held (.ref a)) I8 hN hi (.inl hl) (v := .ref a) rfl (fun s9 I9 => ?_) (.inr hl)
    refine wpAny_mono (hs a pins s9 _ _ _ I9 hsu) (fun f s10 q => ?_) (fun _ _ z => z.elim)
    have hcl : (X.env.scope.kind == .class || (X.env.scope.kind == .module && X.env.locals != X.env.globals)) = false := by rw [I.ok.kind]; rfl
    cases f with
    | next =>
      obtain ⟨σ', H2, I10, q'⟩ := q
      obtain ⟨m, hn, _⟩ := I10.loc
      exact wpAny_nameGoes hl hn hcl fun h11 m11 hn11 sb => ⟨_, H2, (I10.unheld I.ok.hd).gone hn11 sb, q'⟩
    | brk =>
      obtain ⟨σ', H2, I10, q'⟩ := q
      obtain ⟨m, hn, _⟩ := I10.loc
      exact wpAny_nameGoes hl hn hcl fun h11 m11 hn11 sb => ⟨_, H2, (I10.unheld I.ok.hd).gone hn11 sb, q'⟩
    | cont =>
      obtain ⟨σ', H2, I10, q'⟩ := q
      obtain ⟨m, hn, _⟩ := I10.loc
      exact wpAny_nameGoes hl hn hcl fun h11 m11 hn11 sb => ⟨_, H2, (I10.unheld I.ok.hd).gone hn11 sb, q'⟩
    | ret u =>
      obtain ⟨v, σ', H2, I10, r, q'⟩ := q
      obtain ⟨m, hn, _⟩ := I10.loc
      exact wpAny_nameGoes hl hn hcl fun h11 m11 hn11 sb => ⟨v, _, H2, (I10.unheld I.ok.hd).gone hn11 sb, r, q'⟩
end
end L2

namespace L2
open PySem PySem.Spec PyProof.Rows PySem.W
/-! ### a def that is called within an except suite -/
structure RoomH (k : Nat) (A : Around) : Prop where
  dp : A.depth + 3 * k + 5 < recursionLimit
  un : A.units + 16 * k + 200 < cLine
theorem RoomH.mono {j k : Nat} {A : Around} (r : RoomH k A) (h : j ≤ k) : RoomH j A := ⟨by have := r.dp; omega, by have := r.un; omega⟩
theorem RoomH.deeper {k : Nat} {A : Around} (r : RoomH (k + 1) A) (env : Env) : RoomH k (A.deeper env) := ⟨by have := r.dp; show A.depth + 1 + 3 * k + 5 < _; omega, by have := r.un; show A.units + 3 + 16 * k + 200 < _; omega⟩
theorem RoomH.depth {k : Nat} {A : Around} (r : RoomH k A) : A.depth < recursionLimit := by have := r.dp; omega
theorem RoomH.units {k : Nat} {A : Around} (r : RoomH k A) : A.units + 64 < cLine := by have := r.un; omega
theorem RoomH.units0 {k : Nat} {A : Around} (r : RoomH k A) : A.units < cLine := by have := r.un; omega
theorem Room.h {k : Nat} {A : Around} (r : Room k A) (e : Value) : RoomH k (A.mark (some e)) := ⟨r.dp, r.un⟩
structure FnOkH (P : Program) (w : World) (K : PySem.W.Frag) (mg : Str → Option Value) (base : Heap) (CX : CXT) (k : Nat) (f : Addr) (fd : FuncData) (ps : List Str) (sp : Sp) : Prop where
  len : ∀ vs H Q E, sp vs H Q E → vs.length = ps.length
  run : ∀ (A : Around) (outer : List Env) (s : Shared) (H : Hp) (args : Args) (us : List Value) (vs : List V) (Q : VK) (E : XK), RoomH k A → Env0 P w K mg base A outer s H → BindsTo s fd args (ps.zip us) → Vals vs us → sp vs H Q E →
    codeAny (model P w) A (.call (.ref f) args) (CR CX outer P w H s Q E) s
abbrev cxOfH (CX : CXT) (P : Program) (w : World) (K : PySem.W.Frag) (mg : Str → Option Value) (base : Heap) (N : List Str) (qual : Str) (scope : Scope) (f : Addr) (cd : Value) (A : Around) (outer : List Env) (s : Shared) (H : Hp) (E : XK) : Cx :=
  { cxOf CX P w K mg base N qual scope f cd A outer s H E with calm := false }
theorem inv_startH {CX : CXT} {P : Program} {w : World} {K : PySem.W.Frag} {mg : Str → Option Value} {base : Heap} {N ps : List Str} {qual : Str} {scope : Scope} {f : Addr} {cd : Value} {A : Around} {outer : List Env} {s s1 : Shared} {H : Hp} {E : XK} {us : List Value} {vs : List V}
    (S : FnScope N ps scope) (e0 : Env0 P w K mg base A outer s H) (hl : vs.length = ps.length) (r : Vals vs us)
    (x : InCallC s s.heap.objs.size (bindL (envOfC qual scope s.heap.objs.size f cd).kindOf (ps.zip us) fun _ => none) (cellsFrom (s.heap.objs.size + 1) scope.names []) (bindC (envOfC qual scope s.heap.objs.size f cd).kindOf (ps.zip us) fun _ => none) s1) :
    Inv (cxOfH CX P w K mg base N qual scope f cd A outer s H E) [] (start N vs) H s1 := by
  have I := inv_start (CX := CX) (N := N) (qual := qual) (scope := scope) (f := f) (cd := cd) (A := { A with handled := none }) (outer := outer) (E := E) S rfl ⟨e0.frames, e0.mod, e0.bs, e0.bsz, e0.funs, e0.frf, e0.hok, e0.bare⟩ hl r x
  exact ⟨⟨I.ok.mod, I.ok.kind, I.ok.glob, I.ok.blt, I.ok.above, I.ok.inj, I.ok.has, I.ok.cab, (fun z => by cases z), Around.frames_deeper e0.frames, I.ok.stk, I.ok.exf, I.ok.bs, I.ok.bsz, I.ok.noex, I.ok.exfs, I.ok.funs, I.ok.frf⟩, I.os, I.bare, I.base, I.loc, I.cell, I.free, I.freeC, I.pin, I.hok, I.len⟩

theorem fn_ofH {CX : CXT} {P : Program} {w : World} {K : PySem.W.Frag} {mg : Str → Option Value} {base : Heap} {k : Nat} {f : Addr} {name qual : Str} {params : Arguments} {body : List Stmt} {scope : Scope} {dV kV doc pm cdv ct oc : Value} {an od : Option Addr}
    {osl : Array (Option Value)} {N ps : List Str} {sp : Sp} (lk : K.lookup f = some ⟨oc, od, .func (PySem.W.fnOf name qual params body scope dV kV doc pm an cdv ct), osl⟩) (hcd : PySem.W.codeIn K cdv qual = true) (S : FnScope N ps scope)
    (len : ∀ vs H Q E, sp vs H Q E → vs.length = ps.length)
    (hbody : ∀ (A : Around) (outer : List Env) (s : Shared) (H : Hp) (vs : List V) (Q : VK) (E : XK), RoomH k (A.deeper (envOfC qual scope s.heap.objs.size f cdv)) → sp vs H Q E →
      ∃ t, PSs (cxOfH CX P w K mg base N qual scope f cdv A outer s H E) body t ∧ t { nx := fun _ H' => Q .non H', rt := Q } (start N vs) H) :
    FnOkH P w K mg base CX (k + 1) f (PySem.W.fnOf name qual params body scope dV kV doc pm an cdv ct) ps sp := by
  refine ⟨len, fun A outer s H args us vs Q E hr e0 hb r hsp => ?_⟩
  have hl := len _ _ _ _ hsp
  have KX : K.In s.heap := e0.mod.kin.keeps fun b o e => (e0.bs b o e).1
  have lim : s.heap.NoLimit := e0.mod.nolimit.keeps fun b o e => (e0.bs b o e).1
  have hkind : ∀ y ∈ ps.zip us, scope.names.lookup y.1 = some .local ∨ (scope.names.lookup y.1 = some .cell ∧ ((cellsFrom (s.heap.objs.size + 1) scope.names []).lookup y.1).isSome = true) := fun ⟨n, v⟩ hy => by
    rcases S.par n (List.of_mem_zip hy).1 with q | q
    · exact .inl q
    · exact .inr ⟨q, PySem.W.cellsFrom_some _ _ _ (.inl q)⟩
  refine codeAny_call_function hr.depth (KX _ _ lk) rfl S.co S.gen rfl (PySem.W.codeRec_of KX hcd) (hb _ _ _ _ ?_)
  refine wpAny_newFunctionEnv_cells S.kind hkind fun env he s1 x => ?_
  subst he
  refine ⟨lim.keeps x.toInCall.keep, codeAny_func ?_⟩
  obtain ⟨t, ht, hq⟩ := hbody A outer s H vs Q E (hr.deeper _) hsp
  have I : Inv (cxOfH CX P w K mg base N qual scope f cdv A outer s H E) [] (start N vs) H s1 := inv_startH S e0 hl r x
  refine wpAny_mono (ht [] s1 (start N vs) H _ I hq) (fun fl s' hs => ?_) fun e s' hs => hs
  have fin : ∀ {σ' : St} {H' : Hp} {v : V} {u : Value}, Inv (cxOfH CX P w K mg base N qual scope f cdv A outer s H E) [] σ' H' s' → RelV v u → Q v H' → CE outer P w H s Q u s' :=
    fun {σ' H' v u} J rv q => ⟨v, H', J.os, J.bare, J.base, J.hok, rv, q⟩
  cases fl with
  | ret u =>
    obtain ⟨v, σ', H', J, rv, q⟩ := hs
    exact fin J rv q
  | next =>
    obtain ⟨σ', H', J, q⟩ := hs
    exact fin (v := V.non) (u := Value.none) J rfl q
  | brk =>
    obtain ⟨_, _, _, q⟩ := hs
    exact False.elim q
  | cont =>
    obtain ⟨_, _, _, q⟩ := hs
    exact False.elim q
section
variable {P : Program} {w : World} {K : PySem.W.Frag} {mg : Str → Option Value} {base : Heap}
theorem Fun.okH {x qual : Str} {st : Stmt} {f : Addr} {fd : FuncData} {N ps : List Str} {k : Nat} {sp : Sp} (F : Fun K x qual st f fd) (S : FnScope N ps (defScope st)) (len : ∀ vs H Q E, sp vs H Q E → vs.length = ps.length)
    (hbody : ∀ (cdv : Value) (A : Around) (outer : List Env) (s : Shared) (H : Hp) (vs : List V) (Q : VK) (E : XK), RoomH k (A.deeper (envOfC qual (defScope st) s.heap.objs.size f cdv)) → sp vs H Q E →
      ∃ t, PSs (cxOfH CX0 P w K mg base N qual (defScope st) f cdv A outer s H E).nox (defBody st) t ∧ t { nx := fun _ H' => Q .non H', rt := Q } (start N vs) H) : FnOkH P w K mg base CX0 (k + 1) f fd ps sp := by
  obtain ⟨oc, od, kV, doc, pm, an, cdv, ct, osl, rfl, lk, hcd⟩ := F.ex
  refine fn_ofH lk hcd S len fun A outer s H vs Q E hr hsp => ?_
  obtain ⟨t, h, q⟩ := hbody cdv A outer s H vs Q E hr hsp
  exact ⟨t, h.nox, q⟩
end
structure CalleeH (P : Program) (w : World) (K : PySem.W.Frag) (mg : Str → Option Value) (base : Heap) (k : Nat) (x : Str) (ps : List Str) (sp : Sp) : Prop where
  ex : ∃ f fd, FnOkH P w K mg base CX0 k f fd ps sp ∧ mg x = some (.ref f) ∧ PySem.W.keepIn K (.ref f) = true ∧ Binds K fd ps []
section
variable {X : Cx} {CX : CXT} {k : Nat} {f C : Addr} {fd : FuncData} {ps : List Str} {sp : Sp} {dvs : List V} {ds : List Value} {E : XK} {x m : Str} {p pos apos : Pos} {e o : Expr} {es : List Expr} {ta : TE} {t : TA}

theorem run_fnH {pins : List (Addr × Obj)} {σ : St} {H : Hp} {s : Shared} {Q : VK} {us : List Value} {vs : List V} (F : FnOkH X.prog X.w X.K X.mg X.base CX k f fd ps sp) (hr : RoomH k X.A) (hb : Binds X.K fd ps ds) (hd : Vals dvs ds) (hx : Passes CX X E)
    (I : Inv X pins σ H s) (r : Vals vs us) (h : sp (vs ++ dvs) H Q E) : wpAny (model X.prog X.w) X.A (call (.ref f) us) (EP X pins σ Q) X.xe s := by
  have r2 : Vals (vs ++ dvs) (us ++ ds) := r.append hd
  have hl : (us ++ ds).length = ps.length := by rw [← r2.length]; exact F.len _ _ _ _ h
  refine wpAny_call (codeAny_mono (F.run X.A X.stack s H ⟨us, []⟩ (us ++ ds) (vs ++ dvs) Q E hr I.env0 (hb s us I.kIn hl) r2 h) fun r s' hq => ?_)
  cases r with
  | error e => exact hx pins σ H s e s' I hq
  | ok fl =>
    cases fl with
    | ret u => exact I.after hq
    | next => exact False.elim hq
    | brk => exact False.elim hq
    | cont => exact False.elim hq
theorem pe_callH (F : FnOkH X.prog X.w X.K X.mg X.base CX k f fd ps sp) (hr : RoomH k X.A) (hg : Gl X x) (hm : X.mg x = some (.ref f)) (hk : PySem.W.keepIn X.K (.ref f) = true) (hb : Binds X.K fd ps ds) (hd : Vals dvs ds) (hx : Passes CX X E)
    (ha : PA X (e :: es) t) (hdb : (x == ("__debug__" : Str)) = false := by decide) (he : starEach (e :: es) X.env = (false, eval e X.env) :: starEach es X.env := by rfl) (hpl : (backTo pos (starEach es X.env)).any (·.1) = false := by rfl) :
    PE X (.Call (.Name x p) (e :: es) [] pos) (tCall sp dvs E t) := by
  intro pins s σ H Q I h
  refine wpAny_Call_Name_kw (ld_glob I hg hm ?_ hdb)
  refine PySem.W.callWith_K (h₀ := X.base) I.ok.mod.kin hk (thn (ha pos pins s σ H _ I h) fun us s1 ⟨vs, H1, I1, r, q⟩ => ⟨I1.kIn, ?_⟩) he hpl
  exact run_fnH F hr hb hd hx I1 r q
theorem as_fnH (C : CalleeH X.prog X.w X.K X.mg X.base k x ps sp) (hr : RoomH k X.A) (ha : PAt X e es t) (hg : Gl X x := by rfl) (hdb : (x == ("__debug__" : Str)) = false := by decide) :
    PE X (.Call (.Name x p) (e :: es) [] pos) (tCall sp [] E0 t) := by
  obtain ⟨f, fd, F, hm, hk, hb⟩ := C.ex
  exact pe_callH F hr hg hm hk hb .nil pass0 ha.all.pa hdb (ha.all.he ha.tl) (by rw [ha.tl]; exact back_any _ _ _)
end
end L2

namespace L2
open PySem PySem.Spec PySem.Calls PyProof.Rows PySem.W Builtin Builtin.ObjectAttr Builtin.Getset_descriptor
/-! ### isinstance of an exception of one's own -/
/-- what the text has of such a class -/
structure ExcCls (K : PySem.W.Frag) (C : Addr) : Prop where
  ga : PySem.W.findIn K (.ref C) "__getattribute__" = some (some (.builtin "BaseException.__getattribute__"))
  cl : PySem.W.findIn K (.ref C) "__class__" = some (some (.builtin "object.__class__"))
  no : PySem.W.findIn K (.ref C) "__getattr__" = some none
  ob : PySem.W.mroIn K C (.type "object") = some true
  be : PySem.W.mroIn K C (.type "BaseException") = some true
  ty : PySem.W.hasDictIn K C = true
section
variable {prog : Program} {w : World} {A : Around} {E : Value → Shared → Prop} {h : Heap} {g : Array GenState} {d : Drawn} {t : Nat} {os : OsState} {K : PySem.W.Frag} {C a : Addr} {o : Obj}
theorem ex_get {R : Result → Shared → Prop} {tp : Value} (Z : ExcCls K C) (X : K.In h) (ho : h.get? a = some o) (hc : o.cls = .ref C) (hq : R (.ok (.ret (.ref C))) ⟨h, g, d, t, os⟩) :
    codeAny (model prog w) A (.call (.builtin "getset_descriptor.__get__") ⟨[.builtin "object.__class__", .ref a, tp], []⟩) R ⟨h, g, d, t, os⟩ := by
  have L0 : Looks (model prog w) h (typeOf (.ref a)) (.ref C) := hc ▸ (Looks.ld ho).andThen .now
  have L1 := looks_mroIn (M := model prog w) X Z.ob
  refine codeAny_call_builtin (KF.slot_gs).plain (KF.entry_gs) (KF.slot_gs.check _ _ _ _ _ _ _ _ (KF.type_class) (KF.args_gs (.builtin "object.__class__") (.ref a) tp) ?_)
  unfold Builtin.«getset_descriptor.__get__» descrGet; rw [dga_obj]
  refine wpAny_bind (wpAny_pure ?_); unfold descrGetter descrCheckInstance descrNameAndClass isInstance; simp only [KF.owner_class]; repeat lk
  refine ⟨Code.quiet_builtin _ (by decide +kernel), codeAny_builtin (KF.entry_class) ?_⟩; unfold Builtin.«object.__class__» shownTypeOf; repeat lk
  exact hq
theorem ex_entry {tk : Tok} {Q : Fin → Shared → Prop} (Z : ExcCls K C) (X : K.In h) (ho : h.get? a = some o) (hc : o.cls = .ref C) (hq : Q (.done (.ret (.ref C))) ⟨h, g, d, t, os⟩) :
    wpAny (model prog w) A (Builtin.«object.__getattribute__» ⟨[.ref a, .str "__class__" tk], []⟩) Q E ⟨h, g, d, t, os⟩ := by
  have L0 : Looks (model prog w) h (typeOf (.ref a)) (.ref C) := hc ▸ (Looks.ld ho).andThen .now
  have L1 := looks_findIn (M := model prog w) X Z.cl
  have hT5 : (⟨h, g, d, t, os⟩ : Shared).TypeIs (.builtin "object.__class__") "getset_descriptor" := F.typeOf_object_class
  have f5 := F.typeOf_object_class
  have f6 := F.slot_gs_get.lookup
  have f7 := F.slot_gs_set.lookup
  repeat (any_goals (first | assumption | (with_reducible refine wpAny_loadPart_at ho ?_; rw [hc]) | with_reducible refine L1.at ?_ | wp_step))
  refine ex_get Z X ho hc ?_
  repeat (any_goals (first | assumption | wp_step))
theorem ex_check {M : Model} {nameV : Value} {Q : Unit → Shared → Prop} (Z : ExcCls K C) (X : K.In h) (ho : h.get? a = some o) (hc : o.cls = .ref C) (hq : Q () ⟨h, g, d, t, os⟩) :
    wpAny M A (checkBuiltinCall "BaseException.__getattribute__" ⟨[.ref a, nameV], []⟩) Q E ⟨h, g, d, t, os⟩ := by
  have L0 : Looks M h (typeOf (.ref a)) (.ref C) := hc ▸ (Looks.ld ho).andThen .now
  have L1 := looks_mroIn (M := M) X Z.be
  have k1 : builtinKind "BaseException.__getattribute__" = some .slot := by decide +kernel
  have k2 : splitId "BaseException.__getattribute__" = some ("BaseException", "__getattribute__") := by decide +kernel
  have k3 := F.args_bexc_ga (.ref a) nameV
  simp only [checkBuiltinCall, k1, k2]
  refine wpAny_bind ?_
  unfold isInstance
  repeat (first | lk | wp_step)
  exact hq
theorem ex_call {tk : Tok} {R : Result → Shared → Prop} (Z : ExcCls K C) (X : K.In h) (ho : h.get? a = some o) (hc : o.cls = .ref C) (hq : R (.ok (.ret (.ref C))) ⟨h, g, d, t, os⟩) :
    codeAny (model prog w) A (.call (.builtin "BaseException.__getattribute__") ⟨[.ref a, .str "__class__" tk], []⟩) R ⟨h, g, d, t, os⟩ :=
  codeAny_call_builtin PySem.F.attr_ValueError.ga.plain F.entry_bexc_ga (ex_check Z X ho hc (ex_entry Z X ho hc hq))
theorem ex_by {tk : Tok} {Q : Value → Shared → Prop} (Z : ExcCls K C) (X : K.In h) (ho : h.get? a = some o) (hc : o.cls = .ref C) (hq : Q (.ref C) ⟨h, g, d, t, os⟩) :
    wpAny (model prog w) A (getAttrBy (.ref a) (.str "__class__" tk) false) Q E ⟨h, g, d, t, os⟩ := by
  have L0 : Looks (model prog w) h (typeOf (.ref a)) (.ref C) := hc ▸ (Looks.ld ho).andThen .now
  have L1 := looks_findIn (M := model prog w) X Z.ga
  have L2 := looks_findIn (M := model prog w) X Z.no
  have f3 := PySem.F.attr_ValueError.ga.bind (.ref a)
  repeat (any_goals (first | assumption | with_reducible refine L0.at ?_ | with_reducible refine L1.at ?_ | with_reducible refine L2.at ?_ | (with_reducible refine wpAny_loadPart_at ho ?_; rw [hc]) | wp_step))
  refine ex_call Z X ho hc ?_
  repeat (any_goals (first | assumption | wp_step))
theorem ex_attr {Q : Option Value → Shared → Prop} (Z : ExcCls K C) (X : K.In h) (ho : h.get? a = some o) (hc : o.cls = .ref C) (hq : Q (some (.ref C)) ⟨h, g, d, t + 1, os⟩) : wpAny (model prog w) A (getAttr? (.ref a) "__class__") Q E ⟨h, g, d, t, os⟩ := by
  unfold getAttr? getAttrBy?
  repeat (any_goals (first | assumption | with_reducible apply ex_by Z X ho hc | wp_step))
theorem cls_at {K : PySem.W.Frag} {C : Addr} (e : PySem.W.hasDictIn K C = true) : ∃ c dd cd sl, K.lookup C = some ⟨c, dd, .cls cd, sl⟩ := by
  obtain ⟨cd, h, _⟩ := any_some e
  unfold clsIn at h
  split at h
  · rename_i q; exact ⟨_, _, _, _, q⟩
  · cases h
theorem kitx_exc (Z : ExcCls K C) : KitX K (.ref a) (.ref C) (fun h => ∃ o, h.get? a = some o ∧ o.cls = .ref C) where
  ty := fun M h _ ⟨o, ho, hc⟩ => hc ▸ (Looks.ld ho).andThen .now
  it := fun M h X _ => by
    obtain ⟨c, dd, cd, sl, q⟩ := cls_at Z.ty
    intro A Q E s k z
    unfold isType loadHead
    exact wpAny_bind (wpAny_loadPart (k _ _ (X _ _ q)) (wpAny_pure z))
  ne := fun h tp dd its n sl X htp => by
    obtain ⟨c, dd', cd, sl', q⟩ := cls_at Z.ty
    refine Bool.eq_false_iff.mpr fun z => ?_
    have e : C = tp := Value.ref.inj (beq_iff_eq.mp z)
    have w := X _ _ q
    rw [e, htp] at w
    cases w
  ca := fun {prog w A E Q s} X p k => by
    obtain ⟨h, g, d, t, os⟩ := s
    obtain ⟨o, ho, hc⟩ := p
    exact ex_attr Z X ho hc k
end
/-- isinstance(e, c) of an exception of the class at C -/
def rIsiX (K : PySem.W.Frag) (c : Value) : List V → Hp → VK → Prop := fun xs H Q => ∃ a C cv k, xs = [.ref a, cv] ∧ RelV cv c ∧ H a = some (ExcO a (.ref C)) ∧ ExcCls K C ∧ PySem.W.kitOne K (.ref C) c = some k ∧ Q (.bl k) H
section
variable {X : Cx}
theorem call_isiX {c : Value} (hu : ∀ cv u, RelV cv c → RelV cv u → u = c) : CallR X (.builtin "isinstance") (rIsiX X.K c) := by
  intro pins s σ H xs us Q I r h
  obtain ⟨a, C, cv, k, rfl, rc, ha, Z, e, q⟩ := h
  obtain ⟨u, u2, rfl, ru, rc2⟩ := r.two
  obtain rfl := hu cv u2 rc rc2
  cases (show u = Value.ref a from ru)
  obtain ⟨p, _, _⟩ := (show ObjOk X.prog X.w H s.heap a (ExcO a (.ref C)) from I.hok a _ ha)
  exact kia_one (kitx_exc Z) I.kIn p e (fun z => nomatch z) fun tk => ⟨.bl k, H, I.tok _, rfl, q⟩
theorem k_isiX (K : PySem.W.Frag) {c : Value} (hu : ∀ cv u, RelV cv c → RelV cv u → u = c) (h : X.K = K := by rfl) : CallR X (.builtin "isinstance") (rIsiX K c) := h ▸ call_isiX hu
theorem ref_one {C : Addr} : ∀ cv u, RelV cv (.ref C) → RelV cv u → u = .ref C := by
  intro cv u h1 h2
  cases cv with
  | ref m =>
    have e1 : Value.ref C = Value.ref m := h1
    have e2 : u = Value.ref m := h2
    rw [e2, e1]
  | non => cases (show Value.ref C = Value.none from h1)
  | bl b => cases (show Value.ref C = Value.bool b from h1)
  | int i => obtain ⟨t, e⟩ := (show ∃ t, Value.ref C = Value.int i t from h1); cases e
  | str x => obtain ⟨t, e⟩ := (show ∃ t, Value.ref C = Value.str x t from h1); cases e
  | byt x => obtain ⟨t, e⟩ := (show ∃ t, Value.ref C = Value.bytes x t from h1); cases e
  | flt x => obtain ⟨t, e⟩ := (show ∃ t, Value.ref C = Value.float x t from h1); cases e
  | ty n => cases (show Value.ref C = Value.type n from h1)
/-! ### bs.count(True), bs.index(True) -/
theorem count_eqU : ∀ {bs : List Bool} {us : List Value}, Vals (bs.map V.bl) us → us.countP (eqU (.bl true)) = bs.countP id
  | [], _, r => by cases Vals.zero r; rfl
  | b :: bs, _, r => by
    cases r with
    | cons r1 t =>
      rw [List.countP_cons, List.countP_cons, count_eqU t]
      cases (show _ = Value.bool b from r1)
      cases b <;> rfl
theorem flat_bls : ∀ bs : List Bool, (bs.map V.bl).all flatV = true
  | [] => rfl
  | b :: bs => by rw [List.map_cons, List.all_cons, flat_bls bs]; rfl
def rCountB : V → List V → Hp → VK → Prop := fun x vs H Q => ∃ (l : Addr) (bs : List Bool), x = .ref l ∧ vs = [.bl true] ∧ H l = some (.lst (bs.map V.bl)) ∧ Q (.int (bs.countP id : Nat)) H
theorem mt_countB : MtM X "list.count" rCountB := by
  intro pins s σ H x vs v us Q I rx rv h
  obtain ⟨l, bs, rfl, rfl, hl, q⟩ := h
  cases (show v = Value.ref l from rx)
  obtain ⟨u, rfl, ru⟩ := rv.one
  cases (show u = Value.bool true from ru)
  obtain ⟨its, n, r, ho, hz⟩ := I.lst hl
  refine call_meets PySem.F.slot_list_count ⟨_, ho, rfl⟩ PySem.F.entry_list_count (PySem.F.args_list_count_2 _ _) (SeqAt.list_countAt l its.toArray n none #[] (.bool true) (eqU (.bl true))) ⟨ho, fun y hy => ?_, ?_⟩
  · exact mem_eqAt (x := .bl true) (v := .bool true) rfl rfl r (flat_bls bs) y (by simpa using hy)
  · refine ⟨.int (bs.countP id : Nat), H, I.tok _, ⟨s.toks, ?_⟩, q⟩
    rw [show its.toArray.toList = its by simp, count_eqU r]
def rIndexB : V → List V → Hp → VK → Prop := fun x vs H Q => ∃ (l : Addr) (bs : List Bool) (j : Nat), x = .ref l ∧ vs = [.bl true] ∧ H l = some (.lst (bs.map V.bl)) ∧ bs[j]? = some true ∧ (∀ m, m < j → bs[m]? = some false) ∧ Q (.int (j : Nat)) H
theorem mt_indexB : MtM X "list.index" rIndexB := by
  intro pins s σ H x vs v us Q I rx rv h
  obtain ⟨l, bs, j, rfl, rfl, hl, hj, hb, q⟩ := h
  cases (show v = Value.ref l from rx)
  obtain ⟨u, rfl, ru⟩ := rv.one
  cases (show u = Value.bool true from ru)
  obtain ⟨its, n, r, ho, hz⟩ := I.lst hl
  have at_ : ∀ (m : Nat) (b : Bool), bs[m]? = some b → its[m]? = some (Value.bool b) := fun m b e => by
    obtain ⟨u, h1, h2⟩ := r.get (i := m) (x := .bl b) (by rw [List.getElem?_map, e]; rfl)
    cases (show u = Value.bool b from h2)
    exact h1
  have hjl : j < its.length := (List.getElem?_eq_some_iff.mp (at_ j true hj)).1
  have hlen := r.length
  have hz' : its.length ≤ sizeLine := by rw [← hlen]; exact hz
  rw [sizeLine_eq] at hz'
  refine call_meets PySem.F.slot_list_index ⟨_, ho, rfl⟩ PySem.F.entry_list_index (PySem.F.args_list_index_2 _ _) (SeqAt.list_indexAt l its.toArray n none #[] (.bool true) (eqU (.bl true)) j (by simpa using hjl) (by omega) ?_ (fun m hm hlt => ?_)) ⟨ho, fun y hy => ?_, ?_⟩
  · have e := (List.getElem?_eq_some_iff.mp (at_ j true hj)).2
    show eqU (.bl true) its.toArray[j] = true
    rw [List.getElem_toArray, e]; rfl
  · have e := (List.getElem?_eq_some_iff.mp (at_ m false (hb m hlt))).2
    show eqU (.bl true) its.toArray[m] = false
    rw [List.getElem_toArray, e]; rfl
  · exact mem_eqAt (x := .bl true) (v := .bool true) rfl rfl r (flat_bls bs) y (by simpa using hy)
  · exact ⟨.int (j : Nat), H, I.tok _, ⟨s.toks, rfl⟩, q⟩
end
end L2

namespace L2
open PySem PySem.Spec PyProof.Rows PySem.W
/-! ### x in xs, x not in xs, of data -/
theorem lay_of {d : PyData} (h : SeqAt.shaped d = true) : d.canLay0 = true := by
  unfold SeqAt.shaped at h
  exact (Bool.and_eq_true_iff.mp h).1
section
variable {X : Cx} {pins : List (Addr × Obj)} {σ : St} {H : Hp} {s : Shared}
end
theorem eqv_m (a b : Msg) : PyData.eqv (mD a) (mD b) = decide (a = b) := by
  have e : PyData.eqv (mD a) (mD b) = ((a.n == b.n) && ((a.t == b.t) && ((a.x == b.x) && true))) := rfl
  rw [e]
  by_cases h1 : a.n = b.n <;> by_cases h2 : a.t = b.t <;> by_cases h3 : a.x = b.x
  all_goals
    first
    | (have z : a = b := by (cases a; cases b; simp_all)
       rw [decide_eq_true z]; simp [h1, h2, h3])
    | (have z : ¬ a = b := fun w => by (subst w; simp_all)
       rw [decide_eq_false z]; simp [h1, h2, h3])
theorem shaped_m {m : Msg} (h : mOk m) : SeqAt.shaped (mD m) = true := by
  obtain ⟨h1, h2⟩ := h
  have d : PyData.depth (mD m) ≤ 64 := by simp [mD, PyData.depth, PyData.depthAll]
  show (PyData.canLay0 (mD m) && decide (PyData.depth (mD m) ≤ 64)) = true
  rw [Bool.and_eq_true]
  exact ⟨by simp [mD, PyData.canLay0, PyData.canLayAll0, h1, h2], decide_eq_true d⟩
end L2
namespace L2
open PySem PySem.Spec PyProof.Rows PySem.W
/-! ### enumerate(xs) -/
def Ite (K : PySem.W.Frag) (l : Addr) : It :=
  ⟨fun i H => ∃ xs x, SqL K H l xs ∧ xs[i]? = some x, fun i H x H' => ∃ T v, x = .ref T ∧ H T = none ∧ H' = upd H T (.tup [.int i, v]) ∧ ∀ xs, SqL K H l xs → xs[i]? = some v, fun i H => ∃ xs, SqL K H l xs ∧ xs.length = i⟩
section
variable {X : Cx} {pins : List (Addr × Obj)} {σ : St} {H : Hp} {s : Shared}
/-- two records of ours have turned -/
theorem Inv.turned2 {h' : Heap} {t' : Nat} {e it : Addr} (I : Inv X pins σ H s) (k : ∀ b o, b ≠ e → b ≠ it → s.heap.get? b = some o → h'.get? b = some o) (fe : FpOk X pins H e) (fi : FpOk X pins H it) : Inv X pins σ H { s with heap := h', toks := t' } := by
  obtain ⟨e0, e1, e2, e3, e4, e5⟩ := fe
  obtain ⟨i0, i1, i2, i3, i4, i5⟩ := fi
  have ne : ∀ b, b ∉ [e, it] → b ≠ e ∧ b ≠ it := fun b hb => ⟨fun z => hb (by simp [z]), fun z => hb (by simp [z])⟩
  have nt : ∀ b u, H b = some u → b ≠ e ∧ b ≠ it := fun b u q => ⟨(fun z => by rw [z, e0] at q; cases q), (fun z => by rw [z, i0] at q; cases q)⟩
  refine I.step (g' := s.gens) (d' := s.drawn) (ch := [e, it]) (fun b hb => ?_) (fun b o _ _ hc q _ => k b o (ne b hc).1 (ne b hc).2 q) (fun b o _ _ hc q _ => ⟨o.slots, k b o (ne b hc).1 (ne b hc).2 q⟩) (fun _ _ _ _ n => n) (fun b o hc q => ⟨o, k b o (ne b hc).1 (ne b hc).2 q⟩)
    (fun _ _ q => q) (fun _ _ _ q => q) (fun b ps q => ⟨#[], by rw [q]; simp⟩) (fun m hm => ?_) (fun b u q => ?_) I.bare
  · rcases List.mem_cons.mp hb with z | z
    · rw [z]; exact ⟨e3, e1, e4, e5⟩
    · rw [List.mem_singleton.mp z]; exact ⟨i3, i1, i4, i5⟩
  · obtain ⟨o, es, ep, ho, r⟩ := hm
    exact ⟨o, es, ep, k _ _ (Ne.symm e1) (Ne.symm i1) ho, r⟩
  · refine (I.hok b u q).stay (fun c v hc z => ?_) (fun _ z => z) fun _ _ z => z
    rcases hc with rfl | hc
    · exact k _ _ (nt _ _ q).1 (nt _ _ q).2 z
    · exact k _ _ (nt _ _ hc).1 (nt _ _ hc).2 z
end
theorem turn_enum {P : Program} {w : World} {K : PySem.W.Frag} {elts : List Expr} {k : Nat} {pos : Pos} (l e it : Addr) (hei : e ≠ it) : Turn P w K (.Tuple elts k pos) (Ite K l) [e, it] e (fun i h => (∃ old, IsEnum h e it i old) ∧ h.IsListIter it l i) where
  mem := by simp
  obj := fun i h st b hb => by
    obtain ⟨⟨old, he⟩, o, ho, _, hd⟩ := st
    rcases List.mem_cons.mp hb with z | z
    · rw [z]; exact ⟨_, he, fun v z => by cases z⟩
    · rw [List.mem_singleton.mp z]; exact ⟨o, ho, fun v z => by rw [hd] at z; cases z⟩
  keep := fun i h h' st k => by
    obtain ⟨⟨old, he⟩, o, ho, hr⟩ := st
    exact ⟨⟨old, k e (by simp) _ he⟩, o, k it (by simp) _ ho, hr⟩
  item := by
    intro X hP hw hK hc i pins s σ H E I hf st hg
    subst hP hw hK
    obtain ⟨xs, x, hq, hx⟩ := hg
    obtain ⟨its, rv, p, hz⟩ := I.list hq
    obtain ⟨u, hu, ru⟩ := rv.get hx
    have fe := hf e (by simp)
    have fi := hf it (by simp)
    obtain ⟨⟨old, he⟩, hit⟩ := st
    obtain ⟨ol, hol, hcl, _⟩ := p.isList
    have hli : l ≠ it := fun z => by
      obtain ⟨o, ho, hc', _⟩ := hit
      rw [← z, hol] at ho; cases ho; rw [hcl] at hc'
      injection hc' with h; exact absurd h (by decide)
    have hle : e ≠ l := fun z => by
      have he' : s.heap.get? e = some _ := he
      rw [z, hol] at he'; cases he'
      injection hcl with h; exact absurd h (by decide)
    have D := Draws.list (prog := X.prog) (w := X.w) (A := X.A.in1) (I.ok.hd hc) it l hli its.toArray
    have W := WalksT.enumerateD D e hei (by simp [hei, hle]) (by simp)
    have hin : i < its.toArray.size := by
      have := (List.getElem?_eq_some_iff.mp hu).1
      simpa using this
    refine W.item i s _ _ hin ⟨⟨old, he⟩, hit, p.isList⟩ fun T vals h' tk hPt hT hIs hMid kk => ?_
    obtain ⟨tt, xv, hPx, rfl⟩ := hPt
    have hxv : xv = u := by
      have z : its.toArray[i]? = some xv := hPx
      rw [show its.toArray[i]? = its[i]? by simp, hu] at z
      exact (Option.some.inj z).symm
    subst hxv
    refine ⟨_, rfl, W.go elts k pos i T _ _ _ hMid fun h2 st2 kk2 => ?_⟩
    have kall : ∀ b o, b ≠ e → b ≠ it → s.heap.get? b = some o → h2.get? b = some o := fun b o h1 h3 q => kk2 b o (by simp [h1, h3]) (kk b o (by simp [h1, h3]) q)
    have I2 : Inv X pins σ H { s with heap := h2, toks := tk } := I.turned2 kall fe fi
    have hTe : T ∉ [e, it] := W.apart i T h' hMid
    have hTn : H T = none := I.hok.fresh hT
    obtain ⟨oT, hoT, hcT, nT, hdT⟩ := hIs
    have hoT2 := kk2 T oT hTe hoT
    have I3 := I2.track (D := T) (o := .tup [.int i, x]) (I.fpOk hT hTn) ⟨(show 2 ≤ sizeLine by decide), [.int i tt, xv], .cons ⟨tt, rfl⟩ (.cons ru .nil), oT, hoT2, hcT, nT, hdT⟩
    refine ⟨.ref T, _, I3, rfl, ⟨T, x, rfl, hTn, rfl, fun ys hy => by rw [I.list_inj hy hq]; exact hx⟩, ⟨st2.1, st2.2.1⟩, fun b hb => ?_⟩
    rw [upd_ne (fun z => hTe (by rw [← z]; exact hb))]
    exact (hf b hb).1
  done := by
    intro X hP hw hK hc i pins s σ H E I hf st hg
    subst hP hw hK
    obtain ⟨xs, hq, hx⟩ := hg
    obtain ⟨its, rv, p, hz⟩ := I.list hq
    have fe := hf e (by simp)
    have fi := hf it (by simp)
    obtain ⟨⟨old, he⟩, hit⟩ := st
    obtain ⟨ol, hol, hcl, _⟩ := p.isList
    have hli : l ≠ it := fun z => by
      obtain ⟨o, ho, hc', _⟩ := hit
      rw [← z, hol] at ho; cases ho; rw [hcl] at hc'
      injection hc' with h; exact absurd h (by decide)
    have hle : e ≠ l := fun z => by
      have he' : s.heap.get? e = some _ := he
      rw [z, hol] at he'; cases he'
      injection hcl with h; exact absurd h (by decide)
    have D := Draws.list (prog := X.prog) (w := X.w) (A := X.A.in1) (I.ok.hd hc) it l hli its.toArray
    have W := WalksT.enumerateD D e hei (by simp [hei, hle]) (by simp)
    have hin : its.toArray.size = i := by rw [← hx, rv.length]; simp
    refine W.done s _ _ (by rw [hin]; exact ⟨⟨old, he⟩, hit, p.isList⟩) fun h' tk kk => ⟨rfl, I.turned2 (fun b o h1 h2 q => kk b o (by simp [h1, h2]) q) fe fi⟩
  self := fun A i s Q E st h => by
    obtain ⟨⟨old, he⟩, _⟩ := st
    exact wpAny_pyIter_enum he h
end L2
namespace L2
open PySem PySem.Spec PyProof.Rows PySem.W
def iEnum (K : PySem.W.Frag) (te : TE) : TI := fun σ H R => te σ H fun x H1 => ∃ a, x = .ref a ∧ (∃ xs, SqL K H1 a xs) ∧ R (Ite K a) H1
section
variable {X : Cx} {e : Expr} {te : TE} {elts : List Expr} {k : Nat} {tpos p pos : Pos}
theorem pi_enum (K : PySem.W.Frag) (hm : X.mg "enumerate" = none) (he : PE X e te) (hK : X.K = K := by rfl) (hg : Gl X "enumerate" := by rfl) (hp : plainE e = true := by rfl) : PI X (.Tuple elts k tpos) (.Call (.Name "enumerate" p) [e] [] pos) (iEnum K te) := by
  subst hK
  intro pins s σ H R I h
  have h' : tCons te tNil σ H (fun vs H1 => match vs with | [x] => ∃ a, x = .ref a ∧ (∃ xs, SqL X.K H1 a xs) ∧ R (Ite X.K a) H1 | _ => False) := h
  have ha := (pa_cons (X := X) he pa_nil (star_of hp)) pos pins s σ H _ I h'
  refine Call_ (ld_blt I hg hm boot_enumerate (PyProof.Rows.callWith_type1 (thn ha fun us s1 ⟨vs, H1, I1, r1, q1⟩ => ?_) (by rw [star_of hp]) rfl))
  match vs, q1, r1 with
  | [x], ⟨a, ea, ⟨xs, hq⟩, q⟩, .cons r rr =>
    cases rr
    subst ea
    cases r
    obtain ⟨its, rv, pl, hz⟩ := I1.list hq
    refine call_enumerate_list pl.isList fun h2 hE hI hsz kk => ?_
    refine wpAny_pyIter_enum hE ?_
    have I2 : Inv X pins σ H1 { s1 with heap := h2 } := I1.kept (t' := s1.toks) kk
    refine ⟨s1.heap.objs.size + 1, [s1.heap.objs.size + 1, s1.heap.objs.size], _, _, H1, rfl, I2, turn_enum a (s1.heap.objs.size + 1) s1.heap.objs.size (Nat.succ_ne_self _), ⟨⟨.none, hE⟩, hI⟩, fun b hb => ?_, q⟩
    have hle : s1.heap.objs.size ≤ b := by
      rcases List.mem_cons.mp hb with z | z
      · rw [z]; omega
      · rw [List.mem_singleton.mp z]; exact Nat.le_refl _
    exact I1.fpOk hle (I1.hok.fresh hle)
end
/-- for .. in enumerate(a list that the body leaves as it is) -/
theorem for_enum {K : PySem.W.Frag} {a : Addr} {xs : List V} {g : TG} {tb : TS} {D : Ends} {σ : St} {H : Hp} (Pv : Nat → St → Hp → Prop) (h0 : Pv 0 σ H) (hl : ∀ i σ H, i ≤ xs.length → Pv i σ H → SqL K H a xs)
    (hs : ∀ i x T σ H, xs[i]? = some x → Pv i σ H → H T = none → g (.ref T) σ (upd H T (.tup [.int i, x])) fun σ2 H2 => tb { D with nx := Pv (i + 1), ct := Pv (i + 1), bk := D.nx } σ2 H2) (hd : ∀ σ H, Pv xs.length σ H → D.nx σ H) :
    ∃ W : Nat → Nat → St → Hp → Prop, (∃ m, W 0 m σ H) ∧ ∀ i m σ H, W i m σ H →
      ((Ite K a).stop i H ∧ D.nx σ H) ∨ ((Ite K a).go i H ∧ ∃ N : St → Hp → Prop, (∀ σ' H', N σ' H' → ∃ m', m' < m ∧ W (i + 1) m' σ' H') ∧ ∀ x H', (Ite K a).yld i H x H' → g x σ H' fun σ2 H2 => tb { D with nx := N, ct := N, bk := D.nx } σ2 H2) := by
  refine ⟨fun i m σ H => m = xs.length - i ∧ i ≤ xs.length ∧ Pv i σ H, ⟨xs.length, (by simp), Nat.zero_le _, h0⟩, fun i m σ H hW => ?_⟩
  obtain ⟨rfl, hi, hp⟩ := hW
  have hq := hl i σ H hi hp
  rcases Nat.lt_or_ge i xs.length with hlt | hge
  · refine .inr ⟨⟨xs, xs[i], hq, (by simp [hlt])⟩, Pv (i + 1), fun σ' H' p' => ⟨xs.length - (i + 1), (by omega), rfl, hlt, p'⟩, fun x H' hy => ?_⟩
    obtain ⟨T, v, rfl, hT, rfl, hv⟩ := hy
    exact hs i v T σ H (hv xs hq) hp hT
  · obtain rfl : i = xs.length := Nat.le_antisymm hi hge
    exact .inl ⟨⟨xs, hq, rfl⟩, hd σ H hp⟩
end L2

namespace L2
open PySem PySem.Spec PyProof.Rows PySem.W
/-! ### a teller that refuses -/
def sBad (r : Int) (all : List Msg) (t n : Int) : Prop := t > r ∨ n < 0 ∨ (t = r ∧ n > (all.length : Int))
instance (r : Int) (all : List Msg) (t n : Int) : Decidable (sBad r all t n) := by unfold sBad; exact inferInstance
/-- two of the same data, compared -/
theorem ne_D {H : Hp} {x y : V} {d : PyData} {Q : VK} (hx : Has H x d) (hy : Has H y d) (s : SeqAt.shaped d = true) (q : Q (.bl false) H) : rNeD x y H Q := by
  refine ⟨_, _, hx, hy, s, s, ?_⟩
  rw [SeqAt.eqv_refl _ (lay_of s)]; exact q
theorem eq_D {H : Hp} {x y : V} {d : PyData} {Q : VK} (hx : Has H x d) (hy : Has H y d) (s : SeqAt.shaped d = true) (q : Q (.bl true) H) : rEqD x y H Q := by
  refine ⟨_, _, hx, hy, s, s, ?_⟩
  rw [SeqAt.eqv_refl _ (lay_of s)]; exact q
end L2

namespace L2
open PySem PySem.Spec PyProof.Rows PySem.W
/-! ### steps: from a heap with the addresses ps of ours to one with ps' -/
structure Stp (ps : List Addr) (H : Hp) (ps' : List Addr) (H' : Hp) : Prop where
  but : But ps H H'
  tup : Tups H H'
  new : ∀ c ∈ ps', c ∈ ps ∨ H c = none
theorem Stp.free {ps ps' : List Addr} {H H' : Hp} (s : Stp ps H ps' H') {c : Addr} (h : H' c = none) (hc : c ∉ ps) : H c = none := by
  cases q : H c with
  | none => rfl
  | some o => rw [s.but c o q hc] at h; cases h
theorem Stp.free' {ps ps' : List Addr} {H H' : Hp} (s : Stp ps H ps' H') {c : Addr} (h : H' c = none) : c ∈ ps ∨ H c = none := by
  by_cases hc : c ∈ ps
  · exact .inl hc
  · exact .inr (s.free h hc)
theorem Stp.trans {ps ps' ps'' : List Addr} {H H' H'' : Hp} (s : Stp ps H ps' H') (t : Stp ps' H' ps'' H'') : Stp ps H ps'' H'' := by
  refine ⟨fun c o h hc => t.but c o (s.but c o h hc) fun hc' => ?_, s.tup.trans t.tup, fun c hc => ?_⟩
  · rcases s.new c hc' with z | z
    · exact hc z
    · rw [z] at h; cases h
  · rcases t.new c hc with z | z
    · exact s.new c z
    · exact s.free' z
theorem Stp.refl (ps : List Addr) (H : Hp) : Stp ps H ps H := ⟨fun _ _ h _ => h, Tups.refl H, fun _ h => .inl h⟩
theorem Same.step {H H' : Hp} (e : Same H H') (ps : List Addr) : Stp ps H ps H' := ⟨fun c o h _ => e c o h, e.tups, fun _ h => .inl h⟩
theorem Stp.weak {ps ps' qs qs' : List Addr} {H H' : Hp} (s : Stp ps H ps' H') (h : ∀ c ∈ ps, c ∈ qs) (h' : ∀ c ∈ qs', c ∈ ps' ∨ c ∈ qs) : Stp qs H qs' H' :=
  ⟨fun c o e hc => s.but c o e fun z => hc (h c z), s.tup, fun c hc => by
    rcases h' c hc with z | z
    · rcases s.new c z with y | y
      · exact .inl (h c y)
      · exact .inr y
    · exact .inl z⟩
theorem Stp.same {ps' : List Addr} {H H' : Hp} (s : Stp [] H ps' H') : Same H H' := fun c o h => s.but c o h List.not_mem_nil
theorem Stp.keep {ps ps' : List Addr} {H H' : Hp} (s : Stp ps H ps' H') {c : Addr} {o : HO} (h : H c = some o) (hc : c ∉ ps) : H' c = some o := s.but c o h hc
theorem Stp.out {ps ps' : List Addr} {H H' : Hp} (s : Stp ps H ps' H') {c : Addr} {o : HO} (h : H c = some o) (hc : c ∉ ps) : c ∉ ps' := fun z => by
  rcases s.new c z with y | y
  · exact hc y
  · rw [y] at h; cases h
theorem Stp.put {ps : List Addr} {H : Hp} {p : Addr} {u o : HO} (h : H p = some u) (hn : ∀ xs, u ≠ .tup xs) (hp : p ∈ ps) : Stp ps H ps (upd H p o) :=
  ⟨fun c o' e hc => by rw [upd_ne (fun z => hc (by rw [z]; exact hp))]; exact e, (Tups.refl H).put h hn, fun _ z => .inl z⟩
theorem Stp.make {ps : List Addr} {H : Hp} {p : Addr} {o : HO} (h : H p = none) : Stp ps H (p :: ps) (upd H p o) :=
  ⟨fun c o' e hc => by rw [upd_ne (ne_of_none e h)]; exact e, (Same.new h).tups, fun c z => by
    rcases List.mem_cons.mp z with rfl | z
    · exact .inr h
    · exact .inl z⟩
theorem Ms.step {ps ps' : List Addr} {H H' : Hp} {xs : List V} {ms : List Msg} (h : Ms H xs ms) (s : Stp ps H ps' H') : Ms H' xs ms := h.tups s.tup
theorem Stp.obj {H : Hp} {p dx : Addr} {o o' : HO} (np : H p = none) (nd : H dx = none) : Stp [] H [p] (upd (upd H dx o) p o') := by
  have e : Same H (upd (upd H dx o) p o') := fun b u h => by rw [upd_ne (ne_of_none h np), upd_ne (ne_of_none h nd)]; exact h
  exact ⟨fun c u h _ => e c u h, e.tups, fun c hc => by
    rw [List.mem_singleton] at hc
    rw [hc]; exact .inr np⟩
/-! ### a word between two statements -/
def tCut (t u : TS) : TS := fun D σ H => ∃ J : St → Hp → Prop, (∀ σ' H', J σ' H' → u D σ' H') ∧ t { D with nx := J } σ H
theorem pss_cut {X : Cx} {st : Stmt} {rest : List Stmt} {t u : TS} (h1 : PS X st t) (h2 : PSs X rest u) : PSs X (st :: rest) (tCut t u) := by
  intro pins s σ H D I h
  obtain ⟨J, hJ, h⟩ := h
  refine wpAny_execs_cons (thn (h1 pins s σ H { D with nx := J } I h) fun f s1 q => ?_)
  cases f with
  | next =>
    obtain ⟨σ', H', I', q⟩ := q
    exact h2 pins s1 σ' H' D I' (hJ _ _ q)
  | ret v => exact q
  | brk => exact q
  | cont => exact q
/-! ### lists of ints, compared -/
/-! ### slices -/
/-! ### comprehensions over messages -/
def PMap (H : Hp) (ms : List Msg) (f : Msg → V) : Nat → List V → Hp → Prop := fun i ys H2 => H2 = H ∧ ys = (ms.take i).map f
def PFlt (H : Hp) (ms : List Msg) (p : Msg → Bool) : Nat → List V → Hp → Prop := fun i ys H2 => H2 = H ∧ Ms H ys ((ms.take i).filter p)
section
variable {K : PySem.W.Frag} {a : Addr} {xs : List V} {ms : List Msg} {g : TG} {tc : TT} {te : TE} {τ : St} {H : Hp} {f : Msg → V} {p : Msg → Bool}
theorem PMap.zero : PMap H ms f 0 [] H := ⟨rfl, by simp⟩
theorem PFlt.zero : PFlt H ms p 0 [] H := ⟨rfl, Ms.nil⟩
theorem szl {n : Nat} (h : n < 1000) : n ≤ sizeLine := by rw [sizeLine_eq]; omega
theorem PMap.step (ha : H a = some (.lst xs)) (hm : Ms H xs ms)
    (hs : ∀ c m (R : VK) (N : Hp → Prop), m ∈ ms → H c = some (mT m) → R (f m) H → g (.ref c) τ H fun σ4 H4 => tc σ4 H4 fun b H5 => if b = true then te σ4 H5 R else N H5) :
    ∀ i ys H2, i < ms.length → PMap H ms f i ys H2 → (Itl K a).go i H2 ∧ ∀ x H3, (Itl K a).yld i H2 x H3 → g x τ H3 fun σ4 H4 => tc σ4 H4 fun b H5 => if b = true then te σ4 H5 fun y H6 => PMap H ms f (i + 1) (ys ++ [y]) H6 else PMap H ms f (i + 1) ys H5 := by
  rintro i ys H2 hi ⟨rfl, rfl⟩
  obtain ⟨c, ec, hc⟩ := hm.get hi
  refine ⟨⟨xs, .ref c, SqL.ofL ha, ec⟩, ?_⟩
  rintro x H3 ⟨rfl, hx⟩
  have hx' := hx xs (SqL.ofL ha)
  rw [ec] at hx'
  obtain rfl := Option.some.inj hx'
  refine hs c _ _ _ (List.getElem_mem hi) hc ⟨rfl, ?_⟩
  rw [List.take_add_one, List.getElem?_eq_getElem hi, List.map_append]; rfl
theorem PMap.done (ha : H a = some (.lst xs)) (hm : Ms H xs ms) {ys : List V} {H2 : Hp} (h : PMap H ms f ms.length ys H2) : (Itl K a).stop ms.length H2 ∧ H = H2 ∧ ys = ms.map f := by
  obtain ⟨rfl, rfl⟩ := h
  rw [List.take_length]
  exact ⟨⟨xs, SqL.ofL ha, by rw [hm.len]; exact Nat.le_refl _⟩, rfl, rfl⟩
theorem PFlt.step (ha : H a = some (.lst xs)) (hm : Ms H xs ms)
    (hs : ∀ c m (R : VK) (N : Hp → Prop), m ∈ ms → H c = some (mT m) → (p m = true → R (.ref c) H) → (p m = false → N H) → g (.ref c) τ H fun σ4 H4 => tc σ4 H4 fun b H5 => if b = true then te σ4 H5 R else N H5) :
    ∀ i ys H2, i < ms.length → PFlt H ms p i ys H2 → (Itl K a).go i H2 ∧ ∀ x H3, (Itl K a).yld i H2 x H3 → g x τ H3 fun σ4 H4 => tc σ4 H4 fun b H5 => if b = true then te σ4 H5 fun y H6 => PFlt H ms p (i + 1) (ys ++ [y]) H6 else PFlt H ms p (i + 1) ys H5 := by
  rintro i ys H2 hi ⟨rfl, hy⟩
  obtain ⟨c, ec, hc⟩ := hm.get hi
  refine ⟨⟨xs, .ref c, SqL.ofL ha, ec⟩, ?_⟩
  rintro x H3 ⟨rfl, hx⟩
  have hx' := hx xs (SqL.ofL ha)
  rw [ec] at hx'
  obtain rfl := Option.some.inj hx'
  refine hs c _ _ _ (List.getElem_mem hi) hc (fun hp => ⟨rfl, ?_⟩) (fun hp => ⟨rfl, ?_⟩)
  · rw [flt_succ hi, if_pos hp]
    exact hy.append (Ms.one hc)
  · rw [flt_succ hi, if_neg (by rw [hp]; decide), List.append_nil]
    exact hy
theorem PFlt.done (ha : H a = some (.lst xs)) (hm : Ms H xs ms) {ys : List V} {H2 : Hp} (h : PFlt H ms p ms.length ys H2) : (Itl K a).stop ms.length H2 ∧ H = H2 ∧ Ms H ys (ms.filter p) := by
  obtain ⟨rfl, hy⟩ := h
  rw [List.take_length] at hy
  exact ⟨⟨xs, SqL.ofL ha, by rw [hm.len]; exact Nat.le_refl _⟩, rfl, hy⟩
end
/-! ### a road -/
structure RS where
  rows : List Msg
  out : List Int
  cut : Bool
def rF (sz : Int) (way : Str) (r d : Addr) (b : Bool) : List (Str × V) := [("size", .int sz), ("way", .str way), ("row", .ref r), ("dropped", .ref d), ("broken", .bl b)]
section
variable {sz : Int} {way : Str} {r d : Addr} {b : Bool}
end
/-- a road stands at p; its list at r, what was left out at d -/
structure RAt (C : Addr) (H : Hp) (p : Addr) (sz : Int) (way : Str) (s : RS) (r d : Addr) : Prop where
  ob : ∃ dx, H p = some (.ins C dx (rF sz way r d s.cut))
  ro : ∃ ys, H r = some (.lst ys) ∧ Ms H ys s.rows
  dr : H d = some (.lst (s.out.map V.int))
  ne : r ≠ d
section
variable {C : Addr} {H H' : Hp} {p : Addr} {sz : Int} {way : Str} {s : RS} {r d : Addr}
theorem RAt.step {ps ps' : List Addr} (h : RAt C H p sz way s r d) (st : Stp ps H ps' H') (hd : ∀ c ∈ [p, r, d], c ∉ ps) : RAt C H' p sz way s r d := by
  obtain ⟨⟨dx, h1⟩, ⟨ys, h2, h3⟩, h4, h5⟩ := h
  exact ⟨⟨dx, st.keep h1 (hd _ (by simp))⟩, ⟨ys, st.keep h2 (hd _ (by simp)), h3.step st⟩, st.keep h4 (hd _ (by simp)), h5⟩
theorem RAt.out {ps ps' : List Addr} (h : RAt C H p sz way s r d) (st : Stp ps H ps' H') (hd : ∀ c ∈ [p, r, d], c ∉ ps) : ∀ c ∈ [p, r, d], c ∉ ps' := by
  obtain ⟨⟨dx, h1⟩, ⟨ys, h2, h3⟩, h4, h5⟩ := h
  intro c hc
  have hc' := hd c hc
  simp only [List.mem_cons, List.not_mem_nil, or_false] at hc
  rcases hc with rfl | rfl | rfl
  · exact st.out h1 hc'
  · exact st.out h2 hc'
  · exact st.out h4 hc'
theorem RAt.same (h : RAt C H p sz way s r d) (e : Same H H') : RAt C H' p sz way s r d := h.step (e.step []) fun _ _ => List.not_mem_nil
/-- what is none of a road's, told by its kind or as new -/
theorem RAt.free (h : RAt C H p sz way s r d) {c : Addr} (hc : H c = none) : c ∉ [p, r, d] := by
  obtain ⟨⟨dx, h1⟩, ⟨ys, h2, h3⟩, h4, h5⟩ := h
  simp [(ne_of_none h1 hc).symm, (ne_of_none h2 hc).symm, (ne_of_none h4 hc).symm]
theorem RAt.npr (h : RAt C H p sz way s r d) : p ≠ r := by
  obtain ⟨⟨dx, h1⟩, ⟨ys, h2, h3⟩, h4, h5⟩ := h
  exact ne_of h1 h2 (by intro z; cases z)
theorem RAt.npd (h : RAt C H p sz way s r d) : p ≠ d := by
  obtain ⟨⟨dx, h1⟩, ⟨ys, h2, h3⟩, h4, h5⟩ := h
  exact ne_of h1 h4 (by intro z; cases z)
end
theorem Stp.up {ps qs : List Addr} {H H' : Hp} (s : Stp ps H ps H') (h : ∀ c ∈ ps, c ∈ qs) : Stp qs H qs H' := s.weak h fun _ z => .inr z
/-! the promises of a road's methods -/
end L2

namespace L2
open PySem PySem.Spec PyProof.Rows PySem.W
/-! ### what a dict's keys are, walked -/
section
variable {X : Cx}
theorem items_keys {P : Program} {w : World} {kvs : List (Key × V)} : ∀ {ws : List (Key × Value)} {vs : List Value}, KV kvs ws → vs.length = ws.length → (∀ (j : Nat) (v : Value), vs[j]? = some v → ∃ k x, ws[j]? = some (k, x) ∧ (mixKind P w).is k v = true) → Vals (kvs.map fun kv => kV kv.1) vs := by
  induction kvs with
  | nil =>
    intro ws vs r e h
    cases r
    rw [List.eq_nil_of_length_eq_zero e]; exact .nil
  | cons kv kvs ih =>
    intro ws vs r e h
    cases r with
    | @cons _ w1 _ ws r1 r2 =>
      cases vs with
      | nil => simp at e
      | cons v vs =>
        refine .cons ?_ (ih r2 (by simpa using e) fun j u hu => h (j + 1) u (by simpa using hu))
        obtain ⟨k, x, hk, hi⟩ := h 0 v rfl
        have hk' : w1 = (k, x) := Option.some.inj hk
        show RelV (kV kv.1) v
        rw [r1.1, hk']
        have hi' : keyIs k v = true := hi
        rcases keyIs_shape hi' with ⟨i, t, e1, e2⟩ | ⟨y, t, e1, e2⟩
        · rw [e1, e2]; exact ⟨t, rfl⟩
        · rw [e1, e2]; exact ⟨t, rfl⟩
theorem coll_keys {d : Addr} {H : Hp} {kvs : List (Key × V)} (hd : H d = some (.dK kvs)) : Coll X (.ref d) H (kvs.map fun kv => kV kv.1) := by
  intro pins s σ v A E Q I r hh hq
  cases r
  obtain ⟨hz, lo, ws, rk, hD⟩ := dk_of I.hok hd
  obtain ⟨ep, hat⟩ := hD.dictAt
  have hl : kvs.length = ws.length := Paired.length rk
  have grow : ∀ b o, s.heap.get? b = some o → (s.heap.push (seqObj "list" #[] 0)).get? b = some o := fun b o e => Heap.get?_push_of_some _ e
  have hat1 : (s.heap.push (seqObj "list" #[] 0)).DictAt (mixKind X.prog X.w) d ws ep := hat.at' fun o e => grow _ _ e
  have ld : d < s.heap.objs.size := hat.lt_size
  unfold collect
  refine wpAny_bind (wpAny_runValue (codeAny_builtin entry_proto_collect' ?_))
  show wpAny _ _ (do again (.builtin "list.__iadd__" ⟨[← newList [], .ref d], []⟩)) _ _ s
  refine wpAny_bind (wpAny_newList (wpAny_pure ⟨Code.quiet_builtin _ (by decide +kernel), codeAny_builtin entry_list_iadd' ?_⟩))
  show wpAny _ _ (Builtin.List.listExtendWith (.ref s.heap.objs.size) (.ref d) (.ref s.heap.objs.size)) _ _ { s with heap := s.heap.push (seqObj "list" #[] 0) }
  rw [Around.under_plainId (show plainId "list.__iadd__" = true by decide +kernel) _]
  have fin : ∀ s' : Shared, (∃ acc c, s'.heap.get? s.heap.objs.size = some { cls := .type "list", dict := none, data := .seq acc c, slots := #[] } ∧ Vals (kvs.map fun kv => kV kv.1) acc.toList ∧ Inv X pins σ H s') →
      wpAny (model X.prog X.w) A (do
        let o ← load s.heap.objs.size
        match o.data with
        | .seq xs _ => pure xs.toList
        | _ => unsupported "internal:collect") Q E s' := by
    rintro s' ⟨acc, c, hS, e, I'⟩
    refine wpAny_bind (wpAny_load hS ?_)
    show wpAny _ _ (pure acc.toList) Q E _
    exact wpAny_pure (hq _ _ e I')
  refine wpAny_mono (PySem.W.kdl_extend (R := fun r s' => r = .ok (.ret (.ref s.heap.objs.size)) ∧ ∃ acc c, s'.heap.get? s.heap.objs.size = some { cls := .type "list", dict := none, data := .seq acc c, slots := #[] } ∧ Vals (kvs.map fun kv => kV kv.1) acc.toList ∧ Inv X pins σ H s')
    (s := { s with heap := s.heap.push (seqObj "list" #[] 0) }) (PySem.W.kdl_dict (knd := mixKind X.prog X.w) (kvs := ws) (ep := ep) lo) hh hat1 s.heap.objs.size (Nat.ne_of_gt ld) (Nat.ne_of_gt ld) _ 0 (Heap.get?_push_size _ rfl) (fun h' tk acc c hk hS hacc => ?_) (show ws.length ≤ sizeLine by omega))
    (fun fi s' hf => ?_) (fun e s' he => nomatch he.1)
  · refine ⟨rfl, acc, c, hS, items_keys rk (by rw [Array.length_toList]; exact hacc.1) (fun j u hu => hacc.2 j u (by rw [← Array.getElem?_toList]; exact hu)), I.kept fun b o eb => hk b o (Nat.ne_of_lt (Heap.lt_size eb)) (grow b o eb)⟩
  · cases fi with
    | done f =>
      obtain ⟨e, g⟩ := hf
      cases e
      exact fin s' g
    | again c' =>
      refine ⟨hf.1, codeAny_mono hf.2 fun r s2 ⟨e, g⟩ => ?_⟩
      subst e
      exact fin s2 g
/-! ### sorted(x) of ints -/
/-- what is walked for sorted(x): a list, or a dict's keys -/
def IntSrc (K : PySem.W.Frag) (x : V) (H : Hp) (ns : List Int) : Prop := (∃ a, x = .ref a ∧ SqL K H a (ns.map V.int)) ∨ ∃ d kvs, x = .ref d ∧ H d = some (.dK kvs) ∧ kvs.map (·.1) = ns.map Sum.inl
theorem IntSrc.coll {x : V} {H : Hp} {ns : List Int} (h : IntSrc X.K x H ns) : Coll X x H (ns.map V.int) := by
  rcases h with ⟨a, rfl, h⟩ | ⟨d, kvs, rfl, h, e⟩
  · exact coll_list h
  · have z := coll_keys (X := X) h
    have e2 : kvs.map (fun kv => kV kv.1) = ns.map V.int := by
      have : kvs.map (fun kv => kV kv.1) = (kvs.map (·.1)).map kV := by rw [List.map_map]; rfl
      rw [this, e, List.map_map]; rfl
    rw [e2] at z
    exact z
/-! ### list(range(..)) -/
def rgs (lo : Int) (n : Nat) : List Int := (List.range n).map fun (i : Nat) => lo + (i : Int)
/-! ### max of a list of ints, also with a default -/
section
variable {prog : Program} {w : World} {A : Around} {I : Addr} {fp wr : List Addr} {G : Array GenState → Array GenState → Prop} {n : Nat} {P : Nat → Value → Prop} {St : Nat → Shared → Prop} {R : Result → Shared → Prop} {kw : List (Str × Value)}
end
end
end L2

namespace L2
open PySem PySem.Spec PyProof.Rows PySem.W
/-! ### a hearer, without heap -/
structure HS where
  heard : List Msg
  held : List Msg
  lost : List Int
def HS.next (s : HS) : Int := (s.heard.length : Int) + (s.lost.length : Int) + 1
def hasN (ms : List Msg) (n : Int) : Bool := ms.any fun m => decide (m.n = n)
def findN (ms : List Msg) (n : Int) : Option Msg := ms.find? fun m => decide (m.n = n)
def dropN (ms : List Msg) (n : Int) : List Msg := ms.filter fun m => decide (m.n ≠ n)
def putM (ms : List Msg) (m : Msg) : List Msg := if hasN ms m.n = true then ms.map (fun x => if x.n = m.n then m else x) else ms ++ [m]
theorem findN_some {ms : List Msg} {n : Int} {m : Msg} (h : findN ms n = some m) : m ∈ ms ∧ m.n = n := ⟨List.mem_of_find?_eq_some h, by simpa using List.find?_some h⟩
theorem findN_none {ms : List Msg} {n : Int} : findN ms n = none ↔ ∀ m ∈ ms, m.n ≠ n := by
  unfold findN
  rw [List.find?_eq_none]
  constructor
  · intro h m hm; simpa using h m hm
  · intro h m hm; simpa using h m hm
theorem findN_mem {ms : List Msg} (d : Diff ms) {m : Msg} (h : m ∈ ms) : findN ms m.n = some m := by
  cases e : findN ms m.n with
  | none => exact absurd rfl (findN_none.mp e m h)
  | some x => rw [d.eq (findN_some e).1 h (findN_some e).2]
theorem hasN_iff {ms : List Msg} {n : Int} : hasN ms n = true ↔ ∃ m ∈ ms, m.n = n := by
  unfold hasN
  rw [List.any_eq_true]
  constructor
  · rintro ⟨m, hm, e⟩; exact ⟨m, hm, of_decide_eq_true e⟩
  · rintro ⟨m, hm, e⟩; exact ⟨m, hm, decide_eq_true e⟩
theorem dropN_mem {ms : List Msg} {n : Int} {m : Msg} : m ∈ dropN ms n ↔ m ∈ ms ∧ m.n ≠ n := by
  unfold dropN
  rw [List.mem_filter]
  simp
theorem dropN_lt {ms : List Msg} {m : Msg} (h : m ∈ ms) : (dropN ms m.n).length < ms.length := by
  unfold dropN
  exact List.length_filter_lt_length_iff_exists.mpr ⟨m, h, by simp⟩
theorem dropN_diff {ms : List Msg} {n : Int} (d : Diff ms) : Diff (dropN ms n) := (List.filter_sublist.map Msg.n).nodup d
theorem dropN_len {ms : List Msg} (d : Diff ms) {m : Msg} (h : m ∈ ms) : (dropN ms m.n).length + 1 = ms.length := by
  induction ms with
  | nil => cases h
  | cons x r ih =>
    have d' : Diff r := (List.nodup_cons.mp d).2
    have hx : x.n ∉ r.map (·.n) := (List.nodup_cons.mp d).1
    by_cases e : x.n = m.n
    · have : dropN (x :: r) m.n = r := by
        unfold dropN
        rw [List.filter_cons_of_neg (by simp [e])]
        refine List.filter_eq_self.mpr fun y hy => ?_
        refine decide_eq_true fun z => hx ?_
        rw [e, ← z]
        exact List.mem_map_of_mem hy
      rw [this]; rfl
    · have hm : m ∈ r := by
        rcases List.mem_cons.mp h with rfl | z
        · exact absurd rfl e
        · exact z
      have : dropN (x :: r) m.n = x :: dropN r m.n := by
        unfold dropN
        rw [List.filter_cons_of_pos (by simp [e])]
      rw [this, List.length_cons, List.length_cons, ← ih d' hm]
/-- what is there of this number is this one: putting changes nothing, or adds it -/
theorem putM_new {ms : List Msg} {m : Msg} (h : ∀ x ∈ ms, x.n ≠ m.n) : putM ms m = ms ++ [m] := by
  unfold putM
  rw [if_neg]
  intro z
  obtain ⟨x, hx, e⟩ := hasN_iff.mp z
  exact h x hx e
theorem putM_old {ms : List Msg} {m : Msg} (h : m ∈ ms) (hs : ∀ x ∈ ms, x.n = m.n → x = m) : putM ms m = ms := by
  unfold putM
  rw [if_pos (hasN_iff.mpr ⟨m, h, rfl⟩)]
  have : ms.map (fun x => if x.n = m.n then m else x) = ms.map id := List.map_congr_left fun x hx => by
    show (if x.n = m.n then m else x) = x
    by_cases e : x.n = m.n
    · rw [if_pos e, hs x hx e]
    · rw [if_neg e]
  rw [this, List.map_id]
theorem putM_case {ms : List Msg} {m : Msg} (hs : ∀ x ∈ ms, x.n = m.n → x = m) : (m ∈ ms ∧ putM ms m = ms) ∨ ((∀ x ∈ ms, x.n ≠ m.n) ∧ putM ms m = ms ++ [m]) := by
  by_cases h : m ∈ ms
  · exact .inl ⟨h, putM_old h hs⟩
  · have h' : ∀ x ∈ ms, x.n ≠ m.n := fun x hx e => h (hs x hx e ▸ hx)
    exact .inr ⟨h', putM_new h'⟩
theorem putM_mem {ms : List Msg} {m x : Msg} (hs : ∀ x ∈ ms, x.n = m.n → x = m) : x ∈ putM ms m ↔ x ∈ ms ∨ x = m := by
  rcases putM_case hs with ⟨h, e⟩ | ⟨h, e⟩
  · rw [e]
    constructor
    · exact .inl
    · rintro (z | rfl)
      · exact z
      · exact h
  · rw [e, List.mem_append, List.mem_singleton]
theorem putM_diff {ms : List Msg} {m : Msg} (hs : ∀ x ∈ ms, x.n = m.n → x = m) (d : Diff ms) : Diff (putM ms m) := by
  rcases putM_case hs with ⟨h, e⟩ | ⟨h, e⟩
  · rw [e]; exact d
  · rw [e]
    unfold Diff
    rw [List.map_append]
    refine List.nodup_append.mpr ⟨d, by simp, fun a ha b hb => ?_⟩
    obtain ⟨x, hx, rfl⟩ := List.mem_map.mp ha
    simp only [List.map_cons, List.map_nil, List.mem_singleton] at hb
    rw [hb]; exact h x hx
theorem putM_len {ms : List Msg} {m : Msg} : (putM ms m).length ≤ ms.length + 1 := by
  unfold putM
  split
  · rw [List.length_map]; omega
  · rw [List.length_append]; exact Nat.le_refl _
/-- those that are held are heard as far as there are -/
def hearS (s : HS) : HS :=
  match h : findN s.held s.next with
  | none => s
  | some m => hearS ⟨s.heard ++ [m], dropN s.held m.n, s.lost⟩
termination_by s.held.length
decreasing_by exact dropN_lt (findN_some h).1
theorem hearS_none {s : HS} (h : findN s.held s.next = none) : hearS s = s := by
  rw [hearS]
  split
  · rfl
  · rename_i m e; rw [h] at e; cases e
theorem hearS_some {s : HS} {m : Msg} (h : findN s.held s.next = some m) : hearS s = hearS ⟨s.heard ++ [m], dropN s.held m.n, s.lost⟩ := by
  rw [hearS]
  split
  · rename_i e; rw [h] at e; cases e
  · rename_i m' e
    rw [h] at e
    cases e; rfl
/-- what holds of a hearing step by step holds behind it -/
theorem hearS_ind {P : HS → Prop} (hs : ∀ s m, P s → findN s.held s.next = some m → P ⟨s.heard ++ [m], dropN s.held m.n, s.lost⟩) : ∀ s, P s → P (hearS s) ∧ findN (hearS s).held (hearS s).next = none
  | s, h => by
    cases e : findN s.held s.next with
    | none => rw [hearS_none e]; exact ⟨h, e⟩
    | some m =>
      rw [hearS_some e]
      exact hearS_ind hs ⟨s.heard ++ [m], dropN s.held m.n, s.lost⟩ (hs s m h e)
termination_by s => s.held.length
decreasing_by exact dropN_lt (findN_some e).1
theorem next_snoc {h : List Msg} {d : List Msg} {l : List Int} {m : Msg} : HS.next ⟨h ++ [m], d, l⟩ = HS.next ⟨h, d, l⟩ + 1 := by
  show ((h ++ [m]).length : Int) + l.length + 1 = (h.length : Int) + l.length + 1 + 1
  rw [List.length_append]; show ((h.length + 1 : Nat) : Int) + _ + 1 = _; omega
def addS (s : HS) (m : Msg) : HS := if m.n ≥ s.next then ⟨s.heard, putM s.held m, s.lost⟩ else s
def takeS (s : HS) (ms : List Msg) : HS := hearS (ms.foldl addS s)
theorem addS_heard (s : HS) (m : Msg) : (addS s m).heard = s.heard := by unfold addS; split <;> rfl
theorem addS_lost (s : HS) (m : Msg) : (addS s m).lost = s.lost := by unfold addS; split <;> rfl
theorem adds_heard : ∀ (ms : List Msg) (s : HS), (ms.foldl addS s).heard = s.heard
  | [], _ => rfl
  | m :: r, s => by rw [List.foldl_cons, adds_heard r, addS_heard]
theorem adds_lost : ∀ (ms : List Msg) (s : HS), (ms.foldl addS s).lost = s.lost
  | [], _ => rfl
  | m :: r, s => by rw [List.foldl_cons, adds_lost r, addS_lost]
theorem adds_next (ms : List Msg) (s : HS) : (ms.foldl addS s).next = s.next := by unfold HS.next; rw [adds_heard, adds_lost]
/-- no other of a number that is known -/
def Fits (s : HS) (ms : List Msg) : Prop := (∀ m ∈ ms, ∀ x, x ∈ s.heard ∨ x ∈ s.held → x.n = m.n → x = m) ∧ ∀ m ∈ ms, ∀ x ∈ ms, x.n = m.n → x = m
/-! ### tables from numbers to messages -/
inductive DI (H : Hp) : List (Key × V) → List Msg → Prop
  | nil : DI H [] []
  | cons {v : V} {m : Msg} {r : List (Key × V)} {ms : List Msg} : Has H v (mD m) → DI H r ms → DI H ((Sum.inl m.n, v) :: r) (m :: ms)
theorem DI.same {H H' : Hp} (e : Same H H') : ∀ {kvs : List (Key × V)} {ms : List Msg}, DI H kvs ms → DI H' kvs ms
  | _, _, .nil => .nil
  | _, _, .cons h t => .cons (h.same e) (DI.same e t)
theorem DI.tups {H H' : Hp} (e : Tups H H') : ∀ {kvs : List (Key × V)} {ms : List Msg}, DI H kvs ms → DI H' kvs ms
  | _, _, .nil => .nil
  | _, _, .cons h t => .cons (h.tups e (noLst_m _)) (DI.tups e t)
theorem DI.len {H : Hp} : ∀ {kvs : List (Key × V)} {ms : List Msg}, DI H kvs ms → kvs.length = ms.length
  | _, _, .nil => rfl
  | _, _, .cons _ t => by rw [List.length_cons, List.length_cons, DI.len t]
theorem DI.keys {H : Hp} : ∀ {kvs : List (Key × V)} {ms : List Msg}, DI H kvs ms → kvs.map (·.1) = (ms.map (·.n)).map Sum.inl
  | _, _, .nil => rfl
  | _, _, .cons _ t => by rw [List.map_cons, List.map_cons, List.map_cons, DI.keys t]
theorem DI.any {H : Hp} (n : Int) : ∀ {kvs : List (Key × V)} {ms : List Msg}, DI H kvs ms → (kvs.any fun kv => decide (kv.1 = Sum.inl n)) = hasN ms n
  | _, _, .nil => rfl
  | _, _, .cons (m := m') h r => by
    unfold hasN
    rw [List.any_cons, List.any_cons, DI.any n r]
    congr 1
    exact decide_eq_decide.mpr ⟨fun z => Sum.inl.inj z, fun z => congrArg Sum.inl z⟩
theorem DI.repl {H : Hp} {v : V} {m : Msg} (h : Has H v (mD m)) : ∀ {kvs : List (Key × V)} {ms : List Msg}, DI H kvs ms → DI H (kvs.map fun kv => if kv.1 = Sum.inl m.n then (kv.1, v) else kv) (ms.map fun x => if x.n = m.n then m else x)
  | _, _, .nil => .nil
  | _, _, .cons (m := m') h' r => by
    rw [List.map_cons, List.map_cons]
    by_cases e : m'.n = m.n
    · rw [if_pos (by rw [e]), if_pos e]
      show DI H ((Sum.inl m'.n, v) :: _) _
      rw [e]; exact .cons h (DI.repl h r)
    · rw [if_neg (fun z => e (Sum.inl.inj z)), if_neg e]; exact .cons h' (DI.repl h r)
theorem DI.snoc {H : Hp} {v : V} {m : Msg} (h : Has H v (mD m)) : ∀ {kvs : List (Key × V)} {ms : List Msg}, DI H kvs ms → DI H (kvs ++ [(Sum.inl m.n, v)]) (ms ++ [m])
  | _, _, .nil => .cons h .nil
  | _, _, .cons h' r => .cons h' (DI.snoc h r)
theorem DI.put {H : Hp} {v : V} {m : Msg} (h : Has H v (mD m)) {kvs : List (Key × V)} {ms : List Msg} (d : DI H kvs ms) : DI H (putK kvs (Sum.inl m.n) v) (putM ms m) := by
  unfold putK putM
  rw [d.any m.n]
  split
  · exact d.repl h
  · exact d.snoc h
theorem DI.drop {H : Hp} (n : Int) : ∀ {kvs : List (Key × V)} {ms : List Msg}, DI H kvs ms → DI H (dropK kvs (Sum.inl n)) (dropN ms n)
  | _, _, .nil => .nil
  | _, _, .cons (m := m') h r => by
    unfold dropK dropN
    by_cases e : m'.n = n
    · rw [List.filter_cons_of_neg (by simp [e]), List.filter_cons_of_neg (by simp [e])]
      exact DI.drop n r
    · rw [List.filter_cons_of_pos (by simpa using e), List.filter_cons_of_pos (by simpa using e)]
      exact .cons h (DI.drop n r)
theorem DI.none {H : Hp} (n : Int) : ∀ {kvs : List (Key × V)} {ms : List Msg}, DI H kvs ms → findN ms n = none → valV kvs (Sum.inl n) = none
  | _, _, .nil, _ => rfl
  | _, _, .cons (m := m') h r, e => by
    have e' := findN_none.mp e
    rw [valV_neg (by intro z; exact e' m' (by simp) (Sum.inl.inj z))]
    exact DI.none n r (findN_none.mpr fun x hx => e' x (by simp [hx]))
theorem DI.some {H : Hp} (n : Int) {m : Msg} : ∀ {kvs : List (Key × V)} {ms : List Msg}, DI H kvs ms → findN ms n = some m → ∃ c, valV kvs (Sum.inl n) = some (.ref c) ∧ H c = some (mT m)
  | _, _, .nil, e => by cases e
  | _, _, .cons (m := m') h r, e => by
    by_cases z : m'.n = n
    · unfold findN at e
      rw [List.find?_cons_of_pos (by simp [z])] at e
      cases e
      obtain ⟨c, rfl, hc⟩ := has_msg h
      exact ⟨c, valV_pos (by rw [z]), hc⟩
    · unfold findN at e
      rw [List.find?_cons_of_neg (by simp [z])] at e
      obtain ⟨c, h1, h2⟩ := DI.some n r e
      exact ⟨c, by rw [valV_neg (by intro y; exact z (Sum.inl.inj y))]; exact h1, h2⟩
theorem hasN_find {ms : List Msg} {n : Int} : hasN ms n = (findN ms n).isSome := by
  cases e : findN ms n with
  | none =>
    have := findN_none.mp e
    rw [show hasN ms n = false from Bool.eq_false_iff.mpr fun z => by obtain ⟨m, hm, en⟩ := hasN_iff.mp z; exact this m hm en]; rfl
  | some m => exact hasN_iff.mpr ⟨m, (findN_some e).1, (findN_some e).2⟩
theorem DI.isSome {H : Hp} {kvs : List (Key × V)} {ms : List Msg} (d : DI H kvs ms) (n : Int) : (valV kvs (Sum.inl n)).isSome = hasN ms n := by
  rw [hasN_find]
  cases e : findN ms n with
  | none => rw [d.none n e]; rfl
  | some m => obtain ⟨c, hc, _⟩ := d.some n e; rw [hc]; rfl
/-! ### a hearer in the heap -/
def hF (nx : Int) (q h k g : Addr) (ex : List (Str × V)) : List (Str × V) := ("next_number", .int nx) :: ("past", .ref q) :: ("held", .ref h) :: ("known", .ref k) :: ("given_up", .ref g) :: ex
section
variable {nx : Int} {q h k g : Addr} {ex : List (Str × V)}
theorem hF_next : (hF nx q h k g ex).lookup ("next_number" : Str) = some (V.int nx) := lk_hit
theorem hF_past : (hF nx q h k g ex).lookup ("past" : Str) = some (V.ref q) := (lk_miss (by decide +kernel)).trans lk_hit
theorem hF_held : (hF nx q h k g ex).lookup ("held" : Str) = some (V.ref h) := (lk_miss (by decide +kernel)).trans ((lk_miss (by decide +kernel)).trans lk_hit)
theorem hF_known : (hF nx q h k g ex).lookup ("known" : Str) = some (V.ref k) := (lk_miss (by decide +kernel)).trans ((lk_miss (by decide +kernel)).trans ((lk_miss (by decide +kernel)).trans lk_hit))
theorem hF_no {f : Str} (h1 : ¬ f = "next_number") (h2 : ¬ f = "past") (h3 : ¬ f = "held") (h4 : ¬ f = "known") (h5 : ¬ f = "given_up") : (hF nx q h k g ex).lookup f = ex.lookup f :=
  (lk_miss h1).trans ((lk_miss h2).trans ((lk_miss h3).trans ((lk_miss h4).trans (lk_miss h5))))
theorem hF_make : putF "given_up" (.ref g) (putF "known" (.ref k) (putF "held" (.ref h) (putF "past" (.ref q) (putF "next_number" (.int nx) [])))) = hF nx q h k g [] := by
  show putF "given_up" (.ref g) (putF "known" (.ref k) (putF "held" (.ref h) (putF "past" (.ref q) [("next_number", .int nx)]))) = _
  rw [pf_miss (by decide +kernel)]
  show putF "given_up" (.ref g) (putF "known" (.ref k) (putF "held" (.ref h) [("next_number", .int nx), ("past", .ref q)])) = _
  rw [pf_miss (by decide +kernel), pf_miss (by decide +kernel)]
  show putF "given_up" (.ref g) (putF "known" (.ref k) [("next_number", .int nx), ("past", .ref q), ("held", .ref h)]) = _
  rw [pf_miss (by decide +kernel), pf_miss (by decide +kernel), pf_miss (by decide +kernel)]
  show putF "given_up" (.ref g) [("next_number", .int nx), ("past", .ref q), ("held", .ref h), ("known", .ref k)] = _
  rw [pf_miss (by decide +kernel), pf_miss (by decide +kernel), pf_miss (by decide +kernel), pf_miss (by decide +kernel)]
  rfl
theorem hF_setNext {nx' : Int} : putF "next_number" (.int nx') (hF nx q h k g ex) = hF nx' q h k g ex := by
  unfold hF
  rw [pf_hit]
end
structure HearC (K : PySem.W.Frag) (C : Addr) : Prop where
  cl_Hearer : Cls K C
  n_next_number : NoAttr K C "next_number"
  n_past : NoAttr K C "past"
  n_held : NoAttr K C "held"
  n_known : NoAttr K C "known"
  n_given_up : NoAttr K C "given_up"
/-- what belongs to a hearer -/
structure HA where
  p : Addr
  q : Addr
  h : Addr
  k : Addr
  g : Addr
def HA.fp (a : HA) : List Addr := [a.p, a.q, a.h, a.k, a.g]
/-- the table of all that are known -/
def KnowN (H : Hp) (k : Addr) (s : HS) : Prop := ∃ kvs ms, H k = some (.dK kvs) ∧ DI H kvs ms ∧ Diff ms ∧ ms.length ≤ s.heard.length + s.held.length ∧ ∀ m, m ∈ ms ↔ m ∈ s.heard ∨ m ∈ s.held
/-- a hearer: its number, its table of those held, and what it has heard may be ahead of one another while it hears -/
structure HAt (C : Addr) (H : Hp) (a : HA) (s : HS) (ex : List (Str × V)) : Prop where
  ob : ∃ dx, H a.p = some (.ins C dx (hF s.next a.q a.h a.k a.g ex))
  pa : ∃ ys, H a.q = some (.lst ys) ∧ Ms H ys s.heard
  he : ∃ kvs, H a.h = some (.dK kvs) ∧ DI H kvs s.held
  kn : KnowN H a.k s
  lo : H a.g = some (.lst (s.lost.map V.int))
  nqg : a.q ≠ a.g
  nhk : a.h ≠ a.k
  exn : ∀ f : Str, ¬ f = "keep" → ex.lookup f = none
  exl : ex.length < 100
theorem hF_len {nx : Int} {q h k g : Addr} {ex : List (Str × V)} (hx : ex.length < 100) : (hF nx q h k g ex).length < 1000 := by show ex.length + 1 + 1 + 1 + 1 + 1 < 1000; omega
section
variable {C : Addr} {H H' : Hp} {a : HA} {s : HS} {ex : List (Str × V)}
theorem KnowN.tups {k : Addr} (h : KnowN H k s) (e : H' k = H k) (t : Tups H H') : KnowN H' k s := by
  obtain ⟨kvs, ms, h1, h2, h3, h4, h5⟩ := h
  exact ⟨kvs, ms, by rw [e]; exact h1, h2.tups t, h3, h4, h5⟩
theorem HAt.live (h : HAt C H a s ex) : ∀ c ∈ a.fp, ∃ o, H c = some o := by
  obtain ⟨⟨dx, h1⟩, ⟨ys, h2, _⟩, ⟨kvs, h3, _⟩, ⟨kvs', _, h4, _⟩, h5, _, _, _, _⟩ := h
  intro c hc
  simp only [HA.fp, List.mem_cons, List.not_mem_nil, or_false] at hc
  rcases hc with rfl | rfl | rfl | rfl | rfl
  · exact ⟨_, h1⟩
  · exact ⟨_, h2⟩
  · exact ⟨_, h3⟩
  · exact ⟨_, h4⟩
  · exact ⟨_, h5⟩
theorem HAt.step {ps ps' : List Addr} (h : HAt C H a s ex) (st : Stp ps H ps' H') (hd : ∀ c ∈ a.fp, c ∉ ps) : HAt C H' a s ex := by
  have hd' : ∀ c, c ∈ a.fp → c ∉ ps := hd
  obtain ⟨⟨dx, h1⟩, ⟨ys, h2, h3⟩, ⟨kvs, h4, h5⟩, hk, h6, h7, h8, h9, h10⟩ := id h
  have e : ∀ c ∈ a.fp, H' c = H c := fun c hc => by
    obtain ⟨o, ho⟩ := h.live c hc
    rw [ho]; exact st.keep ho (hd c hc)
  exact ⟨⟨dx, by rw [e _ (by simp [HA.fp])]; exact h1⟩, ⟨ys, by rw [e _ (by simp [HA.fp])]; exact h2, h3.step st⟩, ⟨kvs, by rw [e _ (by simp [HA.fp])]; exact h4, h5.tups st.tup⟩, hk.tups (e _ (by simp [HA.fp])) st.tup, by rw [e _ (by simp [HA.fp])]; exact h6, h7, h8, h9, h10⟩
theorem HAt.same (h : HAt C H a s ex) (e : Same H H') : HAt C H' a s ex := h.step (e.step []) fun _ _ => List.not_mem_nil
theorem HAt.out {ps ps' : List Addr} (h : HAt C H a s ex) (st : Stp ps H ps' H') (hd : ∀ c ∈ a.fp, c ∉ ps) : ∀ c ∈ a.fp, c ∉ ps' := fun c hc => by
  obtain ⟨o, ho⟩ := h.live c hc
  exact st.out ho (hd c hc)
theorem HAt.free (h : HAt C H a s ex) {c : Addr} (hc : H c = none) : c ∉ a.fp := fun z => by
  obtain ⟨o, ho⟩ := h.live c z
  rw [ho] at hc; cases hc
theorem HAt.apart (h : HAt C H a s ex) : a.p ≠ a.q ∧ a.p ≠ a.h ∧ a.p ≠ a.k ∧ a.p ≠ a.g ∧ a.q ≠ a.h ∧ a.q ≠ a.k ∧ a.q ≠ a.g ∧ a.h ≠ a.k ∧ a.h ≠ a.g ∧ a.k ≠ a.g := by
  obtain ⟨⟨dx, h1⟩, ⟨ys, h2, _⟩, ⟨kvs, h3, _⟩, ⟨kvs', _, h4, _⟩, h5, h6, h7, _, _⟩ := h
  exact ⟨ne_of h1 h2 (by intro z; cases z), ne_of h1 h3 (by intro z; cases z), ne_of h1 h4 (by intro z; cases z), ne_of h1 h5 (by intro z; cases z), ne_of h2 h3 (by intro z; cases z), ne_of h2 h4 (by intro z; cases z), h6, h7, ne_of h3 h5 (by intro z; cases z), ne_of h4 h5 (by intro z; cases z)⟩
end
def HS.small (s : HS) : Prop := s.heard.length + s.held.length + s.lost.length < 3000
def hs0 : HS := ⟨[], [], []⟩
/-! the promises of a hearer's methods -/
section
variable (C : Addr) (ex : List (Str × V))
def spInitH : Sp := fun vs H Q _ => ∃ (p dx : Addr), vs = [.ref p] ∧ H p = some (.ins C dx []) ∧ ∀ a H', a.p = p → HAt C H' a hs0 [] → Stp [p] H a.fp H' → Q .non H'
def spExpects : Sp := fun vs H Q _ => ∃ a s ex, vs = [.ref (HA.p a)] ∧ HAt C H a s ex ∧ Q (.int s.next) H
def spHear : Sp := fun vs H Q _ => ∃ a s ex, vs = [.ref (HA.p a)] ∧ HAt C H a s ex ∧ Diff s.held ∧ s.small ∧
  ∀ l ys found H', HAt C H' a (hearS s) ex → (hearS s).heard = s.heard ++ found → Stp a.fp H (l :: a.fp) H' → H l = none → l ∉ a.fp → H' l = some (.lst ys) → Ms H' ys found → Q (.ref l) H'
end
end L2

namespace L2
open PySem PySem.Spec PyProof.Rows PySem.W
/-! ### rows: numbers 1, 2, .. -/
theorem Rows.at {R : List Msg} (h : Rows R) {m : Msg} (hm : m ∈ R) : ∃ (i : Nat) (hi : i < R.length), R[i] = m ∧ m.n = (i : Int) + 1 := by
  obtain ⟨i, hi, e⟩ := List.getElem_of_mem hm
  exact ⟨i, hi, e, by rw [← e]; exact h i hi⟩
theorem Rows.mem_take {R : List Msg} (h : Rows R) {m : Msg} {k : Nat} : m ∈ R.take k ↔ m ∈ R ∧ m.n ≤ (k : Int) := by
  constructor
  · intro hm
    obtain ⟨i, hi, e⟩ := List.getElem_of_mem hm
    rw [List.length_take] at hi
    rw [List.getElem_take] at e
    refine ⟨by rw [← e]; exact List.getElem_mem _, ?_⟩
    have := h i (by omega)
    rw [e] at this; omega
  · rintro ⟨hm, hn⟩
    obtain ⟨i, hi, e, en⟩ := h.at hm
    rw [List.mem_take_iff_getElem]
    exact ⟨i, by omega, e⟩
theorem Rows.uniq {R : List Msg} (h : Rows R) {a b : Msg} (ha : a ∈ R) (hb : b ∈ R) (e : a.n = b.n) : a = b := h.rise.diff.eq ha hb e
/-- what a hearer of rows is behind some of them -/
structure Tk0 (R : List Msg) (s : HS) (seen : Msg → Prop) : Prop where
  pre : s.heard = R.take s.heard.length
  lost : s.lost = []
  held : ∀ m ∈ s.held, m ∈ R ∧ s.next ≤ m.n
  dh : Diff s.held
  mem : ∀ m, (m ∈ s.heard ∨ m ∈ s.held) ↔ seen m
structure Tk (R : List Msg) (s : HS) (seen : Msg → Prop) : Prop extends Tk0 R s seen where
  gt : ∀ m ∈ s.held, s.next < m.n
theorem Tk.start {R : List Msg} : Tk R hs0 fun _ => False where
  pre := rfl
  lost := rfl
  held := fun m h => absurd h List.not_mem_nil
  dh := List.nodup_nil
  mem := fun m => by simp [hs0]
  gt := fun m h => absurd h List.not_mem_nil
theorem Tk0.next {R : List Msg} {s : HS} {seen : Msg → Prop} (t : Tk0 R s seen) : s.next = (s.heard.length : Int) + 1 := by
  show (s.heard.length : Int) + (s.lost.length : Int) + 1 = _
  rw [t.lost]; show _ + 0 + 1 = _; omega
theorem Tk0.le {R : List Msg} {s : HS} {seen : Msg → Prop} (t : Tk0 R s seen) : s.heard.length ≤ R.length := by
  have := congrArg List.length t.pre
  rw [List.length_take] at this; omega
theorem Tk0.congr {R : List Msg} {s : HS} {a b : Msg → Prop} (t : Tk0 R s a) (h : ∀ m, a m ↔ b m) : Tk0 R s b := ⟨t.pre, t.lost, t.held, t.dh, fun m => (t.mem m).trans (h m)⟩
theorem Tk.congr {R : List Msg} {s : HS} {a b : Msg → Prop} (t : Tk R s a) (h : ∀ m, a m ↔ b m) : Tk R s b := ⟨t.toTk0.congr h, t.gt⟩
theorem Tk0.subR {R : List Msg} {s : HS} {seen : Msg → Prop} (t : Tk0 R s seen) : ∀ m, m ∈ s.heard ∨ m ∈ s.held → m ∈ R := fun m h => by
  rcases h with h | h
  · rw [t.pre] at h; exact List.mem_of_mem_take h
  · exact (t.held m h).1
theorem Tk0.add {R : List Msg} (hR : Rows R) {s : HS} {seen : Msg → Prop} (t : Tk0 R s seen) {m : Msg} (hm : m ∈ R) : Tk0 R (addS s m) fun x => seen x ∨ x = m := by
  unfold addS
  by_cases h : m.n ≥ s.next
  · rw [if_pos h]
    have hs : ∀ x ∈ s.held, x.n = m.n → x = m := fun x hx e => hR.uniq (t.held x hx).1 hm e
    refine ⟨t.pre, t.lost, fun x hx => ?_, putM_diff hs t.dh, fun x => ?_⟩
    · rcases (putM_mem hs).mp hx with z | rfl
      · exact t.held x z
      · exact ⟨hm, h⟩
    · show (x ∈ s.heard ∨ x ∈ putM s.held m) ↔ _
      rw [putM_mem hs, ← t.mem x, or_assoc]
  · rw [if_neg h]
    refine t.congr fun x => ⟨.inl, fun z => ?_⟩
    rcases z with z | rfl
    · exact z
    · rw [← t.mem]
      refine .inl ?_
      rw [t.pre, hR.mem_take]
      have := t.next
      exact ⟨hm, by omega⟩
theorem Tk0.adds {R : List Msg} (hR : Rows R) : ∀ (ms : List Msg) {s : HS} {seen : Msg → Prop}, Tk0 R s seen → (∀ m ∈ ms, m ∈ R) → Tk0 R (ms.foldl addS s) fun x => seen x ∨ x ∈ ms
  | [], s, seen, t, _ => t.congr fun x => ⟨.inl, fun z => by
      rcases z with z | z
      · exact z
      · exact nomatch z⟩
  | m :: r, s, seen, t, h => by
    rw [List.foldl_cons]
    refine (Tk0.adds hR r (t.add hR (h m (by simp))) fun x hx => h x (by simp [hx])).congr fun x => ?_
    rw [List.mem_cons, or_assoc]
theorem Tk0.hear {R : List Msg} (hR : Rows R) {s : HS} {seen : Msg → Prop} (t : Tk0 R s seen) : Tk R (hearS s) seen := by
  have ⟨h, e⟩ := hearS_ind (P := fun s => Tk0 R s seen) (fun s m t e => by
    obtain ⟨hm, hn⟩ := findN_some e
    obtain ⟨hmR, _⟩ := t.held m hm
    obtain ⟨i, hi, ei, en⟩ := hR.at hmR
    have hx := t.next
    have hii : i = s.heard.length := by omega
    refine ⟨?_, t.lost, fun x hx' => ?_, dropN_diff t.dh, fun x => ?_⟩
    · show s.heard ++ [m] = R.take (s.heard ++ [m]).length
      rw [List.length_append, List.length_singleton, List.take_add_one, ← t.pre, List.getElem?_eq_getElem (by omega)]
      have : R[s.heard.length]'(by omega) = m := by subst hii; exact ei
      rw [this]; rfl
    · obtain ⟨h1, h2⟩ := dropN_mem.mp hx'
      have h3 := (t.held x h1).2
      refine ⟨(t.held x h1).1, ?_⟩
      rw [next_snoc]
      show s.next + 1 ≤ x.n
      omega
    · show (x ∈ s.heard ++ [m] ∨ x ∈ dropN s.held m.n) ↔ _
      rw [← t.mem x, List.mem_append, List.mem_singleton, dropN_mem]
      constructor
      · rintro ((z | rfl) | ⟨z, _⟩)
        · exact .inl z
        · exact .inr hm
        · exact .inr z
      · rintro (z | z)
        · exact .inl (.inl z)
        · by_cases ee : x.n = m.n
          · exact .inl (.inr (t.dh.eq z hm ee))
          · exact .inr ⟨z, ee⟩) s t
  refine ⟨h, fun m hm => ?_⟩
  have h1 := (h.held m hm).2
  have h2 := findN_none.mp e m hm
  omega
theorem Tk.take {R : List Msg} (hR : Rows R) {s : HS} {seen : Msg → Prop} (t : Tk R s seen) {ms : List Msg} (h : ∀ m ∈ ms, m ∈ R) : Tk R (takeS s ms) fun x => seen x ∨ x ∈ ms := (t.toTk0.adds hR ms h).hear hR
theorem Tk.fits {R : List Msg} (hR : Rows R) {s : HS} {seen : Msg → Prop} (t : Tk R s seen) {ms : List Msg} (h : ∀ m ∈ ms, m ∈ R) : Fits s ms :=
  ⟨fun m hm x hx e => hR.uniq (t.toTk0.subR x hx) (h m hm) e, fun m hm x hx e => hR.uniq (h x hx) (h m hm) e⟩
/-- all were seen: all are heard -/
theorem Tk.all {R : List Msg} (hR : Rows R) {s : HS} {seen : Msg → Prop} (t : Tk R s seen) (h : ∀ m ∈ R, seen m) : s.heard = R ∧ s.held = [] := by
  have hl := t.toTk0.le
  have hx := t.toTk0.next
  have e : s.heard.length = R.length := by
    by_cases z : s.heard.length < R.length
    · have hm := (t.mem _).mpr (h _ (List.getElem_mem z))
      have hn := hR _ z
      rcases hm with y | y
      · have y' : R[s.heard.length] ∈ R.take s.heard.length := by rw [← t.pre]; exact y
        rw [hR.mem_take] at y'; omega
      · have := t.gt _ y; omega
    · omega
  have e2 : s.heard = R := by rw [t.pre, e, List.take_length]
  refine ⟨e2, ?_⟩
  cases q : s.held with
  | nil => rfl
  | cons m r =>
    have hm : m ∈ s.held := by rw [q]; simp
    have h1 := t.gt m hm
    obtain ⟨i, hi, _, en⟩ := hR.at (t.held m hm).1
    omega
/-! ### what is early and what is missing are all up to the greatest -/
theorem rgs_mem {lo : Int} {n : Nat} {x : Int} : x ∈ rgs lo n ↔ lo ≤ x ∧ x < lo + (n : Int) := by
  unfold rgs
  rw [List.mem_map]
  constructor
  · rintro ⟨i, hi, rfl⟩
    rw [List.mem_range] at hi; omega
  · rintro ⟨h1, h2⟩
    exact ⟨(x - lo).toNat, List.mem_range.mpr (by omega), by omega⟩
theorem hear_len {s : HS} (d : Diff s.held) : (hearS s).heard.length + (hearS s).held.length = s.heard.length + s.held.length := by
  refine ((hearS_ind (P := fun t => Diff t.held ∧ t.heard.length + t.held.length = s.heard.length + s.held.length) ?_ s ⟨d, rfl⟩).1).2
  rintro t m ⟨h1, h2⟩ e
  refine ⟨dropN_diff h1, ?_⟩
  have := dropN_len h1 (findN_some e).1
  show (t.heard ++ [m]).length + (dropN t.held m.n).length = _
  rw [List.length_append, List.length_singleton]; omega
theorem adds_len : ∀ (ms : List Msg) (s : HS), (ms.foldl addS s).held.length ≤ s.held.length + ms.length
  | [], s => Nat.le_refl _
  | m :: r, s => by
    rw [List.foldl_cons, List.length_cons]
    have h1 := adds_len r (addS s m)
    have h2 : (addS s m).held.length ≤ s.held.length + 1 := by
      unfold addS
      split
      · exact putM_len
      · omega
    omega
theorem Tk.len {R : List Msg} (hR : Rows R) {s : HS} {seen : Msg → Prop} (t : Tk R s seen) {ms : List Msg} (h : ∀ m ∈ ms, m ∈ R) : (takeS s ms).heard.length + (takeS s ms).held.length ≤ s.heard.length + s.held.length + ms.length := by
  have h1 := hear_len (t.toTk0.adds hR ms h).dh
  have h2 := adds_len ms s
  have h3 := congrArg List.length (adds_heard ms s)
  unfold takeS
  omega
theorem Tk.small {R : List Msg} (hR : Rows R) {s : HS} {seen : Msg → Prop} (t : Tk R s seen) (hl : R.length < 900) : ∀ m ∈ s.held, -1000 < m.n ∧ m.n < 1000 := fun m hm => by
  obtain ⟨i, hi, _, en⟩ := hR.at (t.held m hm).1
  omega
structure HearK (K : PySem.W.Frag) (mg : Str → Option Value) (C : Addr) : Prop extends HearC K C where
  mg_Hearer : mg "Hearer" = some (.ref C)
end L2

namespace L2
open PySem PySem.Spec PyProof.Rows PySem.W
/-! ### roads, over the whole -/
end L2

namespace L2
open PySem PySem.Spec PyProof.Rows PySem.W
/-! ### a hearer of rows, with numbers given up -/
structure Hw0 (R : List Msg) (s : HS) : Prop where
  sub : ∀ m, m ∈ s.heard ∨ m ∈ s.held → m ∈ R
  dh : Diff s.held
  ge : ∀ m ∈ s.held, s.next ≤ m.n
  rise : Rise s.heard
  lt : ∀ m ∈ s.heard, m.n < s.next
  cov : ∀ n : Int, 1 ≤ n → n < s.next → (∃ m ∈ s.heard, m.n = n) ∨ n ∈ s.lost
  lr : s.lost.Pairwise (· < ·)
  ll : ∀ n ∈ s.lost, 1 ≤ n ∧ n < s.next ∧ n ≤ (R.length : Int) ∧ ∀ m ∈ s.heard, m.n ≠ n
structure Hw (R : List Msg) (s : HS) : Prop extends Hw0 R s where
  gt : ∀ m ∈ s.held, s.next < m.n
theorem HS.next_pos (s : HS) : 1 ≤ s.next := by unfold HS.next; omega
theorem Hw.start (R : List Msg) : Hw R hs0 where
  sub := fun m h => by rcases h with h | h <;> exact absurd h List.not_mem_nil
  dh := List.nodup_nil
  ge := fun m h => absurd h List.not_mem_nil
  rise := .nil
  lt := fun m h => absurd h List.not_mem_nil
  cov := fun n h1 h2 => by have : hs0.next = 1 := rfl; omega
  lr := .nil
  ll := fun n h => absurd h List.not_mem_nil
  gt := fun m h => absurd h List.not_mem_nil
theorem Hw0.more {R R' : List Msg} {s : HS} (h : Hw0 R s) (hs : ∀ m ∈ R, m ∈ R') (hl : R.length ≤ R'.length) : Hw0 R' s :=
  ⟨fun m hm => hs m (h.sub m hm), h.dh, h.ge, h.rise, h.lt, h.cov, h.lr, fun n hn => by obtain ⟨a, b, c, d⟩ := h.ll n hn; exact ⟨a, b, by omega, d⟩⟩
theorem Hw.more {R R' : List Msg} {s : HS} (h : Hw R s) (hs : ∀ m ∈ R, m ∈ R') (hl : R.length ≤ R'.length) : Hw R' s := ⟨h.toHw0.more hs hl, h.gt⟩
theorem Hw0.hear {R : List Msg} {s : HS} (h : Hw0 R s) : Hw R (hearS s) := by
  have ⟨h1, e⟩ := hearS_ind (P := fun s => Hw0 R s) (fun t m h e => by
    obtain ⟨hm, hn⟩ := findN_some e
    have hx : HS.next ⟨t.heard ++ [m], dropN t.held m.n, t.lost⟩ = t.next + 1 := next_snoc
    refine ⟨fun x hx => ?_, dropN_diff h.dh, fun x hx' => ?_, ?_, fun x hx' => ?_, fun n h1 h2 => ?_, h.lr, fun n hn' => ?_⟩
    · rcases hx with z | z
      · rcases List.mem_append.mp z with y | y
        · exact h.sub x (.inl y)
        · rw [List.mem_singleton] at y; rw [y]; exact h.sub m (.inr hm)
      · exact h.sub x (.inr (dropN_mem.mp z).1)
    · obtain ⟨a, b⟩ := dropN_mem.mp hx'
      have := h.ge x a
      rw [hx]; omega
    · refine List.pairwise_append.mpr ⟨h.rise, List.pairwise_singleton _ _, fun x hx' y hy => ?_⟩
      rw [List.mem_singleton] at hy
      rw [hy]; have := h.lt x hx'; omega
    · rw [hx]
      rcases List.mem_append.mp hx' with y | y
      · have := h.lt x y; omega
      · rw [List.mem_singleton] at y; rw [y]; omega
    · rw [hx] at h2
      by_cases z : n = t.next
      · exact .inl ⟨m, List.mem_append.mpr (.inr (by simp)), by omega⟩
      · rcases h.cov n h1 (by omega) with ⟨x, a, b⟩ | y
        · exact .inl ⟨x, List.mem_append.mpr (.inl a), b⟩
        · exact .inr y
    · obtain ⟨a, b, c, d⟩ := h.ll n hn'
      refine ⟨a, by rw [hx]; omega, c, fun x hx' => ?_⟩
      rcases List.mem_append.mp hx' with y | y
      · exact d x y
      · rw [List.mem_singleton] at y; rw [y]; omega) s h
  refine ⟨h1, fun m hm => ?_⟩
  have a := h1.ge m hm
  have b := findN_none.mp e m hm
  omega
theorem Hw0.add {R : List Msg} (hR : Rows R) {s : HS} (h : Hw0 R s) {m : Msg} (hm : m ∈ R) : Hw0 R (addS s m) := by
  unfold addS
  by_cases z : m.n ≥ s.next
  · rw [if_pos z]
    have hs : ∀ x ∈ s.held, x.n = m.n → x = m := fun x hx e => hR.uniq (h.sub x (.inr hx)) hm e
    refine ⟨fun x hx => ?_, putM_diff hs h.dh, fun x hx => ?_, h.rise, h.lt, h.cov, h.lr, h.ll⟩
    · rcases hx with y | y
      · exact h.sub x (.inl y)
      · rcases (putM_mem hs).mp y with w | w
        · exact h.sub x (.inr w)
        · rw [w]; exact hm
    · rcases (putM_mem hs).mp hx with w | w
      · exact h.ge x w
      · rw [w]; exact z
  · rw [if_neg z]; exact h
theorem Hw0.adds {R : List Msg} (hR : Rows R) : ∀ (ms : List Msg) {s : HS}, Hw0 R s → (∀ m ∈ ms, m ∈ R) → Hw0 R (ms.foldl addS s)
  | [], _, h, _ => h
  | m :: r, s, h, hm => by rw [List.foldl_cons]; exact Hw0.adds hR r (h.add hR (hm m (by simp))) fun x hx => hm x (by simp [hx])
theorem Hw.take {R : List Msg} (hR : Rows R) {s : HS} (h : Hw R s) {ms : List Msg} (hm : ∀ m ∈ ms, m ∈ R) : Hw R (takeS s ms) := (h.toHw0.adds hR ms hm).hear
theorem Hw0.fits {R : List Msg} (hR : Rows R) {s : HS} (h : Hw0 R s) {ms : List Msg} (hm : ∀ m ∈ ms, m ∈ R) : Fits s ms :=
  ⟨fun m hm' x hx e => hR.uniq (h.sub x hx) (hm m hm') e, fun m hm' x hx e => hR.uniq (hm x hx) (hm m hm') e⟩
/-! ### catching up -/
theorem Hw0.up {R : List Msg} (hR : Rows R) {s : HS} (h : Hw0 R s) : s.next ≤ (R.length : Int) + 1 := by
  have hp := s.next_pos
  by_cases z : s.next = 1
  · omega
  · rcases h.cov (s.next - 1) (by omega) (by omega) with ⟨m, hm, e⟩ | y
    · obtain ⟨i, hi, _, en⟩ := hR.at (h.sub m (.inl hm)); omega
    · have := (h.ll _ y).2.2.1; omega
end L2
namespace L2
open PySem PySem.Spec PyProof.Rows PySem.W
theorem TAt.stp {C : Addr} {H H' : Hp} {p : Addr} {k r : Int} {all : List Msg} {s d : Addr} {ps ps' : List Addr} (h : TAt C H p k r all s d) (st : Stp ps H ps' H') (hd : ∀ c ∈ [p, s, d], c ∉ ps) : TAt C H' p k r all s d := by
  obtain ⟨⟨dx, h1⟩, ⟨ys, h2, h3⟩, ⟨kvs, h4, h5⟩⟩ := h
  exact ⟨⟨dx, st.keep h1 (hd _ (by simp))⟩, ⟨ys, st.keep h2 (hd _ (by simp)), h3.step st⟩, ⟨kvs, st.keep h4 (hd _ (by simp)), h5.tups st.tup⟩⟩
theorem TAt.live {C : Addr} {H : Hp} {p : Addr} {k r : Int} {all : List Msg} {s d : Addr} (h : TAt C H p k r all s d) : ∀ c ∈ [p, s, d], ∃ o, H c = some o := by
  obtain ⟨⟨dx, h1⟩, ⟨ys, h2, h3⟩, ⟨kvs, h4, h5⟩⟩ := h
  intro c hc
  simp only [List.mem_cons, List.not_mem_nil, or_false] at hc
  rcases hc with rfl | rfl | rfl
  · exact ⟨_, h1⟩
  · exact ⟨_, h2⟩
  · exact ⟨_, h4⟩
theorem TAt.out {C : Addr} {H H' : Hp} {p : Addr} {k r : Int} {all : List Msg} {s d : Addr} {ps ps' : List Addr} (h : TAt C H p k r all s d) (st : Stp ps H ps' H') (hd : ∀ c ∈ [p, s, d], c ∉ ps) : ∀ c ∈ [p, s, d], c ∉ ps' := fun c hc => by
  obtain ⟨o, ho⟩ := h.live c hc
  exact st.out ho (hd c hc)
end L2

namespace L2
open PySem PySem.Spec PyProof.Rows PySem.W
/-! ### a hearer that refuses -/
/-- another one of this number is known -/
def Clash (s : HS) (m : Msg) : Prop := ∃ x, (x ∈ s.heard ∨ x ∈ s.held) ∧ x.n = m.n ∧ x ≠ m
def spRefuseX (C CO : Addr) : Sp := fun vs H Q E => ∃ a s ex b xs ms, vs = [.ref (HA.p a), .ref b] ∧ HAt C H a s ex ∧ H b = some (.lst xs) ∧ Ms H xs ms ∧ ms.length < 1000 ∧ (∀ m ∈ ms, mOk m) ∧ (∀ m, m ∈ s.heard ∨ m ∈ s.held → mOk m) ∧
  ((Fits s ms ∧ ∀ H', Same H H' → Q .non H') ∨ (∃ m, ms = [m] ∧ Clash s m ∧ ∀ H', Same H H' → E (.ref CO) none H'))
def spTakeAllX (C CO : Addr) : Sp := fun vs H Q E => ∃ a s ex b xs ms, vs = [.ref (HA.p a), .ref b] ∧ HAt C H a s ex ∧ H b = some (.lst xs) ∧ Ms H xs ms ∧ ms.length < 1000 ∧ (∀ m ∈ ms, mOk m) ∧ (∀ m, m ∈ s.heard ∨ m ∈ s.held → mOk m) ∧ Diff s.held ∧ s.heard.length + s.held.length + s.lost.length < 1000 ∧
  ((Fits s ms ∧ ∀ l ys found H', HAt C H' a (takeS s ms) ex → (takeS s ms).heard = s.heard ++ found → Stp a.fp H (l :: a.fp) H' → H l = none → l ∉ a.fp → H' l = some (.lst ys) → Ms H' ys found → Q (.ref l) H') ∨ (∃ m, ms = [m] ∧ Clash s m ∧ ∀ H', Same H H' → E (.ref CO) none H'))
def spTakeX (C CO : Addr) : Sp := fun vs H Q E => ∃ a s ex c m, vs = [.ref (HA.p a), .ref c] ∧ HAt C H a s ex ∧ H c = some (mT m) ∧ mOk m ∧ (∀ m, m ∈ s.heard ∨ m ∈ s.held → mOk m) ∧ Diff s.held ∧ s.heard.length + s.held.length + s.lost.length < 1000 ∧
  ((Fits s [m] ∧ ∀ l ys found H', HAt C H' a (takeS s [m]) ex → (takeS s [m]).heard = s.heard ++ found → Stp a.fp H (l :: a.fp) H' → H l = none → l ∉ a.fp → H' l = some (.lst ys) → Ms H' ys found → Q (.ref l) H') ∨ (Clash s m ∧ ∀ H', Same H H' → E (.ref CO) none H'))
end L2

namespace L2
open PySem PySem.Spec PyProof.Rows PySem.W
/-! ### dict(d) -/
def rDictD : List V → Hp → VK → Prop := fun xs H Q => ∃ a kvs, xs = [.ref a] ∧ H a = some (.dK kvs) ∧ ∀ p, H p = none → Q (.ref p) (upd H p (.dK kvs))
theorem call_dictD {X : Cx} : CallR X (.type "dict") rDictD := by
  intro pins s σ H xs us Q I r h
  obtain ⟨a, kvs, rfl, ha, q⟩ := h
  obtain ⟨u, rfl, ru⟩ := vals1 r
  cases ru
  exact d_copyOf I (.inl ha) fun p s' hp I' => ⟨.ref p, _, I', rfl, q p hp⟩
/-! ### a law's own hearer: a dict of rows, held, gone -/
structure LA where
  m : Addr
  q : Addr
  h : Addr
  g : Addr
def LA.fp (a : LA) : List Addr := [a.m, a.q, a.h, a.g]
def lK (a : LA) : List (Key × V) := [(Sum.inr "rows", .ref a.q), (Sum.inr "held", .ref a.h), (Sum.inr "gone", .ref a.g)]
theorem lK_rows (a : LA) : valV (lK a) (Sum.inr "rows") = some (.ref a.q) := rfl
theorem lK_held (a : LA) : valV (lK a) (Sum.inr "held") = some (.ref a.h) := rfl
theorem lK_gone (a : LA) : valV (lK a) (Sum.inr "gone") = some (.ref a.g) := rfl
structure LAt (H : Hp) (a : LA) (s : HS) : Prop where
  ob : H a.m = some (.dK (lK a))
  ro : ∃ ys, H a.q = some (.lst ys) ∧ Ms H ys s.heard
  he : ∃ kvs, H a.h = some (.dK kvs) ∧ DI H kvs s.held
  go : H a.g = some (.lst (s.lost.map V.int))
  nqg : a.q ≠ a.g
  nmh : a.m ≠ a.h
section
variable {H H' : Hp} {a : LA} {s : HS}
theorem LAt.live (h : LAt H a s) : ∀ c ∈ a.fp, ∃ o, H c = some o := by
  obtain ⟨h1, ⟨ys, h2, _⟩, ⟨kvs, h3, _⟩, h4, _, _⟩ := h
  intro c hc
  simp only [LA.fp, List.mem_cons, List.not_mem_nil, or_false] at hc
  rcases hc with rfl | rfl | rfl | rfl
  · exact ⟨_, h1⟩
  · exact ⟨_, h2⟩
  · exact ⟨_, h3⟩
  · exact ⟨_, h4⟩
theorem LAt.step {ps ps' : List Addr} (h : LAt H a s) (st : Stp ps H ps' H') (hd : ∀ c ∈ a.fp, c ∉ ps) : LAt H' a s := by
  obtain ⟨h1, ⟨ys, h2, m2⟩, ⟨kvs, h3, d3⟩, h4, h5, h6⟩ := h
  exact ⟨st.keep h1 (hd _ (by simp [LA.fp])), ⟨ys, st.keep h2 (hd _ (by simp [LA.fp])), m2.step st⟩, ⟨kvs, st.keep h3 (hd _ (by simp [LA.fp])), d3.tups st.tup⟩, st.keep h4 (hd _ (by simp [LA.fp])), h5, h6⟩
theorem LAt.same (h : LAt H a s) (e : Same H H') : LAt H' a s := h.step (e.step []) fun _ _ => List.not_mem_nil
theorem LAt.free (h : LAt H a s) {c : Addr} (hc : H c = none) : c ∉ a.fp := fun z => by
  obtain ⟨o, ho⟩ := h.live c z
  rw [ho] at hc; cases hc
theorem LAt.apart (h : LAt H a s) : a.m ≠ a.q ∧ a.m ≠ a.h ∧ a.m ≠ a.g ∧ a.q ≠ a.h ∧ a.q ≠ a.g ∧ a.h ≠ a.g := by
  obtain ⟨h1, ⟨ys, h2, _⟩, ⟨kvs, h3, _⟩, h4, h5, h6⟩ := h
  exact ⟨ne_of h1 h2 (by intro z; cases z), h6, ne_of h1 h4 (by intro z; cases z), ne_of h2 h3 (by intro z; cases z), h5, ne_of h3 h4 (by intro z; cases z)⟩
end
def spLNew : Sp := fun vs H Q _ => vs = [] ∧ ∀ a H', LAt H' a hs0 → Stp [] H a.fp H' → Q (.ref a.m) H'
def spLExp : Sp := fun vs H Q _ => ∃ a s, vs = [.ref (LA.m a)] ∧ LAt H a s ∧ Q (.int s.next) H
def spLGo : Sp := fun vs H Q _ => ∃ a s, vs = [.ref (LA.m a)] ∧ LAt H a s ∧ Diff s.held ∧ s.heard.length + s.held.length < 1000 ∧
  ∀ l ys found H', LAt H' a (hearS s) → (hearS s).heard = s.heard ++ found → Stp a.fp H (l :: a.fp) H' → H l = none → l ∉ a.fp → H' l = some (.lst ys) → Ms H' ys found → Q (.ref l) H'
end L2

namespace L2
open PySem PySem.Spec PyProof.Rows PySem.W
/-! ### sum(xs), xs.index(n) of ints -/
section
variable {X : Cx}
end
/-! ### comprehensions over ints -/
def IFlt (H : Hp) (ns : List Int) (p : Int → Bool) (f : Int → V) : Nat → List V → Hp → Prop := fun i ys H2 => H2 = H ∧ ys = ((ns.take i).filter p).map f
section
variable {K : PySem.W.Frag} {a : Addr} {ns : List Int} {g : TG} {tc : TT} {te : TE} {τ : St} {H : Hp} {f : Int → V} {p : Int → Bool}
theorem IFlt.zero : IFlt H ns p f 0 [] H := ⟨rfl, by simp⟩
theorem IFlt.next {i : Nat} (hi : i < ns.length) {ys : List V} (h : ys = ((ns.take i).filter p).map f) : (p ns[i] = true → ys ++ [f ns[i]] = ((ns.take (i + 1)).filter p).map f) ∧ (p ns[i] = false → ys = ((ns.take (i + 1)).filter p).map f) := by
  subst h
  rw [List.take_add_one, List.getElem?_eq_getElem hi]
  refine ⟨fun hp => ?_, fun hp => ?_⟩
  · rw [Option.toList_some, List.filter_append, List.map_append, List.filter_cons_of_pos hp]; rfl
  · rw [Option.toList_some, List.filter_append, List.map_append, List.filter_cons_of_neg (by rw [hp]; decide)]; simp
theorem IFlt.step (ha : H a = some (.lst (ns.map V.int)))
    (hs : ∀ n (R : VK) (N : Hp → Prop), n ∈ ns → (p n = true → R (f n) H) → (p n = false → N H) → g (.int n) τ H fun σ4 H4 => tc σ4 H4 fun b H5 => if b = true then te σ4 H5 R else N H5) :
    ∀ i ys H2, i < ns.length → IFlt H ns p f i ys H2 → (Itl K a).go i H2 ∧ ∀ x H3, (Itl K a).yld i H2 x H3 → g x τ H3 fun σ4 H4 => tc σ4 H4 fun b H5 => if b = true then te σ4 H5 fun y H6 => IFlt H ns p f (i + 1) (ys ++ [y]) H6 else IFlt H ns p f (i + 1) ys H5 := by
  rintro i ys H2 hi ⟨rfl, hy⟩
  have ec : (ns.map V.int)[i]? = some (V.int ns[i]) := by rw [List.getElem?_map, List.getElem?_eq_getElem hi]; rfl
  refine ⟨⟨_, .int ns[i], SqL.ofL ha, ec⟩, ?_⟩
  rintro x H3 ⟨rfl, hx⟩
  have hx' := hx _ (SqL.ofL ha)
  rw [ec] at hx'
  obtain rfl := Option.some.inj hx'
  obtain ⟨n1, n2⟩ := IFlt.next (p := p) (f := f) hi hy
  exact hs _ _ _ (List.getElem_mem hi) (fun hp => ⟨rfl, n1 hp⟩) (fun hp => ⟨rfl, n2 hp⟩)
theorem IFlt.done (ha : H a = some (.lst (ns.map V.int))) {ys : List V} {H2 : Hp} (h : IFlt H ns p f ns.length ys H2) : (Itl K a).stop ns.length H2 ∧ H = H2 ∧ ys = (ns.filter p).map f := by
  obtain ⟨rfl, rfl⟩ := h
  rw [List.take_length]
  exact ⟨⟨_, SqL.ofL ha, by rw [List.length_map]; exact Nat.le_refl _⟩, rfl, rfl⟩
end
/-- over a range: what is told of each number, the heap may grow -/
def IRng (H : Hp) (lo : Int) (f : Int → V) : Nat → List V → Hp → Prop := fun i ys H2 => Same H H2 ∧ ys = (List.range i).map fun (j : Nat) => f (lo + (j : Int))
section
variable {g : TG} {tc : TT} {te : TE} {τ : St} {H : Hp} {f : Int → V} {lo : Int} {n : Nat}
theorem IRng.zero : IRng H lo f 0 [] H := ⟨Same.refl H, rfl⟩
theorem IRng.step (hs : ∀ (j : Nat) H2 (R : VK) (N : Hp → Prop), j < n → Same H H2 → (∀ H3, Same H2 H3 → R (f (lo + (j : Int))) H3) → g (.int (lo + (j : Int))) τ H2 fun σ4 H4 => tc σ4 H4 fun b H5 => if b = true then te σ4 H5 R else N H5) :
    ∀ i ys H2, i < n → IRng H lo f i ys H2 → (Itr lo n).go i H2 ∧ ∀ x H3, (Itr lo n).yld i H2 x H3 → g x τ H3 fun σ4 H4 => tc σ4 H4 fun b H5 => if b = true then te σ4 H5 fun y H6 => IRng H lo f (i + 1) (ys ++ [y]) H6 else IRng H lo f (i + 1) ys H5 := by
  rintro i ys H2 hi ⟨s2, rfl⟩
  refine ⟨hi, ?_⟩
  rintro x H3 ⟨rfl, rfl⟩
  refine hs i _ _ _ hi s2 fun H4 s4 => ⟨s2.trans s4, ?_⟩
  rw [List.range_succ, List.map_append]; rfl
end
end L2

namespace L2
open PySem PySem.Spec PyProof.Rows PySem.W
/-! ### try .. except C: that keeps the names' values -/
section
variable {X : Cx} {CX : CXT} {k : Nat} {f C : Addr} {fd : FuncData} {ps : List Str} {sp : Sp} {E : XK} {m : Str} {p pos apos : Pos} {e o : Expr} {es : List Expr} {ta : TE} {t : TA} {σ0 : St}
end
section
variable {X : Cx} {body : List Stmt} {x : Str} {b0 : Stmt} {suite : List Stmt} {np hpos pos : Pos} {tb : XK → St → TS} {ts : TS} {C : Addr}
end
end L2

namespace L2
open PySem PySem.Spec PyProof.Rows PySem.W
/-! ### a window -/
structure WS where
  room : Int
  way : List Msg
  rows : List Msg
  arr : Int
def nF (room : Int) (w r : Addr) (a : Int) : List (Str × V) := [("room", .int room), ("on_way", .ref w), ("row", .ref r), ("arrived", .int a)]
section
variable {room : Int} {w r : Addr} {a : Int}
end
structure WAt (C : Addr) (H : Hp) (p : Addr) (s : WS) (w r : Addr) : Prop where
  ob : ∃ dx, H p = some (.ins C dx (nF s.room w r s.arr))
  wy : ∃ ys, H w = some (.lst ys) ∧ Ms H ys s.way
  ro : ∃ ys, H r = some (.lst ys) ∧ Ms H ys s.rows
  ne : w ≠ r
section
variable {C : Addr} {H H' : Hp} {p : Addr} {s : WS} {w r : Addr}
theorem WAt.step {ps ps' : List Addr} (h : WAt C H p s w r) (st : Stp ps H ps' H') (hd : ∀ c ∈ [p, w, r], c ∉ ps) : WAt C H' p s w r := by
  obtain ⟨⟨dx, h1⟩, ⟨ys, h2, h3⟩, ⟨zs, h4, h5⟩, h6⟩ := h
  exact ⟨⟨dx, st.keep h1 (hd _ (by simp))⟩, ⟨ys, st.keep h2 (hd _ (by simp)), h3.step st⟩, ⟨zs, st.keep h4 (hd _ (by simp)), h5.step st⟩, h6⟩
theorem WAt.out {ps ps' : List Addr} (h : WAt C H p s w r) (st : Stp ps H ps' H') (hd : ∀ c ∈ [p, w, r], c ∉ ps) : ∀ c ∈ [p, w, r], c ∉ ps' := by
  obtain ⟨⟨dx, h1⟩, ⟨ys, h2, h3⟩, ⟨zs, h4, h5⟩, h6⟩ := h
  intro c hc
  have hc' := hd c hc
  simp only [List.mem_cons, List.not_mem_nil, or_false] at hc
  rcases hc with rfl | rfl | rfl
  · exact st.out h1 hc'
  · exact st.out h2 hc'
  · exact st.out h4 hc'
theorem WAt.same (h : WAt C H p s w r) (e : Same H H') : WAt C H' p s w r := h.step (e.step []) fun _ _ => List.not_mem_nil
theorem WAt.free (h : WAt C H p s w r) {c : Addr} (hc : H c = none) : c ∉ [p, w, r] := by
  obtain ⟨⟨dx, h1⟩, ⟨ys, h2, h3⟩, ⟨zs, h4, h5⟩, h6⟩ := h
  simp [(ne_of_none h1 hc).symm, (ne_of_none h2 hc).symm, (ne_of_none h4 hc).symm]
theorem WAt.npr (h : WAt C H p s w r) : p ≠ r := by
  obtain ⟨⟨dx, h1⟩, ⟨ys, h2, h3⟩, ⟨zs, h4, h5⟩, h6⟩ := h
  exact ne_of h1 h4 (by intro z; cases z)
end
end L2

namespace L2
open PySem PySem.Spec PyProof.Rows PySem.W
/-! ### a text times an int -/
section
variable {X : Cx}
end
/-! ### steps beside others -/
theorem Stp.fr {f f' g : List Addr} {H H' : Hp} (st : Stp f H f' H') : Stp (f ++ g) H (f' ++ g) H' :=
  st.weak (fun c h => List.mem_append_left _ h) fun c h => (List.mem_append.mp h).elim .inl fun z => .inr (List.mem_append_right _ z)
theorem Stp.fl {f f' g : List Addr} {H H' : Hp} (st : Stp f H f' H') : Stp (g ++ f) H (g ++ f') H' :=
  st.weak (fun c h => List.mem_append_right _ h) fun c h => (List.mem_append.mp h).elim (fun z => .inr (List.mem_append_left _ z)) .inl
theorem Stp.tl {f f' : List Addr} {l : Addr} {H H' : Hp} (st : Stp f H (l :: f') H') : Stp f H f' H' := ⟨st.1, st.2, fun c hc => st.3 c (List.mem_cons_of_mem _ hc)⟩
/-! ### a window of rows -/
end L2

namespace L2
open PySem PySem.Spec PyProof.Rows PySem.W
/-! ### a hearer of messages numbered 1 to 9, whichever come -/
structure HG0 (s : HS) : Prop where
  dh : Diff s.held
  ge : ∀ m ∈ s.held, s.next ≤ m.n
  rise : Rise s.heard
  lt : ∀ m ∈ s.heard, m.n < s.next
  ok : ∀ m, m ∈ s.heard ∨ m ∈ s.held → mOk m ∧ m.n ≤ 9
  nx : s.next ≤ 10
structure HG (s : HS) : Prop extends HG0 s where
  gt : ∀ m ∈ s.held, s.next < m.n
theorem HG.start : HG hs0 where
  dh := List.nodup_nil
  ge := fun m h => absurd h List.not_mem_nil
  rise := .nil
  lt := fun m h => absurd h List.not_mem_nil
  ok := fun m h => by rcases h with h | h <;> exact absurd h List.not_mem_nil
  nx := by show (0 : Int) + 0 + 1 ≤ 10; decide
  gt := fun m h => absurd h List.not_mem_nil
theorem HG0.hear {s : HS} (h : HG0 s) : HG (hearS s) := by
  have ⟨h1, e⟩ := hearS_ind (P := fun s => HG0 s) (fun t m h e => by
    obtain ⟨hm, hn⟩ := findN_some e
    have hx : HS.next ⟨t.heard ++ [m], dropN t.held m.n, t.lost⟩ = t.next + 1 := next_snoc
    refine ⟨dropN_diff h.dh, fun x hx' => ?_, ?_, fun x hx' => ?_, fun x hx' => ?_, ?_⟩
    · obtain ⟨a, b⟩ := dropN_mem.mp hx'
      have := h.ge x a
      rw [hx]; omega
    · refine List.pairwise_append.mpr ⟨h.rise, List.pairwise_singleton _ _, fun x hx' y hy => ?_⟩
      rw [List.mem_singleton] at hy
      rw [hy]; have := h.lt x hx'; omega
    · rw [hx]
      rcases List.mem_append.mp hx' with y | y
      · have := h.lt x y; omega
      · rw [List.mem_singleton] at y; rw [y]; omega
    · rcases hx' with z | z
      · rcases List.mem_append.mp z with y | y
        · exact h.ok x (.inl y)
        · rw [List.mem_singleton] at y; rw [y]; exact h.ok m (.inr hm)
      · exact h.ok x (.inr (dropN_mem.mp z).1)
    · rw [hx]
      have := (h.ok m (.inr hm)).2
      omega) s h
  refine ⟨h1, fun m hm => ?_⟩
  have a := h1.ge m hm
  have b := findN_none.mp e m hm
  omega
theorem HG0.add {s : HS} (h : HG0 s) {m : Msg} (hf : Fits s [m]) (hm : mOk m) (h9 : m.n ≤ 9) : HG0 (addS s m) := by
  unfold addS
  by_cases z : m.n ≥ s.next
  · rw [if_pos z]
    have hs : ∀ x ∈ s.held, x.n = m.n → x = m := fun x hx e => hf.1 m (by simp) x (.inr hx) e
    refine ⟨putM_diff hs h.dh, fun x hx => ?_, h.rise, h.lt, fun x hx => ?_, h.nx⟩
    · rcases (putM_mem hs).mp hx with w | w
      · exact h.ge x w
      · rw [w]; exact z
    · rcases hx with y | y
      · exact h.ok x (.inl y)
      · rcases (putM_mem hs).mp y with w | w
        · exact h.ok x (.inr w)
        · rw [w]; exact ⟨hm, h9⟩
  · rw [if_neg z]; exact h
theorem HG.take {s : HS} (h : HG s) {m : Msg} (hf : Fits s [m]) (hm : mOk m) (h9 : m.n ≤ 9) : HG (takeS s [m]) := (h.toHG0.add hf hm h9).hear
theorem HG.quiet {s : HS} (h : HG s) : hearS s = s := hearS_none (findN_none.mpr fun m hm => by have := h.gt m hm; omega)
/-- of a number there is but one -/
theorem HG0.apart {s : HS} (h : HG0 s) : ∀ x ∈ s.heard, ∀ y ∈ s.held, y.n ≠ x.n := fun x hx y hy e => by
  have := h.lt x hx
  have := h.ge y hy
  omega
theorem HG0.sizes {s : HS} (h : HG0 s) (hp : ∀ m ∈ s.held, 1 ≤ m.n) : s.heard.length + s.lost.length ≤ 9 ∧ s.held.length ≤ 9 := by
  have h1 : s.next = (s.heard.length : Int) + (s.lost.length : Int) + 1 := rfl
  have h2 := h.nx
  refine ⟨by omega, ?_⟩
  have h3 := List.Nodup.length_le_of_subset (l₁ := s.held.map fun m : Msg => m.n) (l₂ := rgs 1 9) h.dh (fun x hx => by
    obtain ⟨m, hm, rfl⟩ := List.mem_map.mp hx
    have := hp m hm
    have := (h.ok m (.inr hm)).2
    exact rgs_mem.mpr ⟨by omega, by omega⟩)
  rw [List.length_map] at h3
  have h4 : (rgs 1 9).length = 9 := by decide +kernel
  omega
theorem HG0.pos {s : HS} (h : HG0 s) : ∀ m ∈ s.held, 1 ≤ m.n := fun m hm => by
  have h1 : s.next = (s.heard.length : Int) + (s.lost.length : Int) + 1 := rfl
  have := h.ge m hm
  omega
theorem HG.fits_or {s : HS} (h : HG s) (m : Msg) : Fits s [m] ∨ Clash s m := by
  by_cases hc : Clash s m
  · exact .inr hc
  · refine .inl ⟨fun a ha x hx e => ?_, fun a ha x hx _ => ?_⟩
    · rw [List.mem_singleton] at ha
      subst ha
      by_cases hxa : x = a
      · exact hxa
      · exact absurd ⟨x, hx, e, hxa⟩ hc
    · rw [List.mem_singleton] at ha hx
      rw [ha, hx]
/-! what a law's own hearer promises -/
def r3D : PyData := .tuple [.str "refused", .int 3]
theorem r3D_has {H : Hp} {q : Addr} (hq : H q = some (.tup [.str "refused", .int 3])) : Has H (.ref q) r3D := has_tup hq (hasL_cons (has_str _) (hasL_cons (has_int _) hasL_nil))
def spLTake : Sp := fun vs H Q _ => ∃ a s c m, vs = [.ref (LA.m a), .ref c] ∧ LAt H a s ∧ HG s ∧ H c = some (mT m) ∧ mOk m ∧ m.n ≤ 9 ∧
  ((Fits s [m] ∧ ∀ l ys found H', LAt H' a (takeS s [m]) → (takeS s [m]).heard = s.heard ++ found → Stp a.fp H (l :: a.fp) H' → H l = none → l ∉ a.fp → H' l = some (.lst ys) → Ms H' ys found → Q (.ref l) H') ∨ (Clash s m ∧ ∀ v H', Same H H' → Has H' v r3D → Q v H'))
end L2

namespace L2
open PySem PySem.Spec PyProof.Rows PySem.W
/-! ### a set's table: its places rise -/
def Ris (xs : Array Nat) : Prop := ∀ (i j : Nat) (hi : i < xs.size) (hj : j < xs.size), i < j → xs[i] < xs[j]
theorem Ris.le {xs : Array Nat} (h : Ris xs) {i j : Nat} (hi : i < xs.size) (hj : j < xs.size) (e : i ≤ j) : xs[i] ≤ xs[j] := by
  rcases Nat.lt_or_eq_of_le e with z | z
  · exact Nat.le_of_lt (h i j hi hj z)
  · subst z; exact Nat.le_refl _
theorem below_go {xs : Array Nat} {j : Nat} (hr : Ris xs) : ∀ (fuel lo hi : Nat), hi - lo ≤ fuel → lo ≤ hi → hi ≤ xs.size → (∀ i (h : i < xs.size), i < lo → xs[i] < j) → (∀ i (h : i < xs.size), hi ≤ i → j ≤ xs[i]) →
    SetTable.below.go xs j fuel lo hi ≤ xs.size ∧ (∀ i (h : i < xs.size), i < SetTable.below.go xs j fuel lo hi → xs[i] < j) ∧ (∀ i (h : i < xs.size), SetTable.below.go xs j fuel lo hi ≤ i → j ≤ xs[i])
  | 0, lo, hi, hf, hl, hs, h1, h2 => by
    have e : hi = lo := by omega
    subst e
    exact ⟨hs, h1, h2⟩
  | fuel + 1, lo, hi, hf, hl, hs, h1, h2 => by
    unfold SetTable.below.go
    by_cases z : lo < hi
    · rw [if_pos z]
      have hm : (lo + hi) / 2 < xs.size := by omega
      dsimp only
      rw [Array.getD_eq_getD_getElem?, Array.getElem?_eq_getElem hm, Option.getD_some]
      by_cases y : xs[(lo + hi) / 2] < j
      · rw [if_pos y]
        exact below_go hr fuel _ _ (by omega) (by omega) hs (fun i h hi => Nat.lt_of_le_of_lt (hr.le h hm (by omega)) y) h2
      · rw [if_neg y]
        exact below_go hr fuel _ _ (by omega) (by omega) (by omega) h1 (fun i h hi => Nat.le_trans (Nat.not_lt.mp y) (hr.le hm h hi))
    · rw [if_neg z]
      have e : hi = lo := by omega
      subst e
      exact ⟨hs, h1, h2⟩
theorem below_spec {xs : Array Nat} (hr : Ris xs) (j : Nat) : SetTable.below xs j ≤ xs.size ∧ (∀ i (h : i < xs.size), i < SetTable.below xs j → xs[i] < j) ∧ (∀ i (h : i < xs.size), SetTable.below xs j ≤ i → j ≤ xs[i]) :=
  below_go hr xs.size 0 xs.size (by omega) (Nat.zero_le _) (Nat.le_refl _) (fun i h z => by omega) (fun i h z => by omega)
/-- a table in order, of n -/
structure OkT (t : SetTable) (n : Nat) : Prop where
  fits : t.fits n = true
  ris : Ris t.place
  nd : t.dummies = #[]
end L2

namespace L2
open PySem PySem.Spec PyProof.Rows PySem.W
/-! ### a set in the heap, its order kept -/
section
variable {prog : Program} {w : World} {K : Type} [DecidableEq K] (knd : KeyKind prog w K)
def Apart (e f : Int × Value) : Prop := ∀ k, knd.is k e.2 = true → knd.is k f.2 = true → False
structure KObj (o : Obj) (es : Array (Int × Value)) (ep : Nat) (t : SetTable) (S : K → Prop) : Prop where
  ex : o.ExactSet
  data : o.data = .set es ep t
  el : ElemsOf knd es.toList
  mem : ∀ k, S k ↔ ∃ e ∈ es.toList, knd.is k e.2 = true
  apart : es.toList.Pairwise (Apart knd)
  few : es.size < scanBound
  ok : OkT t es.size
  led : t.led = !w.params.followText "set-order"
def KSet (h : Heap) (a : Addr) (S : K → Prop) (n : Nat) : Prop := ∃ o es ep t, h.get? a = some o ∧ KObj knd o es ep t S ∧ es.size ≤ n
variable {knd} {A : Around} {E : Value → Shared → Prop} {s : Shared}
theorem KSet.at' {h h' : Heap} {a : Addr} {S : K → Prop} {n : Nat} (x : KSet knd h a S n) (e : ∀ o, h.get? a = some o → h'.get? a = some o) : KSet knd h' a S n := let ⟨o, es, ep, t, ho, r⟩ := x; ⟨o, es, ep, t, e _ ho, r⟩
theorem KObj.store {h : Heap} {a : Addr} {o : Obj} {es : Array (Int × Value)} {ep : Nat} {t : SetTable} {S : K → Prop} (x : KObj knd o es ep t S) (ho : h.get? a = some o) {es' : Array (Int × Value)} {t' : SetTable} {S' : K → Prop}
    (hel : ElemsOf knd es'.toList) (hmem : ∀ k, S' k ↔ ∃ e ∈ es'.toList, knd.is k e.2 = true) (hap : es'.toList.Pairwise (Apart knd)) (hb : es'.size < scanBound) (hok : OkT t' es'.size) (hl : t'.led = !w.params.followText "set-order") :
    (h.update a (Obj.putSet es' t')).get? a = some { o with data := .set es' (ep + 1) t' } ∧ KObj knd { o with data := .set es' (ep + 1) t' } es' (ep + 1) t' S' := by
  have hg : (h.update a (Obj.putSet es' t')).get? a = some { o with data := .set es' (ep + 1) t' } := by
    have := Heap.get?_update_self (Obj.putSet es' t') ho (by rw [putSet_of es' t' x.data]; rfl)
    rw [putSet_of es' t' x.data] at this; exact this
  exact ⟨hg, x.ex, rfl, hel, hmem, hap, hb, hok, hl⟩
end
/-! ### set(xs) -/
section
variable {prog : Program} {w : World} {K : Type} [DecidableEq K] {knd : KeyKind prog w K} {A : Around} {R : Result → Shared → Prop} {I : Addr} {fp wr : List Addr} {G : Array GenState → Array GenState → Prop} {n : Nat} {P : Nat → Value → Prop} {St : Nat → Shared → Prop}
end
section
variable {prog : Program} {w : World} {K : Type} [DecidableEq K] {knd : KeyKind prog w K} {A : Around} {E : Value → Shared → Prop} {s : Shared}
end
end L2

namespace L2
open PySem PySem.Spec PyProof.Rows PySem.W
theorem erase_perm {α : Type} {l : List α} {i : Nat} (h : i < l.length) : List.Perm (l[i] :: l.eraseIdx i) l := by
  rw [List.eraseIdx_eq_take_drop_succ]
  refine List.perm_middle.symm.trans ?_
  rw [List.getElem_cons_drop, List.take_append_drop]
/-! ### a set walked -/
section
variable {prog : Program} {w : World} {K : Type} [DecidableEq K] {knd : KeyKind prog w K} {A : Around} {E : Value → Shared → Prop} {s : Shared}
theorem wp_byText {Q : Bool → Shared → Prop} (h : Q (w.params.followText "set-order") s) : wpAny (model prog w) A setsByText Q E s := by
  unfold setsByText
  exact wpAny_bind (wpAny_askSetting (wpAny_pure h))
theorem set_it_next : Slot "set_iterator" "__next__" "set_iterator.__next__" :=
  .of (owner := "set_iterator") (n := "__next__") (by rw [typeLookup_type, builtinLookup_eq_fast]; kernel_rfl) (by decide +kernel) (by decide +kernel) (by decide +kernel)
    (by first | exact .inl (by decide +kernel) | exact .inr (by decide +kernel)) (by rw [isSubtype_type]; kernel_rfl)
theorem set_it_entry : entryFor table "set_iterator.__next__" = some Builtin.«set_iterator.__next__» := entryFor_of_tree (by kernel_rfl)
theorem owner_set_it : Manifest.owners.lookup (String.ofList ['r', 'o', 't', 'a', 'r', 'e', 't', 'i', '_', 't', 'e', 's'].reverse) = some Manifest.sig_set_iterator := by kernel_rfl
theorem set_it_args (a : Value) : argsOk "set_iterator.__next__" ⟨[a], []⟩ := by
  unfold argsOk; rw [signature?_of (id := "set_iterator.__next__") (n := ['_', '_', 't', 'x', 'e', 'n', '_', '_']) (o := ['r', 'o', 't', 'a', 'r', 'e', 't', 'i', '_', 't', 'e', 's']) (by kernel_rfl) owner_set_it]; kernel_rfl
theorem set_it_iter : Slot "set_iterator" "__iter__" "set_iterator.__iter__" :=
  .of (owner := "set_iterator") (n := "__iter__") (by rw [typeLookup_type, builtinLookup_eq_fast]; kernel_rfl) (by decide +kernel) (by decide +kernel) (by decide +kernel)
    (by first | exact .inl (by decide +kernel) | exact .inr (by decide +kernel)) (by rw [isSubtype_type]; kernel_rfl)
theorem set_it_ientry : entryFor table "set_iterator.__iter__" = some Builtin.«dict_keyiterator.__iter__» := entryFor_alias (id' := "dict_keyiterator.__iter__") (by kernel_rfl) rfl (by decide +kernel) (by kernel_rfl)
theorem set_it_iargs (a : Value) : argsOk "set_iterator.__iter__" ⟨[a], []⟩ := by
  unfold argsOk; rw [signature?_of (id := "set_iterator.__iter__") (n := ['_', '_', 'r', 'e', 't', 'i', '_', '_']) (o := ['r', 'o', 't', 'a', 'r', 'e', 't', 'i', '_', 't', 'e', 's']) (by kernel_rfl) owner_set_it]; kernel_rfl
/-- the places where a plain table's walk stands -/
def slotAt (t : SetTable) : Nat → Nat
  | 0 => 0
  | i + 1 => (t.place[i]?).getD 0 + 1
theorem slot_below {t : SetTable} (hr : Ris t.place) {i : Nat} (hi : i ≤ t.place.size) : SetTable.below t.place (slotAt t i) = i := by
  obtain ⟨h0, h1, h2⟩ := below_spec hr (slotAt t i)
  cases i with
  | zero =>
    by_cases z : SetTable.below t.place (slotAt t 0) = 0
    · exact z
    · exfalso
      have := h1 0 (by omega) (by omega)
      exact absurd this (Nat.not_lt_zero _)
  | succ i =>
    have hs : slotAt t (i + 1) = t.place[i]'(by omega) + 1 := by
      show (t.place[i]?).getD 0 + 1 = _
      rw [Array.getElem?_eq_getElem (by omega)]; rfl
    have a : ¬ SetTable.below t.place (slotAt t (i + 1)) ≤ i := fun z => by
      have := h2 i (by omega) z
      omega
    have b : ¬ i + 1 < SetTable.below t.place (slotAt t (i + 1)) := fun z => by
      have := h1 (i + 1) (by omega) z
      have := hr i (i + 1) (by omega) (by omega) (Nat.lt_succ_self _)
      omega
    omega
def SDrawn (es : Array (Int × Value)) (t : SetTable) : Bool := !t.plain && decide (es.size > 1)
/-- a set's iterator, i given of ord -/
def SIt (w : World) (I a T : Addr) (o : Obj) (es : Array (Int × Value)) (ep : Nat) (t : SetTable) (ord : List (Int × Value)) (i : Nat) (h : Heap) : Prop :=
  h.get? a = some o ∧ ∃ first oI, h.get? I = some oI ∧ oI.cls = .type "set_iterator" ∧ oI.data = .fields #[first, .int i 0, .ref a, .int es.size 0, .int ep 0] ∧
    ((w.params.followText "set-order" = true ∧ (∃ sl : Nat, first = .int sl 0) ∧ ord = (pickOrder (w.params.setOrder a ep) es).toList) ∨
     (w.params.followText "set-order" = false ∧ SDrawn es t = false ∧ first = .int (slotAt t i) 0 ∧ ord = es.toList) ∨
     (w.params.followText "set-order" = false ∧ SDrawn es t = true ∧ first = .ref T ∧ ∃ oT places c, h.get? T = some oT ∧ oT.data = .seq (places.map fun (i : Nat) => rawInt i).toArray c ∧ List.Perm places (List.range es.size) ∧ ord = places.filterMap fun i => es[i]?))
/-- how an iterator that counts by ints goes on -/
def SMode (w : World) (a : Addr) (es : Array (Int × Value)) (ep : Nat) (t : SetTable) (ord : List (Int × Value)) (i sl : Nat) : Prop :=
  (w.params.followText "set-order" = true ∧ ord = (pickOrder (w.params.setOrder a ep) es).toList) ∨ (w.params.followText "set-order" = false ∧ SDrawn es t = false ∧ sl = slotAt t i ∧ ord = es.toList)
theorem wp_setWalkT {a : Addr} {o : Obj} {es : Array (Int × Value)} {ep : Nat} {t : SetTable} {S : K → Prop} (ho : s.heap.get? a = some o) (X : KObj knd o es ep t S) (hb : w.params.followText "set-order" = true) {Q : Array (Int × Value) → Shared → Prop}
    (h : Q (pickOrder (w.params.setOrder a ep) es) s) : wpAny (model prog w) A (setWalk a) Q E s := by
  unfold setWalk
  refine wpAny_bind (wpAny_setState_of ho X.data X.ok.fits ?_)
  dsimp only
  refine wpAny_bind (wp_byText ?_)
  rw [hb]
  simp only [if_true]
  exact wpAny_bind (wpAny_askSetting (wpAny_pure h))
theorem wp_setNext {a : Addr} {o : Obj} {es : Array (Int × Value)} {ep : Nat} {t : SetTable} {S : K → Prop} {ord : List (Int × Value)} {i sl : Nat} (ho : s.heap.get? a = some o) (X : KObj knd o es ep t S) (hm : SMode w a es ep t ord i sl) (hil : i ≤ es.size) {Q : Option (Value × Nat) → Shared → Prop}
    (h0 : ord[i]? = none → Q none s) (h1 : ∀ e sl', ord[i]? = some e → SMode w a es ep t ord (i + 1) sl' → Q (some (e.2, sl')) s) : wpAny (model prog w) A (setNext a sl i ep) Q E s := by
  unfold setNext
  refine wpAny_bind (wpAny_setState_of ho X.data X.ok.fits ?_)
  dsimp only
  refine wpAny_bind (wp_byText ?_)
  rcases hm with ⟨hb, hord⟩ | ⟨hb, hdr, hsl, hord⟩
  · rw [hb]
    simp only [if_true, bne_self_eq_false, Bool.false_eq_true, if_false]
    refine wpAny_bind (wp_setWalkT ho X hb (wpAny_pure ?_))
    have e : (pickOrder (w.params.setOrder a ep) es)[i]? = ord[i]? := by rw [hord, Array.getElem?_toList]
    rw [e]
    cases hq : ord[i]? with
    | none => exact h0 hq
    | some x => exact h1 x sl hq (.inl ⟨hb, hord⟩)
  · rw [hb]
    simp only [Bool.false_eq_true, if_false]
    show wpAny _ _ (if SDrawn es t = true then _ else _) _ _ s
    rw [hdr]
    simp only [Bool.false_eq_true, if_false]
    have hled : t.led = true := by rw [X.led, hb]; rfl
    show wpAny _ _ ((if (!t.led && !es.isEmpty) = true then unsupported "set:maker-not-led" else pure ()) >>= _) _ _ s
    rw [hled]
    simp only [Bool.not_true, Bool.false_and, Bool.false_eq_true, if_false]
    refine wpAny_bind (wpAny_pure ?_)
    have hps : t.place.size = es.size := by
      have := X.ok.fits
      simp only [SetTable.fits, Bool.and_eq_true, beq_iff_eq] at this
      exact this.1
    rw [hsl, slot_below X.ok.ris (by omega)]
    refine wpAny_pure ?_
    have e : ord[i]? = es[i]? := by rw [hord, Array.getElem?_toList]
    by_cases z : i < es.size
    · have hz : es[i]? = some es[i] := Array.getElem?_eq_getElem z
      have hz2 : t.place[i]? = some (t.place[i]'(by omega)) := Array.getElem?_eq_getElem (by omega)
      have := h1 es[i] (t.place[i]'(by omega) + 1) (by rw [e, hz]) (.inr ⟨hb, hdr, by show _ = (t.place[i]?).getD 0 + 1; rw [hz2]; rfl, hord⟩)
      rw [hz, hz2]
      exact this
    · have hz : es[i]? = none := Array.getElem?_eq_none (by omega)
      rw [hz]
      exact h0 (by rw [e, hz])
theorem stop_set {I : Addr} {oI : Obj} {vs : Array Value} (hh : A.handled = none) (hoI : s.heap.get? I = some oI) (hd : oI.data = .fields vs) (hv : 2 < vs.size) {Q : Option Value → Shared → Prop} (hQ : ∀ h', Heap.ExtBut I s.heap h' → Q none { s with heap := h' }) :
    wpAny (model prog w) A.in1 (do
        setField (Value.ref I) 2 Value.none
        let x ← newExc (Value.type "StopIteration") []
        raiseNew x : Sem Fin)
      (fun fin s' => ∃ v, fin = Fin.done (Flow.ret v) ∧ wpAny (model prog w) A (pure (some v)) Q E s')
      (fun e s' => wpAny (model prog w) A (do
          let b ← isInstance e (Value.type "StopIteration")
          if b = true then pure none else throw e) Q E s') s := by
  refine wpAny_bind (wpAny_setField hoI hd hv ?_)
  refine wpAny_bind ?_
  simp only [newExc, newTuple]
  refine wpAny_bind (wpAny_newObj_type ?_ (by size_fits))
  refine wpAny_bind (m := firstArgMember _ _) (wpAny_of_eq (a := Value.none) (by first | rfl | (simp only [firstArgMember]; rfl)) ?_)
  refine wpAny_newObj_type ?_ (by size_fits)
  simp only [raiseNew]
  refine wpAny_bind (wpAny_handled ?_)
  rw [show A.in1.handled = none from hh]
  refine wpAny_bind (wpAny_pure (wpAny_throw ?_))
  refine wpAny_bind (wpAny_isInstance (T := "StopIteration") (b := true) ⟨_, Heap.get?_push_size _ rfl, rfl⟩ isSubtype_stop ?_)
  exact wpAny_pure (hQ _ (((Heap.SameBut.update ..).extBut.push _).push _))
theorem pick_at {es : Array (Int × Value)} : ∀ {places : List Nat} {i : Nat}, (∀ p ∈ places, p < es.size) → (places.filterMap fun j => es[j]?)[i]? = (places[i]?).bind fun j => es[j]?
  | [], i, _ => by simp
  | p :: r, i, h => by
    have hp : p < es.size := h p (by simp)
    rw [List.filterMap_cons_some (Array.getElem?_eq_getElem hp)]
    cases i with
    | zero => simp [Array.getElem?_eq_getElem hp]
    | succ i => simpa using pick_at (places := r) (i := i) fun q hq => h q (by simp [hq])
theorem pyNext_set {I a T : Addr} {o : Obj} {es : Array (Int × Value)} {ep : Nat} {t : SetTable} {S : K → Prop} {ord : List (Int × Value)} {i : Nat} (hh : A.handled = none) (X : KObj knd o es ep t S) (haI : a ≠ I) (hTI : SDrawn es t = true → T ≠ I) (hil : i ≤ es.size) (st : SIt w I a T o es ep t ord i s.heap) {Q : Option Value → Shared → Prop}
    (h0 : ord[i]? = none → ∀ h', (∀ b u, b ≠ I → s.heap.get? b = some u → h'.get? b = some u) → Q none { s with heap := h' })
    (hQ : ∀ e h', ord[i]? = some e → SIt w I a T o es ep t ord (i + 1) h' → (∀ b u, b ≠ I → s.heap.get? b = some u → h'.get? b = some u) → Q (some e.2) { s with heap := h' }) :
    wpAny (model prog w) A (pyNext (.ref I)) Q E s := by
  obtain ⟨ho, first, oI, hoI, hc, hd, hm⟩ := st
  have hTy : s.TypeIs (.ref I) "set_iterator" := ⟨oI, hoI, hc⟩
  unfold pyNext
  refine wpAny_bind (wpAny_attempt (wpAny_callSpecial?_slot (name := Str.ofString "__next__") hTy set_it_next (wpAny_call_entry set_it_next hTy set_it_entry ?_ (set_it_args _))))
  unfold Builtin.«set_iterator.__next__»
  refine wpAny_bind (wpAny_pure ?_)
  refine wpAny_bind (wpAny_fieldsOf hoI hd ?_)
  dsimp only
  refine wpAny_bind (wpAny_setEntries_of ho X.data X.ok.fits ?_)
  simp only [bne_self_eq_false, Bool.false_eq_true, if_false]
  have key : ∀ sl : Nat, first = .int sl 0 → SMode w a es ep t ord i sl → (∀ sl' : Nat, SMode w a es ep t ord (i + 1) sl' → (w.params.followText "set-order" = true ∧ (∃ x : Nat, Value.int (sl' : Int) 0 = .int x 0) ∧ ord = (pickOrder (w.params.setOrder a ep) es).toList) ∨
     (w.params.followText "set-order" = false ∧ SDrawn es t = false ∧ Value.int (sl' : Int) 0 = .int (slotAt t (i + 1)) 0 ∧ ord = es.toList)) →
    wpAny (model prog w) A.in1 (do
        let r ← setNext a sl i ep
        match r with
        | some (x, next) => do
          setField (Value.ref I) 0 (rawInt ↑next)
          setField (Value.ref I) 1 (rawInt (↑i + 1))
          ret x
        | none => do
          setField (Value.ref I) 2 Value.none
          let x ← newExc (Value.type "StopIteration") []
          raiseNew x)
      (fun fin s' => ∃ v, fin = Fin.done (Flow.ret v) ∧ wpAny (model prog w) A (pure (some v)) Q E s')
      (fun e s' => wpAny (model prog w) A (do
          let b ← isInstance e (Value.type "StopIteration")
          if b = true then pure none else throw e) Q E s') s := fun sl hf hmo hnx => by
    subst hf
    refine wpAny_bind (wp_setNext ho X hmo hil (fun hn => ?_) (fun e sl' he hmo' => ?_))
    · exact stop_set hh hoI hd (by simp) fun h' hx => h0 hn h' fun b u hb hu => hx b u hb hu
    · dsimp only
      refine wpAny_bind (wpAny_setField hoI hd (by simp) ?_)
      have g1 := Heap.get?_update_self (Obj.mapFields (·.setIfInBounds 0 (rawInt (sl' : Int)))) hoI (Obj.isFreed_of_fields (Obj.data_mapFields hd _))
      have d1 := Obj.data_mapFields hd (·.setIfInBounds 0 (rawInt (sl' : Int)))
      refine wpAny_bind (wpAny_setField g1 d1 (by simp) ?_)
      have g2 := Heap.get?_update_self (Obj.mapFields (·.setIfInBounds 1 (rawInt ((i : Int) + 1)))) g1 (Obj.isFreed_of_fields (Obj.data_mapFields d1 _))
      refine wpAny_pure ⟨_, rfl, wpAny_pure (hQ e _ he ⟨?_, _, _, g2, (Obj.cls_mapFields ..).trans ((Obj.cls_mapFields ..).trans hc), by rw [Obj.data_mapFields d1]; rfl, (hnx sl' hmo').elim .inl fun z => .inr (.inl z)⟩ fun b u hb hu => ?_)⟩
      · exact (Heap.get?_update_other _ _ (Ne.symm haI)).trans ((Heap.get?_update_other _ _ (Ne.symm haI)).trans ho)
      · exact (Heap.get?_update_other _ _ (Ne.symm hb)).trans ((Heap.get?_update_other _ _ (Ne.symm hb)).trans hu)
  rcases hm with ⟨hb, ⟨sl, rfl⟩, hord⟩ | ⟨hb, hdr, rfl, hord⟩ | ⟨hb, hdr, rfl, oT, places, c, hT, hTd, hp, hord⟩
  · have := key sl rfl (.inl ⟨hb, hord⟩) fun sl' _ => .inl ⟨hb, ⟨sl', rfl⟩, hord⟩
    exact this
  · have := key (slotAt t i) rfl (.inr ⟨hb, hdr, rfl, hord⟩) fun sl' hm' => .inr (by
      rcases hm' with ⟨hb', _⟩ | ⟨_, _, e, _⟩
      · rw [hb] at hb'; cases hb'
      · exact ⟨hb, hdr, by rw [e], hord⟩)
    exact this
  · dsimp only
    refine wpAny_bind (wpAny_seqItems hT hTd ?_)
    dsimp only
    have hat : ((places.map fun (i : Nat) => rawInt (i : Int)).toArray)[((i : Int)).toNat]? = (places[i]?).map fun (i : Nat) => rawInt (i : Int) := by
      rw [List.getElem?_toArray, List.getElem?_map]; rfl
    have hlt : ∀ p ∈ places, p < es.size := fun p hp' => by simpa using hp.mem_iff.mp hp'
    have hoi : ord[i]? = (places[i]?).bind fun j => es[j]? := by rw [hord]; exact pick_at hlt
    cases hq : places[i]? with
    | none =>
      rw [hq] at hat hoi
      rw [hat]
      refine wpAny_bind (wpAny_setField hoI hd (by simp) ?_)
      have g1 := Heap.get?_update_self (Obj.mapFields (·.setIfInBounds 0 (rawInt 0))) hoI (Obj.isFreed_of_fields (Obj.data_mapFields hd _))
      have d1 := Obj.data_mapFields hd (·.setIfInBounds 0 (rawInt 0))
      exact stop_set (s := { s with heap := s.heap.update I (Obj.mapFields (·.setIfInBounds 0 (rawInt 0))) }) hh g1 d1 (by simp) fun h' hx => h0 hoi h' fun b u hb hu => hx b u hb ((Heap.get?_update_other _ _ (Ne.symm hb)).trans hu)
    | some p =>
      have hps : p < es.size := hlt p (List.mem_of_getElem? hq)
      rw [hq] at hat hoi
      rw [hat]
      dsimp only [Option.map, rawInt]
      have hoi' : ord[i]? = some es[p] := by rw [hoi]; exact Array.getElem?_eq_getElem hps
      have hnd : wpAny (model prog w) A.in1 (setNextDrawn a p ep) (fun x s' => x = es[p].2 ∧ s' = s) (fun e s' => False) s := by
        unfold setNextDrawn
        refine wpAny_bind (wpAny_setState_of ho X.data X.ok.fits ?_)
        dsimp only
        simp only [bne_self_eq_false, Bool.false_eq_true, if_false]
        rw [Array.getElem?_eq_getElem hps]
        exact wpAny_pure ⟨rfl, rfl⟩
      refine wpAny_bind (wpAny_mono hnd (fun x s' hx => ?_) fun _ _ z => z.elim)
      obtain ⟨rfl, rfl⟩ := hx
      refine wpAny_bind (wpAny_setField hoI hd (by simp) ?_)
      have g1 := Heap.get?_update_self (Obj.mapFields (·.setIfInBounds 1 (rawInt ((i : Int) + 1)))) hoI (Obj.isFreed_of_fields (Obj.data_mapFields hd _))
      refine wpAny_pure ⟨_, rfl, wpAny_pure (hQ es[p] _ hoi' ⟨?_, _, _, g1, (Obj.cls_mapFields ..).trans hc, by rw [Obj.data_mapFields hd]; rfl, .inr (.inr ⟨hb, hdr, rfl, oT, places, c, ?_, hTd, hp, hord⟩)⟩ fun b u hb hu => ?_)⟩
      · exact (Heap.get?_update_other _ _ (Ne.symm haI)).trans ho
      · exact (Heap.get?_update_other _ _ (Ne.symm (hTI hdr))).trans hT
      · exact (Heap.get?_update_other _ _ (Ne.symm hb)).trans hu
theorem SIt.frame {I a T : Addr} {o : Obj} {es : Array (Int × Value)} {ep : Nat} {t : SetTable} {ord : List (Int × Value)} {i : Nat} {h h' : Heap} (st : SIt w I a T o es ep t ord i h) (k : ∀ b ∈ [I, a, T], ∀ u, h.get? b = some u → h'.get? b = some u) : SIt w I a T o es ep t ord i h' := by
  obtain ⟨ho, first, oI, hoI, hc, hd, hm⟩ := st
  refine ⟨k a (by simp) _ ho, first, oI, k I (by simp) _ hoI, hc, hd, ?_⟩
  rcases hm with h1 | h1 | ⟨hb, hdr, rfl, oT, places, c, hT, r⟩
  · exact .inl h1
  · exact .inr (.inl h1)
  · exact .inr (.inr ⟨hb, hdr, rfl, oT, places, c, k T (by simp) _ hT, r⟩)
theorem Walks.set {I a T : Addr} {o : Obj} {es : Array (Int × Value)} {ep : Nat} {t : SetTable} {S : K → Prop} {ord : List (Int × Value)} (hh : A.handled = none) (X : KObj knd o es ep t S) (haI : a ≠ I) (hTI : SDrawn es t = true → T ≠ I) (hp : List.Perm ord es.toList) :
    Walks prog w A I [I, a, T] [I] ord.length (fun i v => ∃ e, ord[i]? = some e ∧ e.2 = v) (fun i h => SIt w I a T o es ep t ord i h) where
  sub := fun b hb => by simp at hb; simp [hb]
  frame := fun i h h' st k => st.frame k
  item := fun i s Q E hi st hQ => by
    have hl : ord.length = es.size := by rw [hp.length_eq, Array.length_toList]
    refine pyNext_set hh X haI hTI (by omega) st (fun hn => ?_) (fun e h' he st' hk => hQ _ _ s.toks ⟨e, he, rfl⟩ st' fun b u hb hu => hk b u (fun z => hb (by simp [z])) hu)
    rw [List.getElem?_eq_getElem hi] at hn; cases hn
  done := fun s Q E st hQ => by
    have hl : ord.length = es.size := by rw [hp.length_eq, Array.length_toList]
    refine pyNext_set hh X haI hTI (by omega) st (fun hn h' hk => hQ _ s.toks fun b u hb hu => hk b u (fun z => hb (by simp [z])) hu) (fun e h' he _ _ => ?_)
    rw [List.getElem?_eq_none (Nat.le_refl _)] at he; cases he
  self := fun i s Q E st h => by
    obtain ⟨ho, first, oI, hoI, hc, hd, hm⟩ := st
    have hTy : s.TypeIs (.ref I) "set_iterator" := ⟨oI, hoI, hc⟩
    refine wpAny_pyIter_slot hTy set_it_iter (wpAny_call_entry set_it_iter hTy set_it_ientry ?_ (set_it_iargs _))
    show wpAny _ _ (ret (.ref I)) _ _ s
    exact wpAny_pure ⟨_, rfl, "set_iterator", _, hTy, set_it_next.lookup, h⟩
end
end L2

namespace L2
open PySem PySem.Spec PyProof.Rows PySem.W
/-! ### sets of ints and texts: set(xs), sorted(set(xs)) -/
def SetO (P : Program) (w : World) (p : Addr) (ks : List Key) : HO := .ext fun h => ∃ n, KSet (mixKind P w) h p (fun k => k ∈ ks) n
section
variable {X : Cx}
end
end L2

namespace L2
open PySem PySem.Spec PyProof.Rows PySem.W
/-! ### dict(a list of pairs) -/
section
variable {prog : Program} {w : World} {A : Around} {E : Value → Shared → Prop} {s : Shared}
theorem keys_miss_list : typeLookup (.type "list") "keys" = pure none := by rw [typeLookup_type, builtinLookup_eq_fast]; kernel_rfl
theorem no_keys_list {a : Addr} {o : Obj} {xs : Array Value} {k : Nat} {Q : Option Value → Shared → Prop}
    (hx : s.heap.get? a = some o) (hc : o.cls = .type "list") (hdat : o.data = .seq xs k) (hd : o.dict = none) (hA : A.handled = none)
    (h : ∀ h' tk, (∀ b u, s.heap.get? b = some u → h'.get? b = some u) → Q none { s with heap := h', toks := tk }) :
    wpAny (model prog w) A (getAttr? (.ref a) "keys") Q E s := by
  obtain ⟨c, dct, dat, sl⟩ := o
  simp only at hc hdat hd
  subst hc hdat hd
  obtain ⟨hp, g, d, tk, os⟩ := s
  have hT : ∀ tk', (⟨hp, g, d, tk', os⟩ : Shared).TypeIs (.ref a) "list" := fun _ => ⟨_, hx, rfl⟩
  have f1 := sub_AttributeError
  have f3 := PySem.F.slot_list_getattribute.lookup
  have f4 := PySem.F.slot_list_getattribute.bind (.ref a)
  have f5 := am_list_getattr_none
  unfold getAttr? getAttrBy? getAttrBy
  repeat (any_goals (first | assumption | exact hT _ | ((with_reducible show wpAny _ _ (call (Value.builtin "list.__getattribute__") _ _) _ _ _); refine call_meets PySem.F.slot_list_getattribute (hT _) am_entry_list_getattribute (PySem.F.args_list_getattribute_2 _ _) (meets_getattribute_miss_list a xs k sl "keys" _ keys_miss_list (by decide +kernel) (by size_fits)) ⟨hx, hA, fun h' tk' e hx' => ?_⟩) | wp_step))
  obtain ⟨t', u', he⟩ := hx'.there
  show wpAny _ _ (getattributeRaised _ _ _ _ _ _ _) _ _ _
  unfold getattributeRaised
  repeat (any_goals (first | assumption | wp_step))
  exact h _ _ hx'.keeps
end
section
variable {prog : Program} {w : World} {K : Type} [DecidableEq K] {knd : KeyKind prog w K} {A : Around} {R : Result → Shared → Prop} {I : Addr} {fp wr : List Addr} {G : Array GenState → Array GenState → Prop} {n : Nat} {P : Nat → Value → Prop} {St : Nat → Shared → Prop}
theorem entry_upd_loop : entryFor table "dict.update.loop" = some Builtin.«dict.update.loop» := entryFor_of_tree (by kernel_rfl)
theorem plain_upd_loop : plainId "dict.update.loop" = true := by decide +kernel
def putsKV (ks : Nat → K) (us : Nat → Value) : Nat → List (K × Value)
  | 0 => []
  | i + 1 => stored (putsKV ks us i) (ks i) (us i)
theorem stored_len (kvs : List (K × Value)) (k : K) (v : Value) : (stored kvs k v).length ≤ kvs.length + 1 := by
  unfold stored
  split
  · rw [List.length_map]; omega
  · rw [List.length_append]; exact Nat.le_refl _
theorem putsKV_len (ks : Nat → K) (us : Nat → Value) : ∀ i, (putsKV ks us i).length ≤ i
  | 0 => Nat.le_refl _
  | i + 1 => Nat.le_trans (stored_len _ _ _) (Nat.succ_le_succ (putsKV_len ks us i))
theorem pairs_loop (W : WalksS prog w A.in1 I fp wr G n P St) (D : Addr) (hD : D ∉ fp) (ks : Nat → K) (key us : Nat → Value) (cs : Nat → Addr) (hP : ∀ i v, P i v → v = .ref (cs i)) (hk : ∀ i, i < n → knd.is (ks i) (key i) = true) (hc : ∀ i, i < n → cs i ∉ D :: wr) (hn : n ≤ 1000) :
    ∀ (k i : Nat) (s : Shared) (tk : Tok), n - i = k → i ≤ n → St i s → (∀ j, j < n → ∃ o c, s.heap.get? (cs j) = some o ∧ o.cls = .type "tuple" ∧ o.data = .seq #[key j, us j] c) →
      s.heap.DictOf knd D (putsKV ks us i) →
      (∀ s', Moved (D :: wr) G s s' → s'.heap.DictOf knd D (putsKV ks us n) → R (.ok (.ret .none)) s') →
      codeAny (model prog w) A (.builtin "dict.update.loop" ⟨[.ref D, .ref I, .int i tk, .none], []⟩) R s := by
  have hDw : D ∉ wr := fun h => hD (W.sub _ h)
  have hsub : ∀ b ∈ wr, b ∈ D :: wr := fun b hb => List.mem_cons_of_mem _ hb
  intro k
  induction k with
  | zero =>
    intro i s tk hki hi hst hT hS hR
    have hin : i = n := by omega
    subst hin
    refine codeAny_builtin entry_upd_loop ?_
    rw [Around.under_plainId plain_upd_loop _]
    show wpAny _ A.in1 (pyNext (.ref I) >>= _) _ _ s
    refine wpAny_bind (W.done s _ _ hst fun s' hm => ?_)
    show wpAny _ A.in1 (Builtin.Dict.addKeywords D [] >>= fun _ => ret Value.none) _ _ s'
    refine wpAny_bind (wpAny_pure (wpAny_pure (hR s' (hm.mono hsub) ?_)))
    obtain ⟨o, es, ep, ho, r⟩ := hS
    exact ⟨o, es, ep, hm.heap D _ hDw ho, r⟩
  | succ k ih =>
    intro i s tk hki hi hst hT hS hR
    have hlt : i < n := by omega
    refine codeAny_builtin entry_upd_loop ?_
    rw [Around.under_plainId plain_upd_loop _]
    show wpAny _ A.in1 (pyNext (.ref I) >>= _) _ _ s
    refine wpAny_bind (W.item i s _ _ hlt hst fun v s' hP' hst' hm => ?_)
    obtain rfl := hP i v hP'
    have hcw : ∀ j, j < n → cs j ∉ wr := fun j hj h => hc j hj (hsub _ h)
    have hT' : ∀ j, j < n → ∃ o c, s'.heap.get? (cs j) = some o ∧ o.cls = .type "tuple" ∧ o.data = .seq #[key j, us j] c := fun j hj => by
      obtain ⟨o, c, ho, r⟩ := hT j hj
      exact ⟨o, c, hm.heap _ _ (hcw j hj) ho, r⟩
    have hS' : s'.heap.DictOf knd D (putsKV ks us i) := by
      obtain ⟨o, es, ep, ho, r⟩ := hS
      exact ⟨o, es, ep, hm.heap D _ hDw ho, r⟩
    obtain ⟨o, c, ho, hcl, hd⟩ := hT' i hlt
    refine wpAny_bind (wpAny_holding ?_)
    refine wpAny_bind (wpAny_tryCatch ?_)
    unfold Builtin.Dict.pairItems
    refine wpAny_bind (wpAny_typeOf (T := "tuple") ⟨o, ho, hcl⟩ ?_)
    rw [if_pos (by decide)]
    refine wpAny_bind (wpAny_seqItems ho hd (wpAny_pure ?_))
    show wpAny _ A.in1 (holding [key i, us i] (dictSet D (key i) (us i))) _ _ s'
    refine wpAny_holding ?_
    unfold dictSet
    refine wpAny_holding ?_
    refine wpAny_bind (knd.pyHash (k := ks i) (hk i hlt) ?_)
    have hl := putsKV_len ks us i
    refine wpAny_dictSetHashed_pairs (s := { s' with toks := s'.toks + 1 }) (hk i hlt) hS' (fun h' hd' hsb => ?_) (by rw [sizeLine_eq]; omega)
    refine wpAny_pure ⟨plainId_quiet plain_upd_loop _, ?_⟩
    refine ih (i + 1) _ _ (by omega) hlt (W.frame _ s' _ _ hst' (Nat.le_succ _) fun b hb o e => ?_) (fun j hj => ?_) hd' fun s'' hm'' hS'' => ?_
    · rw [hsb.2 b (fun h : b = D => hD (by rw [← h]; exact hb))]; exact e
    · obtain ⟨o, c, ho, r⟩ := hT' j hj
      refine ⟨o, c, ?_, r⟩
      rw [hsb.2 (cs j) (fun h => hc j hj (by rw [h]; exact List.mem_cons_self))]; exact ho
    · refine hR s'' (Moved.trans W.gtrans ((hm.mono hsub).then_heap (Nat.le_succ _) fun b o hb e => ?_) hm'') hS''
      rw [hsb.2 b (fun h : b = D => hb (by rw [h]; exact List.mem_cons_self))]; exact e
end
section
variable {prog : Program} {w : World} {K : Type} [DecidableEq K] {knd : KeyKind prog w K} {A : Around} {E : Value → Shared → Prop} {s : Shared}
theorem call_dict_pairs {l : Addr} {items : Array Value} {ks : Nat → K} {key us : Nat → Value} {cs : Nat → Addr} {Q : Value → Shared → Prop}
    (hh : A.handled = none) (hlo : ∃ o c, s.heap.get? l = some o ∧ o.cls = .type "list" ∧ o.data = .seq items c ∧ o.dict = none) (hi : ∀ (i : Nat) v, items[i]? = some v → v = .ref (cs i)) (hk : ∀ i, i < items.size → knd.is (ks i) (key i) = true) (hn : items.size ≤ 1000)
    (hT : ∀ j, j < items.size → ∃ o c, s.heap.get? (cs j) = some o ∧ o.cls = .type "tuple" ∧ o.data = .seq #[key j, us j] c)
    (h : ∀ (h' : Heap) (tk : Nat), h'.DictOf knd s.heap.objs.size (putsKV ks us items.size) → (∀ b o, b < s.heap.objs.size → s.heap.get? b = some o → h'.get? b = some o) → Q (.ref s.heap.objs.size) { s with heap := h', toks := tk }) :
    wpAny (model prog w) A (call (.type "dict") [.ref l]) Q E s := by
  refine callType_codes (Q₁ := fun obj s₁ => obj = .ref s.heap.objs.size ∧ s₁ = { s with heap := s.heap.push { cls := .type "dict", data := .dict #[] } }) PySem.F.kt_called_dict (PySem.F.kt_typeCall_dict_1 _) PySem.F.entry_dict_init (kt_code_dict_new _ ⟨rfl, rfl⟩) ?_
  rintro obj s₁ ⟨rfl, rfl⟩
  have hnew : (s.heap.push { cls := .type "dict", data := .dict #[] }).DictOf knd s.heap.objs.size [] := Heap.DictOf.new s.heap
  obtain ⟨o, c, hl, hcl, hd, hdn⟩ := hlo
  have hll : l < s.heap.objs.size := Heap.lt_size hl
  have grow : ∀ b u, s.heap.get? b = some u → (s.heap.push { cls := .type "dict", data := .dict #[] }).get? b = some u := fun b u e => Heap.get?_push_of_some _ e
  have hl1 := grow _ _ hl
  refine ⟨hnew.typeIs, PySem.F.args_dict_init_2 _ _, ?_⟩
  unfold Builtin.«dict.__init__»
  refine wpAny_bind ?_
  unfold Builtin.Dict.selfAndRest
  refine wpAny_bind (wpAny_notOrdered_dict hnew.typeIs ?_)
  show wpAny _ _ (pure (s.heap.objs.size, [Value.ref l])) _ _ _
  refine wpAny_pure ?_
  show wpAny _ _ (Builtin.Dict.updateFrom "dict.__init__" s.heap.objs.size (.ref l) [] .none) _ _ _
  unfold Builtin.Dict.updateFrom
  refine wpAny_bind (wpAny_typeOf (T := "list") ⟨o, hl1, hcl⟩ ?_)
  rw [if_pos (by decide)]
  refine wpAny_bind (no_keys_list hl1 hcl hd hdn (by simpa using hh) fun h1 tk1 hk1 => ?_)
  simp only [Option.isNone_none, if_true]
  refine wpAny_bind (wpAny_rule ?_)
  have hl2 : h1.IsList l items := ⟨o, hk1 _ _ hl1, hcl, c, hd⟩
  refine wpAny_bind (wpAny_pyIter_list (s := { s with heap := h1, toks := tk1 }) hl2 ?_)
  obtain ⟨oD, hoD⟩ : ∃ oD, h1.get? s.heap.objs.size = some oD := by
    obtain ⟨oD, _, _, e, _⟩ := hnew
    exact ⟨oD, hk1 _ _ e⟩
  have hDI : s.heap.objs.size < h1.objs.size := Heap.lt_size hoD
  have hD1 : h1.DictOf knd s.heap.objs.size [] := by
    obtain ⟨oD', es, ep, e, r⟩ := hnew
    exact ⟨oD', es, ep, hk1 _ _ e, r⟩
  have hhI : A.in1.in1.handled = none := by simpa using hh
  have hlt : ∀ j, j < items.size → cs j < s.heap.objs.size := fun j hj => by
    obtain ⟨o, c, ho, _⟩ := hT j hj
    exact Heap.lt_size ho
  refine wpAny_pure ⟨plainId_quiet plain_upd_loop _, pairs_loop (A := A.in1) (knd := knd) ((Walks.list hhI h1.objs.size l (Nat.ne_of_lt (Nat.lt_trans hll hDI)) items).toS) s.heap.objs.size ?_ ks key us cs (fun i v hv => hi i v hv) hk (fun i hi' => ?_) hn items.size 0 _ _ rfl (Nat.zero_le _) ⟨⟨_, Heap.get?_push_size _ rfl, rfl, rfl⟩, hl2.push _⟩ (fun j hj => ?_) ?_ fun s' hm hS' => ?_⟩
  · simp only [List.mem_cons, List.not_mem_nil, or_false, not_or]
    exact ⟨Nat.ne_of_lt hDI, Nat.ne_of_gt hll⟩
  · simp only [List.mem_cons, List.not_mem_nil, or_false, not_or]
    have := hlt i hi'
    exact ⟨Nat.ne_of_lt this, Nat.ne_of_lt (Nat.lt_trans this hDI)⟩
  · obtain ⟨o, c, ho, r⟩ := hT j hj
    exact ⟨o, c, Heap.get?_push_of_some _ (hk1 _ _ (grow _ _ ho)), r⟩
  · obtain ⟨oD', es, ep, e, r⟩ := hD1
    exact ⟨oD', es, ep, Heap.get?_push_of_some _ e, r⟩
  · refine ⟨rfl, ?_⟩
    have := h s'.heap s'.toks hS' fun b u hb e => hm.heap b u (by
      simp only [List.mem_cons, List.not_mem_nil, or_false, not_or]
      exact ⟨Nat.ne_of_lt hb, Nat.ne_of_lt (Nat.lt_trans hb hDI)⟩) (Heap.get?_push_of_some _ (hk1 _ _ (grow _ _ e)))
    have es : s' = { s with heap := s'.heap, toks := s'.toks } := by
      obtain ⟨a, b, c', d', e'⟩ := s'
      have h1 := hm.gens
      have h2 := hm.drawn
      have h3 := hm.os
      dsimp only at h1 h2 h3 ⊢
      rw [← h1, h2, h3]
    rw [es]; exact this
end
section
variable {X : Cx}
theorem val_key' {P : Program} {w : World} {k : Key} {v : Value} (h : RelV (kV k) v) : (mixKind P w).is k v = true := by
  show keyIs k v = true
  rcases k with i | y
  · obtain ⟨t, rfl⟩ := h
    simp [keyIs, Value.isInt]
  · obtain ⟨t, rfl⟩ := h
    simp [keyIs, Value.isStrOf]
def putsP (ps : List (Key × V)) : List (Key × V) := ps.foldl (fun d p => putK d p.1 p.2) []
def PairsAt (H : Hp) (cs : List Addr) (ps : List (Key × V)) : Prop := cs.length = ps.length ∧ ∀ (i : Nat) c p, cs[i]? = some c → ps[i]? = some p → H c = some (.tup [kV p.1, p.2])
def rDictP : List V → Hp → VK → Prop := fun xs H Q => ∃ a cs ps, xs = [.ref a] ∧ H a = some (.lst (cs.map V.ref)) ∧ PairsAt H cs ps ∧ ps.length < 1000 ∧ ∀ p, H p = none → Q (.ref p) (upd H p (.dK (putsP ps)))
theorem putsKV_rel {ks : Nat → Key} {us : Nat → Value} {ps : List (Key × V)} (h : ∀ (i : Nat) p, ps[i]? = some p → ks i = p.1 ∧ RelV p.2 (us i)) : ∀ i, i ≤ ps.length → KV (putsP (ps.take i)) (putsKV ks us i)
  | 0, _ => by rw [List.take_zero]; exact .nil
  | i + 1, hi => by
    have ih := putsKV_rel h i (by omega)
    obtain ⟨h1, h2⟩ := h i ps[i] (List.getElem?_eq_getElem (by omega))
    have e : ps.take (i + 1) = ps.take i ++ [ps[i]] := by rw [List.take_add_one, List.getElem?_eq_getElem (by omega)]; rfl
    have e2 : putsP (ps.take (i + 1)) = putK (putsP (ps.take i)) ps[i].1 ps[i].2 := by rw [e]; unfold putsP; rw [List.foldl_append]; rfl
    rw [e2]
    show KV _ (stored (putsKV ks us i) (ks i) (us i))
    rw [h1]
    exact ih.put _ h2
theorem vals_refs : ∀ {cs : List Addr} {vs : List Value}, Vals (cs.map V.ref) vs → vs = cs.map Value.ref
  | [], _, .nil => rfl
  | c :: cs, _, .cons r t => by
    rw [vals_refs t]
    cases r
    rfl
theorem call_dictP (hc : X.calm = true) : CallR X (.type "dict") rDictP := by
  intro pins s σ H xs us Q I r h
  obtain ⟨a, cs, ps, rfl, ha, ⟨hlen, hat⟩, hsz, q⟩ := h
  obtain ⟨u, rfl, ru⟩ := vals1 r
  cases ru
  obtain ⟨hz, its, n, rv, hl⟩ := (show ObjOk X.prog X.w H s.heap a (.lst (cs.map V.ref)) from I.hok a _ ha)
  have hits := vals_refs rv
  subst hits
  have htup : ∀ j, j < ps.length → ∃ key uv o c, RelV (kV (ps.getD j (Sum.inl 0, .non)).1) key ∧ RelV (ps.getD j (Sum.inl 0, .non)).2 uv ∧ s.heap.get? (cs.getD j 0) = some o ∧ o.cls = .type "tuple" ∧ o.data = .seq #[key, uv] c := fun j hj => by
    have hcj : cs[j]? = some cs[j] := List.getElem?_eq_getElem (by omega)
    have hpj : ps[j]? = some ps[j] := List.getElem?_eq_getElem hj
    have hH := hat j _ _ hcj hpj
    have e1 : ps.getD j (Sum.inl 0, .non) = ps[j] := by rw [List.getD_eq_getElem?_getD, hpj]; rfl
    have e2 : cs.getD j 0 = cs[j] := by rw [List.getD_eq_getElem?_getD, hcj]; rfl
    rw [e1, e2]
    obtain ⟨_, vs, rvs, hT⟩ := (show ObjOk X.prog X.w H s.heap cs[j] (.tup [kV ps[j].1, ps[j].2]) from I.hok _ _ hH)
    obtain ⟨v1, v2, rfl, r1, r2⟩ := vals2 rvs
    obtain ⟨o, ho, hcl, c, hd⟩ := hT
    exact ⟨v1, v2, o, c, r1, r2, ho, hcl, hd⟩
  have hex : ∀ j, ∃ kv : Value × Value, j < ps.length → RelV (kV (ps.getD j (Sum.inl 0, .non)).1) kv.1 ∧ RelV (ps.getD j (Sum.inl 0, .non)).2 kv.2 ∧ ∃ o c, s.heap.get? (cs.getD j 0) = some o ∧ o.cls = .type "tuple" ∧ o.data = .seq #[kv.1, kv.2] c := fun j => by
    by_cases hj : j < ps.length
    · obtain ⟨key, uv, o, c, h1, h2, h3⟩ := htup j hj
      exact ⟨(key, uv), fun _ => ⟨h1, h2, o, c, h3⟩⟩
    · exact ⟨(.none, .none), fun h => absurd h hj⟩
  have hsp := fun j => Classical.choose_spec (hex j)
  generalize hf : (fun j => Classical.choose (hex j)) = f
  have hsp' : ∀ j, j < ps.length → RelV (kV (ps.getD j (Sum.inl 0, .non)).1) (f j).1 ∧ RelV (ps.getD j (Sum.inl 0, .non)).2 (f j).2 ∧ ∃ o c, s.heap.get? (cs.getD j 0) = some o ∧ o.cls = .type "tuple" ∧ o.data = .seq #[(f j).1, (f j).2] c := fun j hj => by
    have := hsp j hj
    rw [← hf]; exact this
  clear hsp hf
  have hsize : (cs.map Value.ref).toArray.size = ps.length := by rw [List.size_toArray, List.length_map, hlen]
  refine call_dict_pairs (knd := mixKind X.prog X.w) (ks := fun j => (ps.getD j (Sum.inl 0, .non)).1) (key := fun j => (f j).1) (us := fun j => (f j).2) (cs := fun j => cs.getD j 0) (I.ok.hd hc) ⟨_, n, hl, rfl, rfl, rfl⟩ (fun i v hv => ?_) (fun i hi => ?_) (by rw [hsize]; omega) (fun j hj => ?_) fun h' tk hD hk => ?_
  · have hv' : (cs.map Value.ref)[i]? = some v := by simpa using hv
    rw [List.getElem?_map] at hv'
    cases hci : cs[i]? with
    | none => rw [hci] at hv'; cases hv'
    | some c =>
      rw [hci] at hv'
      cases hv'
      show Value.ref c = Value.ref (cs.getD i 0)
      rw [List.getD_eq_getElem?_getD, hci]; rfl
  · exact val_key' (hsp' i (by omega)).1
  · exact (hsp' j (by omega)).2.2
  · have hrel := putsKV_rel (ks := fun j => (ps.getD j (Sum.inl 0, .non)).1) (us := fun j => (f j).2) (ps := ps) (fun i p hp => by
      have hi : i < ps.length := (List.getElem?_eq_some_iff.mp hp).1
      have e1 : ps.getD i (Sum.inl 0, .non) = p := by rw [List.getD_eq_getElem?_getD, hp]; rfl
      have h2 := (hsp' i hi).2.1
      rw [e1] at h2
      exact ⟨by show (ps.getD i (Sum.inl 0, .non)).1 = p.1; rw [e1], h2⟩) ps.length (Nat.le_refl _)
    rw [List.take_length] at hrel
    rw [hsize] at hD
    have hl2 : (putsP ps).length ≤ ps.length := by
      rw [hrel.length]; exact putsKV_len _ _ _
    refine ⟨.ref s.heap.objs.size, _, I.laid (a := s.heap.objs.size) (o := .dK (putsP ps)) (t' := tk) (fun b u e => hk b u (Heap.lt_size e) e) (Nat.le_refl _) (dk_new (by rw [sizeLine_eq]; omega) (beq_eq_false_iff_ne.mpr (Ne.symm (Nat.ne_of_lt I.big))) hrel hD), rfl, q _ (I.hok.fresh (Nat.le_refl _))⟩
end
end L2

namespace L2
open PySem PySem.Spec PyProof.Rows PySem.W
/-! ### a dict walked: it is known to the object while it is -/
section
variable {P : Program} {w : World} {H : Hp} {h : Heap} {a : Addr} {o : Obj} {u : HO}
/-- what is told of the others stands when a mutable one is told otherwise -/
theorem hok_tell {v : HO} (x : HOk P w H h) (hm : ∀ xs, H a ≠ some (.tup xs)) (ho : ∀ y, H a ≠ some (.own y)) (new : ObjOk P w (upd H a v) h a v) : HOk P w (upd H a v) h := fun b q e => by
  by_cases hb : b = a
  · subst hb; rw [upd_same] at e; cases e; exact new
  · rw [upd_ne hb] at e
    refine (x b q e).stay (fun c v _ q => q) (fun c q => ?_) fun c xs q => ?_
    · rw [upd_ne (fun z => ho _ (z ▸ q))]; exact q
    · rw [upd_ne (fun z => hm _ (z ▸ q))]; exact q
end
section
variable {X : Cx} {pins : List (Addr × Obj)} {σ : St} {H : Hp} {s : Shared} {a : Addr} {kvs : List (Key × V)}
theorem un_tell {fs ex : List Addr} {H0 H : Hp} {h0 h : Heap} {a : Addr} {v : HO} (u : Un fs ex H0 H h0 h) (hn : H a ≠ none) (hm : ∀ xs, H a ≠ some (.tup xs)) (hf : ∀ o u, H0 a = some (.frz o u) → False) (ht : ∀ ps, H a ≠ some (.tbl ps)) : Un fs ex H0 (upd H a v) h0 h where
  keep := u.keep
  slot := u.slot
  free := fun b o q n hx => by
    have e := u.free b o q n hx
    rw [upd_ne (fun z : b = a => hn (by rw [← z]; exact e))]; exact e
  there := u.there
  tups := fun b xs q => by
    have e := u.tups b xs q
    rw [upd_ne (fun z => hm _ (z ▸ e))]; exact e
  frzs := fun b o w q => by
    have e := u.frzs b o w q
    by_cases z : b = a
    · subst z; exact (hf _ _ q).elim
    · rw [upd_ne z]; exact e
  tbls := fun b ps q => by
    obtain ⟨more, e⟩ := u.tbls b ps q
    exact ⟨more, by rw [upd_ne (fun z => ht _ (z ▸ e))]; exact e⟩
theorem Inv.tell {v : HO} (I : Inv X pins σ H s) (hn : H a ≠ none) (hm : ∀ xs, H a ≠ some (.tup xs)) (ho : ∀ y, H a ≠ some (.own y)) (ht : ∀ ps, H a ≠ some (.tbl ps)) (hf : ∀ o u, X.H₀ a = some (.frz o u) → False) (new : ObjOk X.prog X.w (upd H a v) s.heap a v) : Inv X pins σ (upd H a v) s where
  ok := I.ok
  os := I.os
  bare := I.bare
  base := un_tell I.base hn hm hf ht
  loc := I.loc
  cell := I.cell
  free := by rw [upd_ne (fun z : X.env.locals = a => hn (by rw [← z]; exact I.free))]; exact I.free
  freeC := fun x c e => by rw [upd_ne (fun z : c = a => hn (by rw [← z]; exact I.freeC x c e))]; exact I.freeC x c e
  pin := fun p hp => by
    obtain ⟨h1, h2, h3⟩ := I.pin p hp
    exact ⟨h1, by rw [upd_ne (fun z : p.1 = a => hn (by rw [← z]; exact h2))]; exact h2, h3⟩
  hok := hok_tell I.hok hm ho new
  len := I.len
/-- it is known -/
theorem Inv.freeze (I : Inv X pins σ H s) (ha : H a = some (.dK kvs)) (hf : ∀ o u, X.H₀ a = some (.frz o u) → False) : ∃ o es ep, s.heap.get? a = some o ∧ o.data = .dict es ep ∧ Inv X pins σ (upd H a (.frz o (.dK kvs))) s := by
  obtain ⟨z, hd, vs, rel, o, es, ep, ho, hx, hdat, r⟩ := (show ObjOk X.prog X.w H s.heap a (.dK kvs) from I.hok a _ ha)
  refine ⟨o, es, ep, ho, hdat, I.tell (by rw [ha]; exact fun z => nomatch z) (fun xs => by rw [ha]; exact fun z => nomatch z) (fun xs => by rw [ha]; exact fun z => nomatch z) (fun xs => by rw [ha]; exact fun z => nomatch z) hf ⟨ho, z, hd, vs, rel, o, es, ep, ho, hx, hdat, r⟩⟩
/-- it is so no more -/
theorem Inv.thaw {o : Obj} (I : Inv X pins σ H s) (ha : H a = some (.frz o (.dK kvs))) (hf : ∀ o u, X.H₀ a = some (.frz o u) → False) : Inv X pins σ (upd H a (.dK kvs)) s := by
  obtain ⟨_, x⟩ := (show ObjOk X.prog X.w H s.heap a (.frz o (.dK kvs)) from I.hok a _ ha)
  exact I.tell (by rw [ha]; exact fun z => nomatch z) (fun xs => by rw [ha]; exact fun z => nomatch z) (fun xs => by rw [ha]; exact fun z => nomatch z) (fun xs => by rw [ha]; exact fun z => nomatch z) hf x
end
/-- behind a walk: what was known to the object is a dict again -/
def Thaw (H0 H : Hp) (R : Hp → Prop) : Prop := ∃ a o kvs, H a = some (.frz o (.dK kvs)) ∧ (∀ o u, H0 a = some (.frz o u) → False) ∧ R (upd H a (.dK kvs))
def tThE (H0 : Hp) (t : TE) : TE := fun σ H Q => t σ H fun v H' => Thaw H0 H' (Q v)
def tThS (H0 : Hp) (t : TS) : TS := fun D σ H => t { nx := fun σ' H' => Thaw H0 H' (D.nx σ'), rt := fun v H' => Thaw H0 H' (D.rt v) } σ H
section
variable {X : Cx}
theorem pe_thaw {e : Expr} {t : TE} (h : PE X e t) : PE X e (tThE X.H₀ t) := by
  intro pins s σ H Q I hw
  refine thn (h pins s σ H _ I hw) fun u s1 ⟨v, H1, I1, r1, a, o, kvs, ha, hf, q⟩ => ⟨v, _, I1.thaw ha hf, r1, q⟩
theorem ps_thaw {st : Stmt} {t : TS} (h : PS X st t) : PS X st (tThS X.H₀ t) := by
  intro pins s σ H D I hw
  refine thn (h pins s σ H _ I hw) fun f s1 q => ?_
  cases f with
  | next => obtain ⟨σ', H1, I1, a, o, kvs, ha, hf, q⟩ := q; exact ⟨σ', _, I1.thaw ha hf, q⟩
  | ret v => obtain ⟨x, σ', H1, I1, r1, a, o, kvs, ha, hf, q⟩ := q; exact ⟨x, σ', _, I1.thaw ha hf, r1, q⟩
  | brk => obtain ⟨σ', H1, I1, q⟩ := q; exact q.elim
  | cont => obtain ⟨σ', H1, I1, q⟩ := q; exact q.elim
end
/-- a dict's keys, its values -/
def Itk (a : Addr) (o : Obj) (kvs : List (Key × V)) : It :=
  ⟨fun i H => H a = some (.frz o (.dK kvs)) ∧ i < kvs.length, fun i H x H' => H' = H ∧ ∃ kv, kvs[i]? = some kv ∧ x = kV kv.1, fun i H => H a = some (.frz o (.dK kvs)) ∧ kvs.length ≤ i⟩
theorem frz_dict {X : Cx} {pins : List (Addr × Obj)} {σ : St} {H : Hp} {s : Shared} {a : Addr} {o : Obj} {kvs : List (Key × V)} {es : Array DictEntry} {ep : Nat} (I : Inv X pins σ H s) (ha : H a = some (.frz o (.dK kvs))) (hd : o.data = .dict es ep) :
    ∃ ws, KV kvs ws ∧ s.heap.DictAt (mixKind X.prog X.w) a ws ep := by
  obtain ⟨ho, z, _, ws, rel, o', es', ep', ho', hx, hdat, r⟩ := (show ObjOk X.prog X.w H s.heap a (.frz o (.dK kvs)) from I.hok a _ ha)
  rw [ho] at ho'
  obtain rfl := Option.some.inj ho'
  rw [hd] at hdat
  injection hdat with e1 e2
  subst e1; subst e2
  exact ⟨ws, rel, o, es, ho, hx, hd, r⟩
theorem kv_at : ∀ {kvs : List (Key × V)} {ws : List (Key × Value)} {i : Nat} {kv : Key × V}, KV kvs ws → kvs[i]? = some kv → ∃ u, ws[i]? = some (kv.1, u) ∧ RelV kv.2 u
  | _, _, i, kv, .nil, h => by simp at h
  | _, _, 0, kv, .cons (a := x) (b := y) r t, h => by
    simp at h; subst h
    exact ⟨y.2, by rw [r.1]; rfl, r.2⟩
  | _, _, i + 1, kv, .cons r t, h => by
    obtain ⟨u, h1, h2⟩ := kv_at (i := i) t (by simpa using h)
    exact ⟨u, by simpa using h1, h2⟩
theorem key_rel {P : Program} {w : World} {k : Key} {v : Value} (h : (mixKind P w).is k v = true) : RelV (kV k) v := by
  have h' : keyIs k v = true := h
  rcases keyIs_shape h' with ⟨i, t, e1, e2⟩ | ⟨y, t, e1, e2⟩
  · rw [e1, e2]; exact ⟨t, rfl⟩
  · rw [e1, e2]; exact ⟨t, rfl⟩
theorem turn_keys {P : Program} {w : World} {K : PySem.W.Frag} {tg : Expr} (a it : Addr) (o : Obj) (kvs : List (Key × V)) (es : Array DictEntry) (ep : Nat) (hd : o.data = .dict es ep) : Turn P w K tg (Itk a o kvs) [it] it (fun i h => h.IsKeyIter it a i kvs.length ep) where
  mem := by simp
  obj := fun i h st b hb => by
    have e : b = it := by simpa using hb
    subst e
    obtain ⟨o, e, c, d⟩ := st
    exact ⟨o, e, fun v z => by rw [d] at z; cases z⟩
  keep := fun i h h' st k => st.at fun o e => k it (by simp) o e
  item := by
    intro X hP hw hK hc i pins s σ H E I hf st ⟨ha, hi⟩
    subst hP hw hK
    obtain ⟨ws, rel, hat⟩ := frz_dict I ha hd
    have hl := Paired.length rel
    have hx : kvs[i]? = some kvs[i] := List.getElem?_eq_getElem hi
    obtain ⟨u, hu, ru⟩ := kv_at rel hx
    obtain ⟨f0, f1, f2, f3, f4, f5⟩ := hf it (by simp)
    rw [hl] at st
    refine wpAny_pyNext_dict_item st hat hu fun key h' hkey st' sb => ?_
    have I1 : Inv X pins σ H { s with heap := h' } := I.turned (t' := s.toks) (fun b o hb e => (sb.2 b hb).trans e) f0 f1 f3 f4 f5
    obtain ⟨o', e', c', d'⟩ := id st'
    rw [← hl] at st'
    exact ⟨key, rfl, go_of (s := { s with heap := h' }) e' c' d' (by decide) ⟨kV kvs[i].1, H, I1, key_rel hkey, ⟨rfl, kvs[i], hx, rfl⟩, st', fun b hb => (hf b hb).1⟩⟩
  done := by
    intro X hP hw hK hc i pins s σ H E I hf st ⟨ha, hi⟩
    subst hP hw hK
    obtain ⟨ws, rel, hat⟩ := frz_dict I ha hd
    have hl := Paired.length rel
    obtain ⟨f0, f1, f2, f3, f4, f5⟩ := hf it (by simp)
    rw [hl] at st
    exact wpAny_pyNext_dict_end (I.ok.hd hc) st hat (List.getElem?_eq_none (by omega)) fun h' eb => ⟨rfl, I.turned (t' := s.toks) (fun b o hb e => eb b o hb e) f0 f1 f3 f4 f5⟩
  self := fun _ _ _ _ _ st h => wpAny_pyIter_keyiter st h
section
variable {X : Cx} {tg : Expr}
def iKeys (H0 : Hp) (tl : TE) : TI := fun σ H R => tl σ H fun x H1 => ∃ a kvs, x = .ref a ∧ H1 a = some (.dK kvs) ∧ (∀ o u, H0 a = some (.frz o u) → False) ∧ ∀ o, R (Itk a o kvs) (upd H1 a (.frz o (.dK kvs)))
theorem pi_keys {l : Expr} {tl : TE} (hl : PE X l tl) : PI X tg l (iKeys X.H₀ tl) := by
  intro pins s σ H R I h
  refine thn (hl pins s σ H _ I h) fun v s1 ⟨x, H1, I1, r1, q1⟩ => ?_
  obtain ⟨a, kvs, e, ha, hf, q⟩ := q1
  subst e
  cases r1
  obtain ⟨o, es, ep, ho, hd, I2⟩ := I1.freeze ha hf
  obtain ⟨ws, rel, hat⟩ := frz_dict (kvs := kvs) I2 upd_same hd
  have hlo : (a == sysModules) = false := by
    obtain ⟨_, lo, _⟩ := (show ObjOk X.prog X.w H1 s1.heap a (.dK kvs) from I1.hok a _ ha)
    exact lo
  refine wpAny_pyIter_dict hlo hat ?_
  refine ⟨s1.heap.objs.size, [s1.heap.objs.size], _, _, _, rfl, I2.kept (t' := s1.toks) fun b o e => Heap.get?_push_of_some _ e, turn_keys a _ o kvs es ep hd, ?_, fun b hb => ?_, q o⟩
  · rw [Paired.length rel]; exact ⟨_, Heap.get?_push_size _ rfl, rfl, rfl⟩
  · have e : b = s1.heap.objs.size := by simpa using hb
    subst e
    exact I2.fpOk (Nat.le_refl _) (I2.hok.fresh (Nat.le_refl _))
end
end L2

namespace L2
open PySem PySem.Spec PyProof.Rows PySem.W
/-! ### d.items(), walked -/
section
variable {X : Cx}
end
section
variable {X : Cx} {elts : List Expr} {kk : Nat} {tpos : Pos}
end
/-- over a walk of n turns: the forms one uses -/
theorem for_it {J : It} {n : Nat} {g : TG} {tb : TS} {D : Ends} {σ : St} {H : Hp} (Pv : Nat → St → Hp → Prop) (h0 : Pv 0 σ H)
    (hs : ∀ i σ H, i < n → Pv i σ H → J.go i H ∧ ∀ x H', J.yld i H x H' → g x σ H' fun σ2 H2 => tb { D with nx := Pv (i + 1), ct := Pv (i + 1), bk := D.nx } σ2 H2) (hd : ∀ σ H, Pv n σ H → J.stop n H ∧ D.nx σ H) :
    ∃ W : Nat → Nat → St → Hp → Prop, (∃ m, W 0 m σ H) ∧ ∀ i m σ H, W i m σ H →
      (J.stop i H ∧ D.nx σ H) ∨ (J.go i H ∧ ∃ N : St → Hp → Prop, (∀ σ' H', N σ' H' → ∃ m', m' < m ∧ W (i + 1) m' σ' H') ∧ ∀ x H', J.yld i H x H' → g x σ H' fun σ2 H2 => tb { D with nx := N, ct := N, bk := D.nx } σ2 H2) := by
  refine ⟨fun i m σ H => m = n - i ∧ i ≤ n ∧ Pv i σ H, ⟨n, by simp, Nat.zero_le _, h0⟩, ?_⟩
  rintro i m σ H ⟨rfl, hi, p⟩
  by_cases z : i < n
  · obtain ⟨g1, g2⟩ := hs i σ H z p
    exact .inr ⟨g1, Pv (i + 1), fun σ' H' q => ⟨n - (i + 1), by omega, rfl, z, q⟩, g2⟩
  · have e : i = n := by omega
    subst e
    exact .inl (hd σ H p)
end L2

namespace L2
open PySem PySem.Spec PyProof.Rows PySem.W
/-! ### hearers by their names -/
def updS (f : Str → HS) (n : Str) (s : HS) : Str → HS := fun m => if m = n then s else f m
theorem updS_same {f : Str → HS} {n : Str} {s : HS} : updS f n s n = s := if_pos rfl
theorem updS_ne {f : Str → HS} {n m : Str} {s : HS} (h : m ≠ n) : updS f n s m = f m := if_neg h
abbrev HL := List (Str × HA)
def HsAt (C : Addr) (H : Hp) (l : HL) (f : Str → HS) : Prop := ∀ x ∈ l, HAt C H x.2 (f x.1) []
def fpH (l : HL) : List Addr := l.flatMap fun x => x.2.fp
def kvH (l : HL) : List (Key × V) := l.map fun x => (Sum.inr x.1, V.ref x.2.p)
structure DisH (l : HL) : Prop where
  nd : (l.map (·.1)).Nodup
  ap : l.Pairwise fun x y => ∀ c ∈ x.2.fp, c ∉ y.2.fp
theorem mem_fpH {l : HL} {c : Addr} : c ∈ fpH l ↔ ∃ x ∈ l, c ∈ x.2.fp := by unfold fpH; rw [List.mem_flatMap]
theorem DisH.apart {l : HL} (h : DisH l) {x y : Str × HA} (hx : x ∈ l) (hy : y ∈ l) (hn : x.1 ≠ y.1) : ∀ c ∈ x.2.fp, c ∉ y.2.fp := by
  obtain ⟨i, hi, rfl⟩ := List.getElem_of_mem hx
  obtain ⟨j, hj, rfl⟩ := List.getElem_of_mem hy
  rcases Nat.lt_trichotomy i j with z | z | z
  · exact List.pairwise_iff_getElem.mp h.ap i j hi hj z
  · subst z; exact absurd rfl hn
  · have := List.pairwise_iff_getElem.mp h.ap j i hj hi z
    exact fun c hc w => this c w hc
theorem DisH.uniq {l : HL} (h : DisH l) {x y : Str × HA} (hx : x ∈ l) (hy : y ∈ l) (hn : x.1 = y.1) : x = y := by
  have nd := List.pairwise_map.mp h.nd
  obtain ⟨i, hi, rfl⟩ := List.getElem_of_mem hx
  obtain ⟨j, hj, rfl⟩ := List.getElem_of_mem hy
  rcases Nat.lt_trichotomy i j with z | z | z
  · exact absurd hn (List.pairwise_iff_getElem.mp nd i j hi hj z)
  · subst z; rfl
  · exact absurd hn.symm (List.pairwise_iff_getElem.mp nd j i hj hi z)
section
variable {C : Addr} {H H' : Hp} {l : HL} {f : Str → HS}
theorem HsAt.step {ps ps' : List Addr} (h : HsAt C H l f) (st : Stp ps H ps' H') (hd : ∀ c ∈ fpH l, c ∉ ps) : HsAt C H' l f := fun x hx => (h x hx).step st fun c hc => hd c (mem_fpH.mpr ⟨x, hx, hc⟩)
theorem HsAt.same (h : HsAt C H l f) (e : Same H H') : HsAt C H' l f := fun x hx => (h x hx).same e
theorem HsAt.live (h : HsAt C H l f) : ∀ c ∈ fpH l, ∃ o, H c = some o := fun c hc => by
  obtain ⟨x, hx, hc⟩ := mem_fpH.mp hc
  exact (h x hx).live c hc
theorem HsAt.out {ps ps' : List Addr} (h : HsAt C H l f) (st : Stp ps H ps' H') (hd : ∀ c ∈ fpH l, c ∉ ps) : ∀ c ∈ fpH l, c ∉ ps' := fun c hc => by
  obtain ⟨o, ho⟩ := h.live c hc
  exact st.out ho (hd c hc)
/-- one of them has gone on -/
theorem HsAt.put (h : HsAt C H l f) (d : DisH l) {x : Str × HA} {s : HS} (hx : x ∈ l) (st : Stp x.2.fp H x.2.fp H') (ha : HAt C H' x.2 s []) : HsAt C H' l (updS f x.1 s) ∧ Stp (fpH l) H (fpH l) H' := by
  refine ⟨fun y hy => ?_, st.up fun c hc => mem_fpH.mpr ⟨x, hx, hc⟩⟩
  by_cases e : y.1 = x.1
  · rw [d.uniq hy hx e, updS_same]; exact ha
  · rw [updS_ne e]
    exact (h y hy).step st (d.apart hy hx e)
/-- one more -/
theorem HsAt.more {n : Str} {a : HA} (h : HsAt C H l f) (ha : HAt C H a (f n) []) : HsAt C H (l ++ [(n, a)]) f := fun y hy => by
  rcases List.mem_append.mp hy with z | z
  · exact h y z
  · rw [List.mem_singleton] at z; rw [z]; exact ha
end
theorem fpH_snoc (l : HL) (n : Str) (a : HA) : fpH (l ++ [(n, a)]) = fpH l ++ a.fp := by
  unfold fpH
  rw [List.flatMap_append]
  congr 1
theorem DisH.more {l : HL} {n : Str} {a : HA} (h : DisH l) (hn : n ∉ l.map (·.1)) (hd : ∀ c ∈ fpH l, c ∉ a.fp) : DisH (l ++ [(n, a)]) where
  nd := by
    rw [List.map_append]
    exact List.nodup_append.mpr ⟨h.nd, by simp, fun x hx y hy e => by simp at hy; rw [hy] at e; rw [e] at hx; exact hn hx⟩
  ap := List.pairwise_append.mpr ⟨h.ap, List.pairwise_singleton _ _, fun x hx y hy c hc => by
    rw [List.mem_singleton] at hy; rw [hy]; exact hd c (mem_fpH.mpr ⟨x, hx, hc⟩)⟩
theorem kvH_val {l : HL} (d : DisH l) {x : Str × HA} (hx : x ∈ l) : valV (kvH l) (Sum.inr x.1) = some (.ref x.2.p) := by
  have key : ∀ (l : HL), (l.map (·.1)).Nodup → x ∈ l → valV (kvH l) (Sum.inr x.1) = some (.ref x.2.p) := by
    intro l
    induction l with
    | nil => intro _ h; exact absurd h List.not_mem_nil
    | cons y r ih =>
      intro nd h
      rw [List.map_cons, List.nodup_cons] at nd
      by_cases e : y.1 = x.1
      · rcases List.mem_cons.mp h with rfl | z
        · exact valV_pos rfl
        · exact absurd (by rw [e]; exact List.mem_map_of_mem z) nd.1
      · rcases List.mem_cons.mp h with rfl | z
        · exact absurd rfl e
        · refine (valV_neg ?_).trans (ih nd.2 z)
          intro w
          exact e (Sum.inr.inj w)
  exact key l d.nd hx
theorem kvH_none {l : HL} {n : Str} (h : n ∉ l.map (·.1)) : valV (kvH l) (Sum.inr n) = none := by
  induction l with
  | nil => rfl
  | cons y r ih =>
    rw [List.map_cons, List.mem_cons, not_or] at h
    refine (valV_neg ?_).trans (ih h.2)
    intro w
    exact h.1 (Sum.inr.inj w).symm
theorem kvH_snoc {l : HL} {n : Str} {a : HA} (h : n ∉ l.map (·.1)) : putK (kvH l) (Sum.inr n) (.ref a.p) = kvH (l ++ [(n, a)]) := by
  rw [putK_new _ (kvH_none h)]
  unfold kvH
  rw [List.map_append]; rfl
theorem kvH_len (l : HL) : (kvH l).length = l.length := by unfold kvH; rw [List.length_map]
/-! ### sources -/
def rwD (r : Str × Msg) : PyData := .tuple [.str r.1, .int r.2.n, .str r.2.t, .str r.2.x]
theorem noLst_rw : ∀ rs : List (Str × Msg), noLstA (rs.map rwD) = true
  | [] => rfl
  | r :: rs => by simp [noLstA, noLst, rwD, noLst_rw rs]
structure SourcesC (K : PySem.W.Frag) (mg : Str → Option Value) (C : Addr) : Prop where
  cl_Sources : Cls K C
  mg_Sources : mg "Sources" = some (.ref C)
  n_hearers : NoAttr K C "hearers"
  n_story : NoAttr K C "story"
structure SA where
  p : Addr
  hd : Addr
  st : Addr
def sFl (a : SA) : List (Str × V) := [("hearers", .ref a.hd), ("story", .ref a.st)]
theorem sFl_h (a : SA) : (sFl a).lookup ("hearers" : Str) = some (V.ref a.hd) := lk_hit
theorem sFl_s (a : SA) : (sFl a).lookup ("story" : Str) = some (V.ref a.st) := (lk_miss (by decide +kernel)).trans lk_hit
theorem sFl_no {a : SA} {f : Str} (h1 : ¬ f = "hearers") (h2 : ¬ f = "story") : (sFl a).lookup f = none := (lk_miss h1).trans (lk_miss h2)
theorem sFl_make (a : SA) : putF "story" (.ref a.st) (putF "hearers" (.ref a.hd) []) = sFl a := by
  show putF "story" (.ref a.st) [("hearers", .ref a.hd)] = _
  rw [pf_miss (by decide +kernel)]
  rfl
def SA.own (a : SA) : List Addr := [a.p, a.hd, a.st]
structure SAt (C CH : Addr) (H : Hp) (a : SA) (l : HL) (f : Str → HS) (story : List (Str × Msg)) : Prop where
  ob : ∃ dx, H a.p = some (.ins C dx (sFl a))
  hs : H a.hd = some (.dK (kvH l))
  sy : ∃ ys, H a.st = some (.lst ys) ∧ HasL H ys (story.map rwD)
  all : HsAt CH H l f
  dis : DisH l
  own : ∀ c ∈ fpH l, c ∉ a.own
def SA.fp (a : SA) (l : HL) : List Addr := a.own ++ fpH l
section
variable {C CH : Addr} {H H' : Hp} {a : SA} {l : HL} {f : Str → HS} {story : List (Str × Msg)}
theorem SAt.step {ps ps' : List Addr} (h : SAt C CH H a l f story) (st : Stp ps H ps' H') (hd : ∀ c ∈ a.fp l, c ∉ ps) : SAt C CH H' a l f story := by
  obtain ⟨⟨dx, h1⟩, h2, ⟨ys, h3, h4⟩, h5, h6, h7⟩ := h
  have ho : ∀ c ∈ a.own, c ∉ ps := fun c hc => hd c (List.mem_append_left _ hc)
  exact ⟨⟨dx, st.keep h1 (ho _ (by simp [SA.own]))⟩, st.keep h2 (ho _ (by simp [SA.own])), ⟨ys, st.keep h3 (ho _ (by simp [SA.own])), h4.tups st.tup (noLst_rw story)⟩, h5.step st fun c hc => hd c (List.mem_append_right _ hc), h6, h7⟩
theorem SAt.same (h : SAt C CH H a l f story) (e : Same H H') : SAt C CH H' a l f story := h.step (e.step []) fun _ _ => List.not_mem_nil
theorem SAt.live (h : SAt C CH H a l f story) : ∀ c ∈ a.fp l, ∃ o, H c = some o := fun c hc => by
  rcases List.mem_append.mp hc with z | z
  · simp only [SA.own, List.mem_cons, List.not_mem_nil, or_false] at z
    rcases z with rfl | rfl | rfl
    · obtain ⟨dx, e⟩ := h.ob; exact ⟨_, e⟩
    · exact ⟨_, h.hs⟩
    · obtain ⟨ys, e, _⟩ := h.sy; exact ⟨_, e⟩
  · exact h.all.live c z
theorem SAt.free (h : SAt C CH H a l f story) {c : Addr} (hc : H c = none) : c ∉ a.fp l := fun z => by
  obtain ⟨o, ho⟩ := h.live c z
  rw [ho] at hc; cases hc
theorem SAt.out {ps ps' : List Addr} (h : SAt C CH H a l f story) (st : Stp ps H ps' H') (hd : ∀ c ∈ a.fp l, c ∉ ps) : ∀ c ∈ a.fp l, c ∉ ps' := fun c hc => by
  obtain ⟨o, ho⟩ := h.live c hc
  exact st.out ho (hd c hc)
theorem SAt.ne (h : SAt C CH H a l f story) : a.p ≠ a.hd ∧ a.p ≠ a.st ∧ a.hd ≠ a.st := by
  obtain ⟨⟨dx, h1⟩, h2, ⟨ys, h3, h4⟩, _⟩ := h
  exact ⟨ne_of h1 h2 (by intro z; cases z), ne_of h1 h3 (by intro z; cases z), ne_of h2 h3 (by intro z; cases z)⟩
end
def markF (f : Str → HS) (l : HL) (n : Str) : Int := if n ∈ l.map (·.1) then (f n).next - 1 else 0
def mkD (l : HL) (f : Str → HS) : List (Key × V) := l.map fun x => (Sum.inr x.1, V.int ((f x.1).next - 1))
theorem ints_val {es : List (Str × Int)} (h : (es.map (·.1)).Nodup) {x : Str × Int} (hx : x ∈ es) : valV (List.map (fun (e : Str × Int) => ((Sum.inr e.1 : Key), V.int e.2)) es) (Sum.inr x.1) = some (V.int x.2) := by
  induction es with
  | nil => exact absurd hx List.not_mem_nil
  | cons y r ih =>
    rw [List.map_cons, List.nodup_cons] at h
    by_cases e : y.1 = x.1
    · rcases List.mem_cons.mp hx with rfl | z
      · exact valV_pos rfl
      · exact absurd (by rw [e]; exact List.mem_map_of_mem z) h.1
    · rcases List.mem_cons.mp hx with rfl | z
      · exact absurd rfl e
      · refine (valV_neg ?_).trans (ih h.2 z)
        intro w
        exact e (Sum.inr.inj w)
theorem mkD_none {l : HL} {f : Str → HS} {n : Str} (h : n ∉ l.map (·.1)) : valV (mkD l f) (Sum.inr n) = none := by
  induction l with
  | nil => rfl
  | cons y r ih =>
    rw [List.map_cons, List.mem_cons, not_or] at h
    refine (valV_neg ?_).trans (ih h.2)
    intro w
    exact h.1 (Sum.inr.inj w).symm
theorem mkD_some {l : HL} {f : Str → HS} {n : Str} (h : n ∈ l.map (·.1)) : valV (mkD l f) (Sum.inr n) = some (.int ((f n).next - 1)) := by
  induction l with
  | nil => exact absurd h List.not_mem_nil
  | cons y r ih =>
    by_cases e : y.1 = n
    · subst e
      exact valV_pos rfl
    · rw [List.map_cons, List.mem_cons] at h
      rcases h with z | z
      · exact absurd z.symm e
      · refine (valV_neg ?_).trans (ih z)
        intro w
        exact e (Sum.inr.inj w)
theorem mkD_val (l : HL) (f : Str → HS) (n : Str) : (valV (mkD l f) (Sum.inr n)).getD (.int 0) = .int (markF f l n) := by
  unfold markF
  by_cases h : n ∈ l.map (·.1)
  · rw [mkD_some h, if_pos h]; rfl
  · rw [mkD_none h, if_neg h]; rfl
theorem mkD_snoc {l : HL} (d : DisH l) {f : Str → HS} {i : Nat} (hi : i < l.length) : some (HO.dK (putK (mkD (l.take i) f) (Sum.inr l[i].1) (V.int ((f l[i].1).next - 1)))) = some (HO.dK (mkD (l.take (i + 1)) f)) := by
  have hn : l[i].1 ∉ (l.take i).map (·.1) := fun z => by
    obtain ⟨y, hy, e⟩ := List.mem_map.mp z
    obtain ⟨j, hj, rfl⟩ := List.getElem_of_mem hy
    rw [List.length_take] at hj
    rw [List.getElem_take] at e
    exact List.pairwise_iff_getElem.mp (List.pairwise_map.mp d.nd) j i (by omega) hi (by omega) e
  rw [putK_new _ (mkD_none hn), List.take_add_one, List.getElem?_eq_getElem hi]
  unfold mkD
  rw [List.map_append]; rfl
section
variable (C CH : Addr)
def spSInit : Sp := fun vs H Q _ => ∃ (p dx : Addr), vs = [.ref p] ∧ H p = some (.ins C dx []) ∧ ∀ a H', SA.p a = p → (∀ f, SAt C CH H' a [] f []) → Stp [p] H a.own H' → Q .non H'
def spSHeard : Sp := fun vs H Q _ => ∃ a l f story, vs = [.ref (SA.p a)] ∧ SAt C CH H a l f story ∧ ∀ q ys, H q = none → HasL (upd H q (.lst ys)) ys (story.map rwD) → Q (.ref q) (upd H q (.lst ys))
def spSMarks : Sp := fun vs H Q _ => ∃ a l f story, vs = [.ref (SA.p a)] ∧ SAt C CH H a l f story ∧ l.length < 100 ∧ ∀ q H', Same H H' → H q = none → H' q = some (.dK (mkD l f)) → Q (.ref q) H'
end
end L2

namespace L2
open PySem PySem.Spec PyProof.Rows PySem.W
/-! ### a name and a message -/
abbrev NM := Str × Msg
def byN (n : Str) (es : List NM) : List Msg := (es.filter fun e => decide (e.1 = n)).map (·.2)
theorem byN_nil (n : Str) : byN n [] = [] := rfl
theorem byN_app (n : Str) (a b : List NM) : byN n (a ++ b) = byN n a ++ byN n b := by unfold byN; rw [List.filter_append, List.map_append]
theorem byN_one (n k : Str) (m : Msg) : byN n [(k, m)] = if k = n then [m] else [] := by
  unfold byN
  rw [List.filter_cons]
  by_cases h : k = n
  · rw [if_pos (decide_eq_true h), if_pos h]; rfl
  · rw [if_neg (by rw [decide_eq_false h]; decide), if_neg h]; rfl
theorem byN_map (n k : Str) (ms : List Msg) : byN n (ms.map fun m => (k, m)) = if k = n then ms else [] := by
  induction ms with
  | nil => rw [List.map_nil, byN_nil]; split <;> rfl
  | cons m r ih =>
    rw [List.map_cons, ← List.singleton_append, byN_app, byN_one, ih]
    split <;> rfl
theorem mem_byN {n : Str} {es : List NM} {m : Msg} : m ∈ byN n es ↔ (n, m) ∈ es := by
  unfold byN
  rw [List.mem_map]
  constructor
  · rintro ⟨e, he, rfl⟩
    rw [List.mem_filter] at he
    obtain ⟨h1, h2⟩ := he
    rw [← of_decide_eq_true h2]; exact h1
  · intro h
    exact ⟨(n, m), List.mem_filter.mpr ⟨h, decide_eq_true rfl⟩, rfl⟩
theorem byN_le (n : Str) (es : List NM) : (byN n es).length ≤ es.length := by unfold byN; rw [List.length_map]; exact List.length_filter_le _ _
theorem byN_len3 {a b c : Str} (hab : a ≠ b) (hac : a ≠ c) (hbc : b ≠ c) : ∀ {es : List NM}, (∀ e ∈ es, e.1 = a ∨ e.1 = b ∨ e.1 = c) → es.length = (byN a es).length + (byN b es).length + (byN c es).length
  | [], _ => rfl
  | e :: r, h => by
    have ih := byN_len3 hab hac hbc (es := r) fun x hx => h x (List.mem_cons_of_mem _ hx)
    obtain ⟨n, m⟩ := e
    rw [← List.singleton_append, byN_app, byN_app, byN_app, byN_one, byN_one, byN_one]
    simp only [List.length_append, List.length_singleton, List.length_cons]
    rcases h (n, m) List.mem_cons_self with z | z | z
    · simp only at z; subst z
      rw [if_pos rfl, if_neg hab, if_neg hac]; simp only [List.length_nil, List.length_singleton]; omega
    · simp only at z; subst z
      rw [if_pos rfl, if_neg hab.symm, if_neg hbc]; simp only [List.length_nil, List.length_singleton]; omega
    · simp only at z; subst z
      rw [if_pos rfl, if_neg hac.symm, if_neg hbc.symm]; simp only [List.length_nil, List.length_singleton]; omega
/-! ### such pairs in the heap -/
def pD (e : NM) : PyData := .tuple [.str e.1, mD e.2]
theorem noLst_pD : ∀ es : List NM, noLstA (es.map pD) = true
  | [] => rfl
  | e :: r => by simp [noLstA, noLst, pD, mD, noLst_pD r]
theorem hasL_un {H : Hp} {x : V} {xs : List V} {d : PyData} {ds : List PyData} (h : HasL H (x :: xs) (d :: ds)) : Has H x d ∧ HasL H xs ds := by
  unfold HasL at h
  obtain ⟨x', r', e, h1, h2⟩ := h
  cases e
  exact ⟨h1, h2⟩
theorem HasL.takeN {H : Hp} : ∀ {xs : List V} {ds : List PyData} (n : Nat), HasL H xs ds → HasL H (xs.take n) (ds.take n)
  | [], [], n, h => by simpa using hasL_nil
  | [], m :: r, n, h => by have := HasL.length h; simp at this
  | x :: xs, [], n, h => by have := HasL.length h; simp at this
  | x :: xs, m :: r, 0, h => by simpa using hasL_nil
  | x :: xs, m :: r, n + 1, h => hasL_cons (hasL_un h).1 (HasL.takeN n (hasL_un h).2)
theorem HasL.eraseN {H : Hp} : ∀ {xs : List V} {ds : List PyData}, HasL H xs ds → ∀ i : Nat, HasL H (xs.eraseIdx i) (ds.eraseIdx i)
  | [], [], _, i => by rw [List.eraseIdx_nil, List.eraseIdx_nil]; exact hasL_nil
  | [], m :: r, h, _ => by have := HasL.length h; simp at this
  | x :: xs, [], h, _ => by have := HasL.length h; simp at this
  | x :: xs, m :: r, h, 0 => (hasL_un h).2
  | x :: xs, m :: r, h, i + 1 => hasL_cons (hasL_un h).1 (HasL.eraseN (hasL_un h).2 i)
def Es (H : Hp) (xs : List V) (es : List NM) : Prop := HasL H xs (es.map pD)
section
variable {H H' : Hp} {xs ys : List V} {es fs : List NM}
theorem Es.same (h : Es H xs es) (e : Same H H') : Es H' xs es := HasL.same e h
theorem Es.tups (h : Es H xs es) (e : Tups H H') : Es H' xs es := HasL.tups e (noLst_pD es) h
theorem Es.step {ps ps' : List Addr} (h : Es H xs es) (s : Stp ps H ps' H') : Es H' xs es := h.tups s.tup
theorem Es.len (h : Es H xs es) : xs.length = es.length := by have := HasL.length h; rwa [List.length_map] at this
theorem Es.append (h : Es H xs es) (h' : Es H ys fs) : Es H (xs ++ ys) (es ++ fs) := by unfold Es; rw [List.map_append]; exact HasL.append h h'
theorem Es.take (h : Es H xs es) (n : Nat) : Es H (xs.take n) (es.take n) := by unfold Es; rw [List.map_take]; exact HasL.takeN n h
theorem Es.erase (h : Es H xs es) (i : Nat) : Es H (xs.eraseIdx i) (es.eraseIdx i) := by
  have e : (es.eraseIdx i).map pD = (es.map pD).eraseIdx i := by
    rw [List.eraseIdx_eq_take_drop_succ, List.eraseIdx_eq_take_drop_succ, List.map_append, List.map_take, List.map_drop]
  unfold Es; rw [e]; exact HasL.eraseN h i
theorem Es.one {r c : Addr} {n : Str} {m : Msg} (h : H r = some (.tup [.str n, .ref c])) (hc : H c = some (mT m)) : Es H [.ref r] [(n, m)] := hasL_cons (has_tup h (hasL_cons (has_str _) (hasL_cons (msg_has hc) hasL_nil))) hasL_nil
theorem Es.get (h : Es H xs es) {i : Nat} (hi : i < es.length) : ∃ r c, xs[i]? = some (.ref r) ∧ H r = some (.tup [.str es[i].1, .ref c]) ∧ H c = some (mT es[i].2) := by
  obtain ⟨x, e, hx⟩ := HasL.get (i := i) (d := pD es[i]) h (by rw [List.getElem?_map, List.getElem?_eq_getElem hi]; rfl)
  unfold pD Has at hx
  obtain ⟨a, zs, rfl, h1, h2⟩ := hx
  unfold HasL at h2
  obtain ⟨x1, r1, rfl, e1, h2⟩ := h2
  unfold HasL at h2
  obtain ⟨x2, r2, rfl, e2, h2⟩ := h2
  unfold HasL at h2
  subst h2
  unfold Has at e1
  subst e1
  obtain ⟨c, rfl, hc⟩ := has_msg e2
  exact ⟨a, c, e, h1, hc⟩
end
/-! ### rows of a story -/
/-! ### messages of three sources -/
def n3 (n : Str) : Prop := n = "s" ∨ n = "t" ∨ n = "uu"
theorem n3_ne : ("s" : Str) ≠ "t" ∧ ("s" : Str) ≠ "uu" ∧ ("t" : Str) ≠ "uu" := by decide +kernel
structure Ev (es : List NM) : Prop where
  rows : ∀ n, Rows (byN n es)
  ok : ∀ e ∈ es, mOk e.2
  nm : ∀ e ∈ es, n3 e.1
  ne : ∀ n, n3 n → byN n es ≠ []
  len : es.length ≤ 15
structure Tr (es left tk : List NM) (f : Str → HS) (story : List NM) (l : HL) : Prop where
  tks : ∀ n, Tk (byN n es) (f n) fun x => (n, x) ∈ tk
  cov : ∀ e ∈ es, e ∈ tk ∨ e ∈ left
  sub : ∀ e ∈ left, e ∈ es
  st : ∀ n, byN n story = (f n).heard
  sn : ∀ e ∈ story, n3 e.1
  new : ∀ n, n ∉ l.map (·.1) → f n = hs0
  nm : ∀ x ∈ l, n3 x.1
theorem Tr.start {es left : List NM} (h : ∀ e ∈ es, e ∈ left) (h2 : ∀ e ∈ left, e ∈ es) : Tr es left [] (fun _ => hs0) [] [] where
  tks n := (Tk.start (R := byN n es)).congr fun m => ⟨fun z => z.elim, fun z => absurd z List.not_mem_nil⟩
  cov e he := .inr (h e he)
  sub := h2
  st n := rfl
  sn e he := absurd he List.not_mem_nil
  new n _ := rfl
  nm x hx := absurd hx List.not_mem_nil
theorem Tr.take {es left tk : List NM} {f : Str → HS} {story : List NM} {l l' : HL} (hE : Ev es) (h : Tr es left tk f story l) {i : Nat} (hi : i < left.length) {found : List Msg}
    (he : (takeS (f left[i].1) [left[i].2]).heard = (f left[i].1).heard ++ found) (hc : (left[i].1 ∈ l.map (·.1) ∧ l' = l) ∨ (left[i].1 ∉ l.map (·.1) ∧ ∃ b, l' = l ++ [(left[i].1, b)])) :
    Tr es (left.eraseIdx i) (left[i] :: tk) (updS f left[i].1 (takeS (f left[i].1) [left[i].2])) (story ++ found.map fun m => (left[i].1, m)) l' := by
  have hm := h.sub _ (List.getElem_mem hi)
  have hmem : ∀ e ∈ left, e = left[i] ∨ e ∈ left.eraseIdx i := fun e he => by
    have := (erase_perm hi).mem_iff.mpr he
    exact List.mem_cons.mp this
  generalize hk : left[i] = k at *
  obtain ⟨n, m⟩ := k
  simp only at *
  have hl' : n ∈ l'.map (·.1) ∧ (∀ x ∈ l.map (·.1), x ∈ l'.map (·.1)) ∧ ∀ x ∈ l', n3 x.1 := by
    rcases hc with ⟨h1, rfl⟩ | ⟨h1, b, rfl⟩
    · exact ⟨h1, fun x hx => hx, h.nm⟩
    · refine ⟨by simp, fun x hx => by rw [List.map_append]; exact List.mem_append_left _ hx, fun x hx => ?_⟩
      rcases List.mem_append.mp hx with z | z
      · exact h.nm x z
      · rw [List.mem_singleton] at z; rw [z]; exact hE.nm _ hm
  refine ⟨fun k => ?_, fun e he => ?_, fun e he => h.sub e (List.mem_of_mem_eraseIdx he), fun k => ?_, fun e he => ?_, fun k hk => ?_, hl'.2.2⟩
  · by_cases e : k = n
    · subst e
      rw [updS_same]
      refine ((h.tks k).take (hE.rows k) (ms := [m]) fun x hx => by rw [List.mem_singleton] at hx; rw [hx]; exact mem_byN.mpr hm).congr fun x => ?_
      rw [List.mem_singleton, List.mem_cons]
      constructor
      · rintro (z | rfl)
        · exact .inr z
        · exact .inl rfl
      · rintro (z | z)
        · exact .inr (congrArg Prod.snd z)
        · exact .inl z
    · rw [updS_ne e]
      refine (h.tks k).congr fun x => ?_
      rw [List.mem_cons]
      constructor
      · exact .inr
      · rintro (z | z)
        · exact absurd (congrArg Prod.fst z) e
        · exact z
  · rcases h.cov e he with z | z
    · exact .inl (List.mem_cons_of_mem _ z)
    · rcases hmem e z with rfl | y
      · exact .inl List.mem_cons_self
      · exact .inr y
  · rw [byN_app, byN_map, h.st k]
    by_cases e : n = k
    · subst e; rw [if_pos rfl, updS_same, he]
    · rw [if_neg e, List.append_nil, updS_ne (Ne.symm e)]
  · rcases List.mem_append.mp he with z | z
    · exact h.sn e z
    · obtain ⟨x, _, rfl⟩ := List.mem_map.mp z
      have hn : n3 n := hE.nm (n, m) hm
      exact hn
  · have e : k ≠ n := fun z => hk (by rw [z]; exact hl'.1)
    rw [updS_ne e]
    exact h.new k fun z => hk (hl'.2.1 k z)
section
variable {es left tk : List NM} {f : Str → HS} {story : List NM} {l : HL}
theorem Tr.sizes (hE : Ev es) (h : Tr es left tk f story l) (d : DisH l) : story.length ≤ 45 ∧ l.length ≤ 3 := by
  have hl := hE.len
  constructor
  · rw [byN_len3 n3_ne.1 n3_ne.2.1 n3_ne.2.2 h.sn, h.st, h.st, h.st]
    have a := (h.tks "s").toTk0.le
    have b := (h.tks "t").toTk0.le
    have c := (h.tks "uu").toTk0.le
    have a' := byN_le "s" es
    have b' := byN_le "t" es
    have c' := byN_le "uu" es
    omega
  · have := List.Nodup.length_le_of_subset (l₁ := l.map (·.1)) (l₂ := (["s", "t", "uu"] : List Str)) d.nd (fun x hx => by
      obtain ⟨y, hy, rfl⟩ := List.mem_map.mp hx
      rcases h.nm y hy with z | z | z <;> rw [z] <;> simp)
    rw [List.length_map] at this
    exact this
theorem Tr.done (hE : Ev es) (h : Tr es [] tk f story l) (n : Str) : (f n).heard = byN n es ∧ (f n).next = ((byN n es).length : Int) + 1 ∧ (n3 n → n ∈ l.map (·.1)) := by
  have hall := (h.tks n).all (hE.rows n) (fun m hm => by
    rcases h.cov _ (mem_byN.mp hm) with z | z
    · exact z
    · exact absurd z List.not_mem_nil)
  refine ⟨hall.1, ?_, fun hn => ?_⟩
  · rw [(h.tks n).toTk0.next, hall.1]
  · by_cases z : n ∈ l.map (·.1)
    · exact z
    · have e := h.new n z
      have := hall.1
      rw [e] at this
      exact absurd this.symm (hE.ne n hn)
end
/-! ### one that gathers and hearers alone -/
structure Tu (G H : Hp) (C CH : Addr) (S : SA) (l al : HL) (ad ll : Addr) (xl : List V) (left : List NM) (f g : Str → HS) (story : List NM) : Prop where
  sa : SAt C CH H S l f story
  ha : HsAt CH H al g
  da : DisH al
  hd : H ad = some (.dK (kvH al))
  el : H ll = some (.lst xl)
  ml : Es H xl left
  w : Stp [] G (ll :: ad :: (S.fp l ++ fpH al)) H
  ap : ∀ c ∈ fpH al, c ∉ S.fp l
  ls : ll ∉ S.fp l
  as : ad ∉ S.fp l
  lh : ll ∉ fpH al
  ah : ad ∉ fpH al
section
variable {G H H' : Hp} {C CH : Addr} {S : SA} {l l' al : HL} {ad ll : Addr} {xl : List V} {left : List NM} {f f' g g' : Str → HS} {story story' : List NM}
theorem Tu.same (h : Tu G H C CH S l al ad ll xl left f g story) (e : Same H H') : Tu G H' C CH S l al ad ll xl left f g story :=
  ⟨h.sa.same e, h.ha.same e, h.da, e _ _ h.hd, e _ _ h.el, h.ml.same e, h.w.trans (e.step _), h.ap, h.ls, h.as, h.lh, h.ah⟩
theorem Tu.takeS (h : Tu G H C CH S l al ad ll xl left f g story) (hs : SAt C CH H' S l' f' story') (st : Stp (S.fp l) H (S.fp l') H') : Tu G H' C CH S l' al ad ll xl left f' g story' := by
  refine ⟨hs, h.ha.step st h.ap, h.da, st.keep h.hd h.as, st.keep h.el h.ls, h.ml.step st, h.w.trans (st.weak (fun c hc => ?_) fun c hc => ?_), h.ha.out st h.ap, st.out h.el h.ls, st.out h.hd h.as, h.lh, h.ah⟩
  · exact List.mem_cons_of_mem _ (List.mem_cons_of_mem _ (List.mem_append_left _ hc))
  · rcases List.mem_cons.mp hc with rfl | z
    · exact .inr List.mem_cons_self
    rcases List.mem_cons.mp z with rfl | z
    · exact .inr (List.mem_cons_of_mem _ List.mem_cons_self)
    rcases List.mem_append.mp z with z | z
    · exact .inl z
    · exact .inr (List.mem_cons_of_mem _ (List.mem_cons_of_mem _ (List.mem_append_right _ z)))
theorem Tu.pop (h : Tu G H C CH S l al ad ll xl left f g story) (i : Nat) : Tu G (upd H ll (.lst (xl.eraseIdx i))) C CH S l al ad ll (xl.eraseIdx i) (left.eraseIdx i) f g story ∧ Stp [ll] H [ll] (upd H ll (.lst (xl.eraseIdx i))) := by
  have sa := Stp.put (ps := [ll]) (o := .lst (xl.eraseIdx i)) h.el (fun _ z => by cases z) (by simp)
  have ne : ad ≠ ll := ne_of h.hd h.el (by intro z; cases z)
  refine ⟨⟨h.sa.step sa (fun c hc z => h.ls (by rw [List.mem_singleton] at z; rw [← z]; exact hc)), h.ha.step sa (fun c hc z => h.lh (by rw [List.mem_singleton] at z; rw [← z]; exact hc)), h.da, sa.keep h.hd (by simp [ne]), upd_same, (h.ml.erase i).step sa, h.w.trans (sa.up fun c hc => ?_), h.ap, h.ls, h.as, h.lh, h.ah⟩, sa⟩
  rw [List.mem_singleton] at hc; rw [hc]; exact List.mem_cons_self
end
theorem PairsAt.same {H H' : Hp} {cs : List Addr} {ps : List (Key × V)} (h : PairsAt H cs ps) (e : Same H H') : PairsAt H' cs ps := ⟨h.1, fun i c p h1 h2 => e _ _ (h.2 i c p h1 h2)⟩
theorem PairsAt.more {H : Hp} {cs : List Addr} {ps : List (Key × V)} {c : Addr} {p : Key × V} (h : PairsAt H cs ps) (hc : H c = some (.tup [kV p.1, p.2])) : PairsAt H (cs ++ [c]) (ps ++ [p]) := by
  refine ⟨by rw [List.length_append, List.length_append, h.1]; rfl, fun i c' p' h1 h2 => ?_⟩
  by_cases z : i < cs.length
  · rw [List.getElem?_append_left z] at h1
    rw [List.getElem?_append_left (by rw [← h.1]; exact z)] at h2
    exact h.2 i c' p' h1 h2
  · have hi : i < (cs ++ [c]).length := (List.getElem?_eq_some_iff.mp h1).1
    rw [List.length_append] at hi
    have e : i = cs.length := by simp at hi; omega
    subst e
    rw [List.getElem?_append_right (Nat.le_refl _), Nat.sub_self] at h1
    rw [h.1, List.getElem?_append_right (Nat.le_refl _), Nat.sub_self] at h2
    cases h1; cases h2
    exact hc
theorem putsP_new : ∀ (ps d : List (Key × V)), (ps.map (·.1)).Nodup → (∀ k ∈ ps.map (·.1), valV d k = none) → ps.foldl (fun d p => putK d p.1 p.2) d = d ++ ps
  | [], d, _, _ => by simp
  | p :: r, d, nd, h => by
    rw [List.map_cons, List.nodup_cons] at nd
    rw [List.foldl_cons, putK_new _ (h p.1 (by simp)), putsP_new r _ nd.2, List.append_assoc]; · rfl
    intro k hk
    have h1 := h k (by rw [List.map_cons]; exact List.mem_cons_of_mem _ hk)
    have hne : k ≠ p.1 := fun z => nd.1 (z ▸ hk)
    clear h
    induction d with
    | nil => exact (valV_neg (fun z => hne z.symm)).trans rfl
    | cons y t ih =>
      by_cases e : y.1 = k
      · rw [valV_pos e] at h1; cases h1
      · exact (valV_neg e).trans (ih ((valV_neg e).symm.trans h1))
end L2

namespace L2
open PySem PySem.Spec PyProof.Rows PySem.W
/-! ### sorted(x) of texts -/
theorem strs_are : ∀ {ss : List Str} {us : List Value}, Vals (ss.map V.str) us → StrsAre us ss
  | [], _, .nil => .nil
  | _ :: _, _, .cons ⟨t, e⟩ r => by subst e; exact .cons _ t (strs_are r)
theorem are_strs : ∀ {us : List Value} {ss : List Str}, StrsAre us ss → Vals (ss.map V.str) us
  | _, _, .nil => .nil
  | _, _, .cons n t r => .cons ⟨t, rfl⟩ (are_strs r)
/-- by signs -/
def leT (a b : Str) : Prop := ltCps b.cps.toList a.cps.toList = false
theorem leT_lt {a b : Str} : leT a b ↔ ¬ (b.cps.toList < a.cps.toList) := by
  unfold leT; rw [ltCps_eq]; exact decide_eq_false_iff_not
theorem leT_anti {a b : Str} (h : leT a b) (h' : leT b a) : a = b := by
  rw [leT_lt] at h h'
  have e : a.cps.toList = b.cps.toList := List.le_antisymm (List.not_lt.mp h) (List.not_lt.mp h')
  have e2 : a.cps = b.cps := Array.toList_inj.mp e
  cases a; cases b; simp only at e2; subst e2; rfl
theorem leT_trans {a b c : Str} (h : leT a b) (h' : leT b c) : leT a c := by
  rw [leT_lt] at h h' ⊢
  exact List.not_lt.mpr (List.le_trans (List.not_lt.mp h) (List.not_lt.mp h'))
theorem risingS_pw : ∀ (l : List Str) (p : Str), risingS p l = true → (p :: l).Pairwise leT
  | [], p, _ => List.pairwise_singleton _ _
  | x :: r, p, h => by
    unfold risingS at h
    simp only [Bool.and_eq_true, Bool.not_eq_true'] at h
    have ih := risingS_pw r x h.2
    refine List.pairwise_cons.mpr ⟨fun y hy => ?_, ih⟩
    rcases List.mem_cons.mp hy with rfl | z
    · exact h.1
    · exact leT_trans h.1 ((List.pairwise_cons.mp ih).1 y z)
theorem sortedS_pw : ∀ {l : List Str}, sortedS l = true → l.Pairwise leT
  | [], _ => .nil
  | x :: r, h => risingS_pw r x h
theorem txt_uniq : ∀ {a b : List Str}, a.Perm b → a.Pairwise leT → b.Pairwise leT → a = b
  | [], b, h, _, _ => (List.nil_perm.mp h).symm ▸ rfl
  | x :: r, [], h, _, _ => by have := h.length_eq; simp at this
  | x :: r, y :: t, h, ha, hb => by
    have hx : x ∈ y :: t := h.mem_iff.mp List.mem_cons_self
    have hy : y ∈ x :: r := h.mem_iff.mpr List.mem_cons_self
    have e : x = y := by
      rcases List.mem_cons.mp hx with z | z
      · exact z
      rcases List.mem_cons.mp hy with w | w
      · exact w.symm
      exact leT_anti ((List.pairwise_cons.mp ha).1 y w) ((List.pairwise_cons.mp hb).1 x z)
    subst e
    rw [txt_uniq (List.Perm.cons_inv h) (List.pairwise_cons.mp ha).2 (List.pairwise_cons.mp hb).2]
/-- what is walked for sorted(x): a list, or a dict's keys -/
def TxtSrc (K : PySem.W.Frag) (x : V) (H : Hp) (ss : List Str) : Prop := (∃ a, x = .ref a ∧ SqL K H a (ss.map V.str)) ∨ ∃ d kvs, x = .ref d ∧ H d = some (.dK kvs) ∧ kvs.map (·.1) = ss.map Sum.inr
section
variable {X : Cx}
theorem TxtSrc.coll {x : V} {H : Hp} {ss : List Str} (h : TxtSrc X.K x H ss) : Coll X x H (ss.map V.str) := by
  rcases h with ⟨a, rfl, h⟩ | ⟨d, kvs, rfl, h, e⟩
  · exact coll_list h
  · have z := coll_keys (X := X) h
    have e2 : kvs.map (fun kv => kV kv.1) = ss.map V.str := by
      have : kvs.map (fun kv => kV kv.1) = (kvs.map (·.1)).map kV := by rw [List.map_map]; rfl
      rw [this, e, List.map_map]; rfl
    rw [e2] at z
    exact z
/-- ts: the texts, by rising -/
structure SortT (ss ts : List Str) : Prop where
  perm : ts.Perm ss
  rise : ts.Pairwise leT
theorem SortT.eq {ss ts : List Str} (h : SortT ss ts) {us : List Str} (hp : us.Perm ss) (hu : us.Pairwise leT) : ts = us := txt_uniq (h.perm.trans hp.symm) h.rise hu
theorem sort_body {pins : List (Addr × Obj)} {σ : St} {H : Hp} {s1 : Shared} {ss : List Str} {vs : List Value} {A : Around} {E : Value → Shared → Prop} {Q : VK} {R : PySem.Fin → Shared → Prop} (I1 : Inv X pins σ H s1) (rv : Vals (ss.map V.str) vs) (h64 : ss.length < 64)
    (q : ∀ p ts s', SortT ss ts → p = s1.heap.objs.size → H p = none → Inv X pins σ (upd H p (.lst (ts.map V.str))) s' → R (.done (.ret .none)) s') :
    wpAny (model X.prog X.w) A (Builtin.«list.sort» ⟨[.ref s1.heap.objs.size], []⟩) R E { s1 with heap := s1.heap.push (seqObj "list" vs.toArray 0) } := by
  have hl := rv.length
  rw [List.length_map] at hl
  have fD : FpOk X pins H s1.heap.objs.size := I1.fpOk (Nat.le_refl _) (I1.hok.fresh (Nat.le_refl _))
  have hoL : (s1.heap.push (seqObj "list" vs.toArray 0)).get? s1.heap.objs.size = some (seqObj "list" vs.toArray 0) := Heap.get?_push_size _ rfl
  have hS := strs_are rv
  refine list_sort_treeK strKind_oneLt (s := { s1 with heap := s1.heap.push (seqObj "list" vs.toArray 0) }) hoL hS.keysOf (fun v₁ v₂ rest e => keyKind_strs (by rw [← e]; exact hS)) (by omega) fun st' hp hs => ?_
  obtain ⟨ts, h1, h2, h3⟩ := sorted_out_str hS hp hs
  generalize (arrOf st').map (·.2) = out at h1
  obtain ⟨c, hat⟩ := sortedHeap_at (out := out) hoL
  refine q s1.heap.objs.size ts _ ⟨h2, sortedS_pw h3⟩ rfl fD.1 ?_
  have I3 : Inv X pins σ H { s1 with heap := sortedHeap (s1.heap.push (seqObj "list" vs.toArray 0)) s1.heap.objs.size vs out } := I1.kept (t' := s1.toks) fun b o e => by
    have hb : b ≠ s1.heap.objs.size := Nat.ne_of_lt (Heap.lt_size e)
    rw [sortedHeap_old hb (by rw [Heap.size_push]; exact Nat.lt_succ_of_lt (Heap.lt_size e))]
    exact Heap.get?_push_of_some _ e
  refine I3.track fD ⟨?_, out.toList, c, are_strs h1, ?_⟩
  · rw [List.length_map, h2.length_eq, sizeLine_eq]; omega
  · simpa [seqObj] using hat
def rSortT (K : PySem.W.Frag) : List V → Hp → VK → Prop := fun xs H Q => ∃ x ss, xs = [x] ∧ TxtSrc K x H ss ∧ ss.length < 64 ∧ ∀ p ts, H p = none → SortT ss ts → Q (.ref p) (upd H p (.lst (ts.map V.str)))
theorem call_sortT (hc : X.calm = true) : CallR X (.builtin "sorted") (rSortT X.K) := by
  intro pins s σ H xs us Q I r h
  obtain ⟨x, ss, rfl, hx, h64, q⟩ := h
  obtain ⟨u, rfl, ru⟩ := vals1 r
  refine Calls.call_function_entry kind_sorted plain_sorted entry_sorted (args_sorted1 _) ?_
  unfold Builtin.«sorted»
  refine wpAny_bind (m := checkCount "sorted" 1 1 _) (wpAny_pure ?_)
  refine wpAny_bind (hx.coll pins s σ u _ _ _ I ru (I.ok.hd hc) fun vs s1 rv I1 => ?_)
  have hl := rv.length
  rw [List.length_map] at hl
  refine wpAny_bind (wpAny_newList ?_ (by rw [sizeLine_eq]; omega))
  have hoL : (s1.heap.push (seqObj "list" vs.toArray 0)).get? s1.heap.objs.size = some (seqObj "list" vs.toArray 0) := Heap.get?_push_size _ rfl
  refine wpAny_bind (wpAny_holding (wpAny_call_entry slot_list_sort ⟨_, hoL, rfl⟩ entry_list_sort ?body (args_list_sort _)))
  case body => exact sort_body (Q := Q) I1 rv h64 fun p ts s' hs e hn I' => ⟨_, rfl, by subst e; exact wpAny_pure ⟨_, rfl, .ref _, _, I', rfl, q _ ts hn hs⟩⟩
theorem k_sortT (K : PySem.W.Frag) (hc : X.calm = true) (h : X.K = K := by rfl) : CallR X (.builtin "sorted") (rSortT K) := h ▸ call_sortT hc
/-! a set of texts -/
end
end L2

namespace L2
open PySem PySem.Spec PyProof.Rows PySem.W
/-! ### the sort's questions, answered by a strict order of n different things -/
structure SOrd (n : Nat) (lt : Nat → Nat → Bool) : Prop where
  tri : ∀ i j, i < n → j < n → i ≠ j → lt i j = !lt j i
  tr : ∀ i j k, i < n → j < n → k < n → lt i j = true → lt j k = true → lt i k = true
def Pm (n : Nat) (p : Array Nat) : Prop := p.toList.Perm (List.range n)
theorem Pm.size {n : Nat} {p : Array Nat} (h : Pm n p) : p.size = n := by
  have := List.Perm.length_eq h
  rwa [Array.length_toList, List.length_range] at this
theorem Pm.get {n : Nat} {p : Array Nat} (h : Pm n p) {i : Nat} (hi : i < n) : p[i]? = some (p.getD i 0) := by
  have hs := h.size
  rw [Array.getD_eq_getD_getElem?, Array.getElem?_eq_getElem (by omega)]; rfl
theorem Pm.lt {n : Nat} {p : Array Nat} (h : Pm n p) {i : Nat} (hi : i < n) : p.getD i 0 < n := by
  have e := h.get hi
  have : p.getD i 0 ∈ p.toList := by
    rw [← Array.getElem?_toList] at e
    exact List.mem_of_getElem? e
  exact List.mem_range.mp ((List.Perm.mem_iff h).mp this)
theorem Pm.ne {n : Nat} {p : Array Nat} (h : Pm n p) {i j : Nat} (hi : i < n) (hj : j < n) (hij : i ≠ j) : p.getD i 0 ≠ p.getD j 0 := by
  have hs := h.size
  have hn : p.toList.Nodup := (List.Perm.nodup_iff h).mpr List.nodup_range
  intro e
  have e1 := h.get hi
  have e2 := h.get hj
  rw [← Array.getElem?_toList] at e1 e2
  rw [← e] at e2
  exact hij ((List.getElem?_inj (by rw [Array.length_toList]; omega) hn).mp (e1.trans e2.symm))
def AscT (lt : Nat → Nat → Bool) (p : Array Nat) (b : Nat) : Prop := ∀ i j, i < j → j < b → lt (p.getD i 0) (p.getD j 0) = true
def DescT (lt : Nat → Nat → Bool) (p : Array Nat) (b : Nat) : Prop := ∀ i j, i < j → j < b → lt (p.getD j 0) (p.getD i 0) = true
section
variable {cmp : Nat → Nat → (Bool → Shared → Prop) → Shared → Prop} {lt : Nat → Nat → Bool} {n : Nat} {s : Shared}
theorem AscT.more {p : Array Nat} (S : SOrd n lt) (hp : Pm n p) {k : Nat} (h : AscT lt p k) (hk : 1 ≤ k) (hn : k < n) (hl : lt (p.getD (k - 1) 0) (p.getD k 0) = true) : AscT lt p (k + 1) := by
  intro i j hij hj
  by_cases e : j = k
  · subst e
    by_cases e2 : i = j - 1
    · subst e2; exact hl
    · exact S.tr _ _ _ (hp.lt (by omega)) (hp.lt (by omega)) (hp.lt hn) (h i (j - 1) (by omega) (by omega)) hl
  · exact h i j hij (by omega)
theorem asc_wp2 {p : Array Nat} {G : Nat → Shared → Prop} (S : SOrd n lt) (hp : Pm n p) (hc : ∀ i j, i < n → j < n → i ≠ j → ∀ C, C (lt i j) s → cmp i j C s) : ∀ (f k : Nat), 1 ≤ k → k + f = n → AscT lt p k →
    (∀ r, k ≤ r → r ≤ n → AscT lt p r → (r < n → lt (p.getD r 0) (p.getD (r - 1) 0) = true) → G r s) → (kas_asc p f k).kasWp cmp G s
  | 0, k, hk, e, ha, h => h k (Nat.le_refl _) (by omega) ha fun z => by omega
  | f + 1, k, hk, e, ha, h => by
    show cmp (p.getD k 0) (p.getD (k - 1) 0) (fun c s' => (if c = true then KasT.ret k else kas_asc p f (k + 1)).kasWp cmp G s') s
    refine hc _ _ (hp.lt (by omega)) (hp.lt (by omega)) (hp.ne (by omega) (by omega) (by omega)) _ ?_
    cases hl : lt (p.getD k 0) (p.getD (k - 1) 0) with
    | true =>
      rw [if_pos rfl]
      exact h k (Nat.le_refl _) (by omega) ha fun _ => hl
    | false =>
      rw [if_neg Bool.false_ne_true]
      have hl2 : lt (p.getD (k - 1) 0) (p.getD k 0) = true := by rw [S.tri _ _ (hp.lt (by omega)) (hp.lt (by omega)) (hp.ne (by omega) (by omega) (by omega)), hl]; rfl
      exact asc_wp2 S hp hc f (k + 1) (by omega) (by omega) (ha.more S hp hk (by omega) hl2) fun r h1 h2 => h r (by omega) h2
theorem desc_wp2 {p : Array Nat} {G : Array Nat × Nat × Nat → Shared → Prop} (S : SOrd n lt) (hp : Pm n p) (hc : ∀ i j, i < n → j < n → i ≠ j → ∀ C, C (lt i j) s → cmp i j C s) : ∀ (f k : Nat), 2 ≤ k → k + f = n → DescT lt p k →
    (∀ r, k ≤ r → r ≤ n → DescT lt p r → G (p, r, 0) s) → (kas_desc f p k 0).kasWp cmp G s
  | 0, k, hk, e, ha, h => h k (Nat.le_refl _) (by omega) ha
  | f + 1, k, hk, e, ha, h => by
    unfold kas_desc
    unfold KasT.kasWp
    refine hc _ _ (hp.lt (by omega)) (hp.lt (by omega)) (hp.ne (by omega) (by omega) (by omega)) _ ?_
    dsimp only
    cases hl : lt (p.getD k 0) (p.getD (k - 1) 0) with
    | true =>
      rw [if_pos rfl, if_neg (Nat.lt_irrefl 0)]
      refine desc_wp2 S hp hc f (k + 1) (by omega) (by omega) (fun i j hij hj => ?_) fun r h1 h2 => h r (by omega) h2
      by_cases e1 : j = k
      · subst e1
        by_cases e2 : i = j - 1
        · subst e2; exact hl
        · exact S.tr _ _ _ (hp.lt (by omega)) (hp.lt (by omega)) (hp.lt (by omega)) hl (ha i (j - 1) (by omega) (by omega))
      · exact ha i j hij (by omega)
    | false =>
      rw [if_neg Bool.false_ne_true]
      unfold KasT.kasWp
      refine hc _ _ (hp.lt (by omega)) (hp.lt (by omega)) (hp.ne (by omega) (by omega) (by omega)) _ ?_
      have hl2 : lt (p.getD (k - 1) 0) (p.getD k 0) = true := by rw [S.tri _ _ (hp.lt (by omega)) (hp.lt (by omega)) (hp.ne (by omega) (by omega) (by omega)), hl]; rfl
      dsimp only
      rw [hl2, if_pos rfl]
      exact h k (Nat.le_refl _) (by omega) ha
theorem pm_rev {p : Array Nat} (hp : Pm n p) (i j : Nat) : Pm n (kas_rev p i j) := (Array.perm_iff_toList_perm.mp (mirror_perm p i j _)).trans hp
theorem rev_get {p : Array Nat} (hp : Pm n p) {r k : Nat} (hr : r ≤ n) : (kas_rev p 0 r).getD k 0 = if k < r then p.getD (r - 1 - k) 0 else p.getD k 0 := by
  have hs := hp.size
  unfold kas_rev
  rw [Array.getD_eq_getD_getElem?, getElem?_mirror_all (by omega)]
  by_cases h : k < r
  · rw [if_pos ⟨Nat.zero_le _, h⟩, if_pos h, Nat.zero_add, ← Array.getD_eq_getD_getElem?]
  · rw [if_neg (fun z => h z.2), if_neg h, ← Array.getD_eq_getD_getElem?]
theorem count_wp2 {G : Nat × Array Nat → Shared → Prop} {p : Array Nat} (S : SOrd n lt) (h1 : 1 ≤ n) (hp : Pm n p) (hc : ∀ i j, i < n → j < n → i ≠ j → ∀ C, C (lt i j) s → cmp i j C s)
    (h : ∀ r p', Pm n p' → 1 ≤ r → r ≤ n → AscT lt p' r → G (r, p') s) : (kas_count n p).kasWp cmp G s := by
  unfold kas_count
  rw [KasT.kasWp_bind]
  refine asc_wp2 S hp hc (n - 1) 1 (Nat.le_refl _) (by omega) (fun i j hij hj => by omega) fun r r1 r2 ha hd => ?_
  by_cases e : r = n
  · subst e
    rw [if_pos (by simp)]
    exact h r p hp r1 (Nat.le_refl _) ha
  · rw [if_neg (by simp [e])]
    by_cases e1 : 1 < r
    · rw [if_pos e1]
      unfold KasT.kasWp
      refine hc _ _ (hp.lt (by omega)) (hp.lt (by omega)) (hp.ne (by omega) (by omega) (by omega)) _ ?_
      dsimp only
      rw [ha 0 (r - 1) (by omega) (by omega), if_pos rfl]
      exact h r p hp r1 r2 ha
    · rw [if_neg e1]
      obtain rfl : r = 1 := by omega
      unfold kas_descPart
      rw [KasT.kasWp_bind]
      refine desc_wp2 S hp hc (n - (1 + 1)) (1 + 1) (by omega) (by omega) (fun i j hij hj => ?_) fun m m1 m2 hm => ?_
      · obtain rfl : i = 0 := by omega
        obtain rfl : j = 1 := by omega
        exact hd (by omega)
      · dsimp only
        rw [if_neg (Nat.lt_irrefl 0)]
        unfold kas_tail3
        rw [KasT.kasWp_bind]
        refine asc_wp2 S (pm_rev hp 0 m) hc (n - m) m (by omega) (by omega) (fun i j hij hj => ?_) fun r r1 r2 ha _ => ?_
        · rw [rev_get hp m2, rev_get hp m2, if_pos (by omega), if_pos hj]
          exact hm _ _ (by omega) (by omega)
        · exact h r _ (pm_rev hp 0 m) (by omega) r2 ha
theorem place_wp2 {G : Nat → Shared → Prop} {p : Array Nat} (S : SOrd n lt) (hp : Pm n p) (hc : ∀ i j, i < n → j < n → i ≠ j → ∀ C, C (lt i j) s → cmp i j C s) {k : Nat} (hk : k < n) (ha : AscT lt p k) : ∀ (f l r : Nat), l ≤ r → r ≤ k → r - l ≤ f →
    (∀ i, i < l → lt (p.getD i 0) (p.getD k 0) = true) → (∀ i, r ≤ i → i < k → lt (p.getD k 0) (p.getD i 0) = true) →
    (∀ m, m ≤ k → (∀ i, i < m → lt (p.getD i 0) (p.getD k 0) = true) → (∀ i, m ≤ i → i < k → lt (p.getD k 0) (p.getD i 0) = true) → G m s) → (kas_place p k f l r).kasWp cmp G s
  | 0, l, r, h1, h2, h3, a1, a2, h => by
    obtain rfl : l = r := by omega
    exact h l h2 a1 a2
  | f + 1, l, r, h1, h2, h3, a1, a2, h => by
    unfold kas_place
    by_cases e : l ≥ r
    · rw [if_pos e]
      obtain rfl : l = r := by omega
      exact h l h2 a1 a2
    · rw [if_neg e]
      unfold KasT.kasWp
      refine hc _ _ (hp.lt hk) (hp.lt (by omega)) (hp.ne hk (by omega) (by omega)) _ ?_
      dsimp only
      cases hl : lt (p.getD k 0) (p.getD ((l + r) / 2) 0) with
      | true =>
        rw [if_pos rfl]
        refine place_wp2 S hp hc hk ha f l ((l + r) / 2) (by omega) (by omega) (by omega) a1 (fun i i1 i2 => ?_) h
        by_cases e2 : i = (l + r) / 2
        · rw [e2]; exact hl
        · exact S.tr _ _ _ (hp.lt hk) (hp.lt (by omega)) (hp.lt (by omega)) hl (ha _ i (by omega) i2)
      | false =>
        rw [if_neg Bool.false_ne_true]
        have hl2 : lt (p.getD ((l + r) / 2) 0) (p.getD k 0) = true := by rw [S.tri _ _ (hp.lt (by omega)) (hp.lt hk) (hp.ne (by omega) hk (by omega)), hl]; rfl
        refine place_wp2 S hp hc hk ha f ((l + r) / 2 + 1) r (by omega) h2 (by omega) (fun i i1 => ?_) a2 h
        by_cases e2 : i = (l + r) / 2
        · rw [e2]; exact hl2
        · exact S.tr _ _ _ (hp.lt (by omega)) (hp.lt (by omega)) (hp.lt hk) (ha i _ (by omega) (by omega)) hl2
theorem bin_wp2 {G : Array Nat → Shared → Prop} (S : SOrd n lt) (hc : ∀ i j, i < n → j < n → i ≠ j → ∀ C, C (lt i j) s → cmp i j C s) (h : ∀ p', Pm n p' → AscT lt p' n → G p' s) : ∀ (f : Nat) (p : Array Nat) (k : Nat), Pm n p → k + f = n → AscT lt p k → (kas_bin f p k).kasWp cmp G s
  | 0, p, k, hp, e, ha => by
    obtain rfl : k = n := by omega
    exact h p hp ha
  | f + 1, p, k, hp, e, ha => by
    have hs := hp.size
    unfold kas_bin
    rw [KasT.kasWp_bind]
    refine place_wp2 S hp hc (by omega) ha k 0 k (Nat.zero_le _) (Nat.le_refl _) (by omega) (fun i hi => by omega) (fun i h1 h2 => by omega) fun m m1 a1 a2 => ?_
    refine bin_wp2 S hc h f _ (k + 1) ((Array.perm_iff_toList_perm.mp (bubble_perm p k (k - m))).trans hp) (by omega) ?_
    have g : ∀ i, (bubble p k (k - m)).getD i 0 = if i = m then p.getD k 0 else if m < i ∧ i ≤ k then p.getD (i - 1) 0 else p.getD i 0 := fun i => by
      rw [Array.getD_eq_getD_getElem?, getElem?_bubble (by omega) (k - m) (by omega), show k - (k - m) = m by omega]
      by_cases z : i = m
      · rw [if_pos z, if_pos z, ← Array.getD_eq_getD_getElem?]
      · rw [if_neg z, if_neg z]
        by_cases z2 : m < i ∧ i ≤ k
        · rw [if_pos z2, if_pos z2, ← Array.getD_eq_getD_getElem?]
        · rw [if_neg z2, if_neg z2, ← Array.getD_eq_getD_getElem?]
    intro i j hij hj
    rw [g, g]
    by_cases i1 : i = m
    · rw [if_pos i1, if_neg (by omega), if_pos ⟨by omega, by omega⟩]
      exact a2 _ (by omega) (by omega)
    · rw [if_neg i1]
      by_cases i2 : m < i
      · rw [if_pos ⟨i2, by omega⟩, if_neg (by omega), if_pos ⟨by omega, by omega⟩]
        exact ha _ _ (by omega) (by omega)
      · rw [if_neg (fun z => i2 z.1)]
        by_cases j1 : j = m
        · rw [if_pos j1]
          exact a1 i (by omega)
        · rw [if_neg j1]
          by_cases j2 : m < j
          · rw [if_pos ⟨j2, by omega⟩]
            exact ha _ _ (by omega) (by omega)
          · rw [if_neg (fun z => j2 z.1)]
            exact ha _ _ hij (by omega)
theorem sort_wp2 {G : Array Nat → Shared → Prop} (S : SOrd n lt) (h1 : 1 ≤ n) (hc : ∀ i j, i < n → j < n → i ≠ j → ∀ C, C (lt i j) s → cmp i j C s) (h : ∀ p', Pm n p' → AscT lt p' n → G p' s) : (kas_sort n).kasWp cmp G s := by
  unfold kas_sort
  rw [KasT.kasWp_bind]
  refine count_wp2 S h1 (by unfold Pm; simp) hc fun r p' hp r1 r2 ha => ?_
  dsimp only
  by_cases e : r < n
  · rw [if_pos e, show max r 1 = r by omega]
    exact bin_wp2 S hc h (n - r) p' r hp (by omega) ha
  · rw [if_neg e]
    obtain rfl : r = n := by omega
    exact h p' hp ha
end
end L2
namespace L2
open PySem PySem.Spec PyProof.Rows PySem.W
/-! ### sorted(x) of tuples, by their first items, all different: ints, or texts -/
def ltK : Key → Key → Bool
  | .inl a, .inl b => decide (a < b)
  | .inr a, .inr b => decide (a.cps.toList < b.cps.toList)
  | _, _ => false
def OneKind (kz : List Key) : Prop := (∀ k ∈ kz, ∃ i, k = Sum.inl i) ∨ ∀ k ∈ kz, ∃ t, k = Sum.inr t
def KeyAll (H : Hp) (xs : List V) (kz : List Key) : Prop := kz.length = xs.length ∧ ∀ (i : Nat) x k, xs[i]? = some x → kz[i]? = some k → ∃ a r, x = .ref a ∧ H a = some (.tup (kV k :: r))
theorem str_ext {a b : Str} (h : a.cps.toList = b.cps.toList) : a = b := by
  have e2 : a.cps = b.cps := Array.toList_inj.mp h
  cases a; cases b; simp only at e2; subst e2; rfl
theorem kord {kz : List Key} (hk : OneKind kz) (hn : kz.Nodup) : SOrd kz.length (fun i j => ltK (kz.getD i (.inl 0)) (kz.getD j (.inl 0))) := by
  have gm : ∀ i, i < kz.length → kz.getD i (.inl 0) ∈ kz := fun i hi => by
    have : kz.getD i (.inl 0) = kz[i] := by simp [List.getD, hi]
    rw [this]; exact List.getElem_mem hi
  have gn : ∀ i j, i < kz.length → j < kz.length → i ≠ j → kz.getD i (.inl 0) ≠ kz.getD j (.inl 0) := fun i j hi hj hij e => by
    have e1 : kz[i]? = some (kz.getD i (.inl 0)) := by simp [List.getD, hi]
    have e2 : kz[j]? = some (kz.getD j (.inl 0)) := by simp [List.getD, hj]
    rw [← e] at e2
    exact hij ((List.getElem?_inj hi hn).mp (e1.trans e2.symm))
  constructor
  · intro i j hi hj hij
    have hne := gn i j hi hj hij
    have m1 := gm i hi
    have m2 := gm j hj
    generalize kz.getD i (.inl 0) = a at hne m1 ⊢
    generalize kz.getD j (.inl 0) = b at hne m2 ⊢
    rcases hk with hk | hk
    · obtain ⟨x, rfl⟩ := hk a m1
      obtain ⟨y, rfl⟩ := hk b m2
      have : x ≠ y := fun z => hne (by rw [z])
      show decide (x < y) = !decide (y < x)
      by_cases z : x < y
      · rw [decide_eq_true z, decide_eq_false (by omega)]; rfl
      · rw [decide_eq_false z, decide_eq_true (by omega)]; rfl
    · obtain ⟨x, rfl⟩ := hk a m1
      obtain ⟨y, rfl⟩ := hk b m2
      have hxy : x ≠ y := fun z => hne (by rw [z])
      show decide (x.cps.toList < y.cps.toList) = !decide (y.cps.toList < x.cps.toList)
      by_cases z : x.cps.toList < y.cps.toList
      · rw [decide_eq_true z, decide_eq_false (fun w => List.lt_irrefl _ (List.lt_trans z w))]; rfl
      · rw [decide_eq_false z]
        by_cases z2 : y.cps.toList < x.cps.toList
        · rw [decide_eq_true z2]; rfl
        · exact absurd (str_ext (List.le_antisymm (List.not_lt.mp z2) (List.not_lt.mp z))) hxy
  · intro i j k hi hj hk' h1 h2
    have m1 := gm i hi
    have m2 := gm j hj
    have m3 := gm k hk'
    generalize kz.getD i (.inl 0) = a at m1 h1 ⊢
    generalize kz.getD j (.inl 0) = b at m2 h1 h2
    generalize kz.getD k (.inl 0) = c at m3 h2 ⊢
    rcases hk with hk | hk
    · obtain ⟨x, rfl⟩ := hk a m1
      obtain ⟨y, rfl⟩ := hk b m2
      obtain ⟨z, rfl⟩ := hk c m3
      have h1' : x < y := of_decide_eq_true h1
      have h2' : y < z := of_decide_eq_true h2
      exact decide_eq_true (show x < z by omega)
    · obtain ⟨x, rfl⟩ := hk a m1
      obtain ⟨y, rfl⟩ := hk b m2
      obtain ⟨z, rfl⟩ := hk c m3
      have h1' : x.cps.toList < y.cps.toList := of_decide_eq_true h1
      have h2' : y.cps.toList < z.cps.toList := of_decide_eq_true h2
      exact decide_eq_true (show x.cps.toList < z.cps.toList from List.lt_trans h1' h2')
/-- the tuples as the sort sees them -/
def FirstAt (h : Heap) (vs : List Value) (kz : List Key) : Prop := kz.length = vs.length ∧ ∀ (i : Nat) v k, vs[i]? = some v → kz[i]? = some k → ∃ a o xs n u, v = .ref a ∧ h.get? a = some o ∧ o.cls = .type "tuple" ∧ o.data = .seq xs n ∧ xs[0]? = some u ∧ RelV (kV k) u
section
variable {X : Cx} {pins : List (Addr × Obj)} {σ : St} {H : Hp} {s : Shared} {A : Around} {E : Value → Shared → Prop} {a : Addr} {vs : List Value} {P : PySem.Fin → Shared → Prop}
theorem first_tups {h : Heap} : ∀ {vs : List Value} {kz : List Key}, FirstAt h vs kz → ∃ fs, KatTups h vs fs ∧ fs.length = vs.length ∧ ∀ v ∈ fs, ∃ k ∈ kz, RelV (kV k) v
  | [], [], _ => ⟨[], trivial, rfl, fun _ h => nomatch h⟩
  | [], _ :: _, e => by have := e.1; simp at this
  | _ :: _, [], e => by have := e.1; simp at this
  | v :: vs, k :: ks, e => by
    obtain ⟨fs, h1, h2, h3⟩ := first_tups (vs := vs) (kz := ks) ⟨by have := e.1; simpa using this, fun i v' k' a1 a2 => e.2 (i + 1) v' k' (by simpa using a1) (by simpa using a2)⟩
    obtain ⟨a, o, xs, n, u, rfl, ho, hc, hd, hx, ru⟩ := e.2 0 v k rfl rfl
    refine ⟨u :: fs, ⟨⟨a, o, xs, n, rfl, ho, hc, hd, hx⟩, h1⟩, by simp [h2], fun w hw => ?_⟩
    rcases List.mem_cons.mp hw with q | q
    · subst q; exact ⟨k, List.mem_cons_self, ru⟩
    · obtain ⟨k', m, r⟩ := h3 w q
      exact ⟨k', List.mem_cons_of_mem _ m, r⟩
theorem lt_tupK {x y : Addr} {ox oy : Obj} {xs ys : Array Value} {n k : Nat} {i j : Key} {u v : Value} {Q : Bool → Shared → Prop} (hx : s.heap.get? x = some ox) (dx : ox.data = .seq xs n) (hy : s.heap.get? y = some oy) (dy : oy.data = .seq ys k) (fx : xs[0]? = some u) (fy : ys[0]? = some v)
    (ru : RelV (kV i) u) (rv : RelV (kV j) v) (hk : (∃ a b, i = Sum.inl a ∧ j = Sum.inl b) ∨ ∃ a b, i = Sum.inr a ∧ j = Sum.inr b)
    (hij : i ≠ j) (h : Q (ltK i j) s) : wpAny (model X.prog X.w) A (keyLt' (tuples' true) (.ref x) (.ref y)) Q E s := by
  refine kat_lt hx dx hy dy ?_
  obtain ⟨xr, ex⟩ : ∃ r, xs.toList = u :: r := by
    cases q : xs.toList with
    | nil => rw [← Array.getElem?_toList, q] at fx; cases fx
    | cons z r => rw [← Array.getElem?_toList, q] at fx; cases fx; exact ⟨r, rfl⟩
  obtain ⟨yr, ey⟩ : ∃ r, ys.toList = v :: r := by
    cases q : ys.toList with
    | nil => rw [← Array.getElem?_toList, q] at fy; cases fy
    | cons z r => rw [← Array.getElem?_toList, q] at fy; cases fy; exact ⟨r, rfl⟩
  rw [ex, ey]
  rcases hk with ⟨a, b, rfl, rfl⟩ | ⟨a, b, rfl, rfl⟩
  · obtain ⟨t, rfl⟩ := ru
    obtain ⟨t', rfl⟩ := rv
    show KatLex X.prog X.w A true _ Q ((Value.int a t, Value.int b t') :: xr.zip yr) 0 s
    refine kat_cons (SeqAt.EqAt.int_int a t b t' X.prog X.w _ _ ?_)
    have e : (a == b) = false := beq_eq_false_iff_ne.mpr fun z => hij (by rw [z])
    rw [e]
    exact kat_no (oneLt_int h)
  · obtain ⟨t, rfl⟩ := ru
    obtain ⟨t', rfl⟩ := rv
    show KatLex X.prog X.w A true _ Q ((Value.str a t, Value.str b t') :: xr.zip yr) 0 s
    refine kat_cons (SeqAt.EqAt.str_str a t b t' X.prog X.w _ _ ?_)
    have e : (a == b) = false := beq_eq_false_iff_ne.mpr fun z => hij (by rw [z])
    rw [e]
    exact kat_no (oneLt_str h)
theorem so_tupK {n : Nat} {kz : List Key} (I : Inv X pins σ H s) (ho : s.heap.get? a = some (seqObj "list" vs.toArray n)) (fa : FpOk X pins H a) (h64 : vs.length < 64) (hok : OneKind kz) (hnd : kz.Nodup) (first : ∀ s', Inv X pins σ H s' → FirstAt s'.heap vs kz)
    (h : ∀ (s' : Shared) (c : Nat) (is : List Nat), Inv X pins σ H s' → is.Perm (List.range vs.length) → (is.map fun i => kz.getD i (.inl 0)).Pairwise (fun x y => ltK x y = true) → s'.heap.get? a = some (seqObj "list" (is.map fun i => vs.getD i Value.none).toArray c) → P (.done (.ret .none)) s') : wpAny (model X.prog X.w) A (Builtin.«list.sort» ⟨[.ref a], []⟩) P E s := by
  obtain ⟨e1, ho1⟩ : ∃ e1, (s.heap.update a (Obj.mapSeq fun _ => (#[] : Array Value))).get? a = some (seqObj "list" #[] e1) := ⟨_, get?_update_seq ho fun _ => #[]⟩
  have I1 := I.upd1 (t' := s.toks) (f := fun _ => (#[] : Array Value)) fa
  have I2 : Inv X pins σ H { s with heap := (s.heap.update a (Obj.mapSeq fun _ => (#[] : Array Value))).push (seqObj "tuple" vs.toArray 0) } := I1.kept (t' := s.toks) fun b o e => Heap.get?_push_of_some _ e
  have I3 : Inv X pins σ H { s with heap := ((s.heap.update a (Obj.mapSeq fun _ => (#[] : Array Value))).push (seqObj "tuple" vs.toArray 0)).push (seqObj "list" #[] 0) } := I2.kept (t' := s.toks) fun b o e => Heap.get?_push_of_some _ e
  have ho3 : (((s.heap.update a (Obj.mapSeq fun _ => (#[] : Array Value))).push (seqObj "tuple" vs.toArray 0)).push (seqObj "list" #[] 0)).get? a = some (seqObj "list" #[] e1) := Heap.get?_push_of_some _ (Heap.get?_push_of_some _ ho1)
  rw [list_sort_plain]
  refine wpAny_bind (listItems_at ho rfl ?_)
  refine wpAny_bind (listUpdate_at ho rfl ?_ (by rw [List.size_toArray, sizeLine_eq]; omega) (Nat.zero_le _))
  refine wpAny_bind (seqEpoch_at ho1 rfl ?_)
  refine wpAny_bind (wpAny_newTuple ?_ (by show vs.length ≤ _; rw [sizeLine_eq]; omega))
  refine wpAny_bind (wpAny_newList ?_ (Nat.zero_le _))
  refine wpAny_holding ?_
  show wpAny (model X.prog X.w) A _ P E { s with heap := ((s.heap.update a (Obj.mapSeq fun _ => (#[] : Array Value))).push (seqObj "tuple" vs.toArray 0)).push (seqObj "list" #[] 0) }
  dsimp only
  have fin : ∀ (st : SortSt) (is : List Nat), (arrOf st).map (·.2) = (is.map fun i => vs.getD i Value.none).toArray → is.Perm (List.range vs.length) → (is.map fun i => kz.getD i (.inl 0)).Pairwise (fun x y => ltK x y = true) → failedOf st = none → wpAny (model X.prog X.w) A (do
      let sorted := (arrOf st).map (·.2)
      let touched := (← seqEpoch a) != e1
      Builtin.List.listUpdate (.ref a) fun _ => sorted
      if let some e := failedOf st then rule "list.sort.comparison-raised"; throw e
      if touched then rule "list.sort.modified"; raiseError "ValueError" "list modified during sort"
      ret .none) P E { s with heap := ((s.heap.update a (Obj.mapSeq fun _ => (#[] : Array Value))).push (seqObj "tuple" vs.toArray 0)).push (seqObj "list" #[] 0) } := by
    intro st is hst hpm hpw hf
    dsimp only
    rw [hst]
    obtain ⟨c2, hc2⟩ : ∃ c2, ((((s.heap.update a (Obj.mapSeq fun _ => (#[] : Array Value))).push (seqObj "tuple" vs.toArray 0)).push (seqObj "list" #[] 0)).update a (Obj.mapSeq fun _ => (is.map fun i => vs.getD i Value.none).toArray)).get? a = some (seqObj "list" (is.map fun i => vs.getD i Value.none).toArray c2) := ⟨_, get?_update_seq ho3 fun _ => (is.map fun i => vs.getD i Value.none).toArray⟩
    have hil := hpm.length_eq
    rw [List.length_range] at hil
    refine wpAny_bind (seqEpoch_at ho3 rfl ?_)
    refine wpAny_bind (listUpdate_at ho3 rfl ?_ (Nat.zero_le _) (by rw [List.size_toArray, List.length_map, sizeLine_eq]; omega))
    rw [hf]
    simp only [bne_self_eq_false, Bool.false_eq_true, if_false]
    exact wpAny_pure (h _ c2 is (I3.upd1 (t' := s.toks) fa) hpm hpw hc2)
  have hf3 := first _ I3
  by_cases h2 : vs.toArray.size < 2
  · rw [if_pos h2, if_pos h2]
    refine wpAny_bind (wpAny_pure ?_)
    rw [StateT.run_pure]
    refine wpAny_bind (wpAny_pure ?_)
    refine fin (SortSt.mk' general' (vs.toArray.zip vs.toArray) #[] 7 none) (List.range vs.length) ?_ (List.Perm.refl _) ?_ rfl
    · rw [getD_range]
      show (vs.toArray.zip vs.toArray).map (·.2) = vs.toArray
      apply Array.toList_inj.mp
      simp [List.map_snd_zip]
    · rw [List.size_toArray] at h2
      have hl1 : ((List.range vs.length).map fun i => kz.getD i (.inl 0)).length < 2 := by rw [List.length_map, List.length_range]; exact h2
      generalize ((List.range vs.length).map fun i => kz.getD i (.inl 0)) = l at hl1
      match l, hl1 with
      | [], _ => exact .nil
      | [_], _ => exact List.pairwise_singleton _ _
      | _ :: _ :: _, z => exact absurd z (by simp)
  · rw [if_neg h2, if_neg h2]
    rw [List.size_toArray] at h2
    obtain ⟨fs, ht, hfl, hfi⟩ := first_tups hf3
    have hkz := hf3.1
    obtain ⟨T, hT, hTe, hTn⟩ : ∃ T : Value, (∀ v ∈ fs, Looks (model X.prog X.w) ((((s.heap.update a (Obj.mapSeq fun _ => (#[] : Array Value))).push (seqObj "tuple" vs.toArray 0)).push (seqObj "list" #[] 0))) (typeOf v) T) ∧ (T == T) = true ∧ (T != Value.type "tuple") = true := by
      rcases hok with hk | hk
      · refine ⟨.type "int", fun v hv => ?_, by decide, by decide⟩
        obtain ⟨k, hm, r⟩ := hfi v hv
        obtain ⟨i, rfl⟩ := hk k hm
        obtain ⟨t, rfl⟩ := r
        exact Looks.of_pure rfl
      · refine ⟨.type "str", fun v hv => ?_, by decide, by decide⟩
        obtain ⟨k, hm, r⟩ := hfi v hv
        obtain ⟨i, rfl⟩ := hk k hm
        obtain ⟨t, rfl⟩ := r
        exact Looks.of_pure rfl
    refine wpAny_bind (kat_kind (T := T) ht (by omega) hT hTe ?_)
    rw [hTn]
    show wpAny _ _ _ _ _ _
    refine wpAny_bind (wpAny_mono (kat_run (κ := tuples' true) (ks := vs) (vs := vs) (Q := fun st' s' => (∃ is : List Nat, (arrOf st').map (·.2) = (is.map fun i => vs.getD i Value.none).toArray ∧ is.Perm (List.range vs.length) ∧ (is.map fun i => kz.getD i (.inl 0)).Pairwise (fun x y => ltK x y = true)) ∧ failedOf st' = none ∧ s' = { s with heap := ((s.heap.update a (Obj.mapSeq fun _ => (#[] : Array Value))).push (seqObj "tuple" vs.toArray 0)).push (seqObj "list" #[] 0) })
      (G := fun p s' => (Pm vs.length p ∧ AscT (fun i j => ltK (kz.getD i (.inl 0)) (kz.getD j (.inl 0))) p vs.length) ∧ s' = { s with heap := ((s.heap.update a (Obj.mapSeq fun _ => (#[] : Array Value))).push (seqObj "tuple" vs.toArray 0)).push (seqObj "list" #[] 0) }) rfl (by omega) h64 (fun p st' s' _ har hf hg => ?_) ?_) ?_ fun _ _ e => e)
    · obtain ⟨⟨hpm, hasc⟩, rfl⟩ := hg
      refine ⟨⟨p.toList, kat_snds rfl har, hpm, ?_⟩, hf, rfl⟩
      rw [List.pairwise_map, List.pairwise_iff_getElem]
      intro i j hi hj hij
      rw [Array.length_toList] at hi hj
      have hs := hpm.size
      have e1 : p.toList[i] = p.getD i 0 := by simp [Array.getD, hi]
      have e2 : p.toList[j] = p.getD j 0 := by simp [Array.getD, hj]
      rw [e1, e2]
      exact hasc i j hij (by omega)
    · refine sort_wp2 (lt := fun i j => ltK (kz.getD i (.inl 0)) (kz.getD j (.inl 0))) (by rw [← hkz]; exact kord hok hnd) (by omega) (fun i j hi hj hij C hC => ?_) fun p' hp ha => ⟨⟨hp, ha⟩, rfl⟩
      have ek : ∀ i, i < vs.length → kz[i]? = some (kz.getD i (.inl 0)) := fun i hi => by simp [List.getD, show i < kz.length by omega]
      obtain ⟨a1, o1, xs1, n1, u1, e1', g1, c1, d1, f1, r1⟩ := hf3.2 i vs[i] _ (List.getElem?_eq_getElem hi) (ek i hi)
      obtain ⟨a2, o2, xs2, n2, u2, e2', g2, c2, d2, f2, r2⟩ := hf3.2 j vs[j] _ (List.getElem?_eq_getElem hj) (ek j hj)
      show wpAny (model X.prog X.w) A (keyLt' (tuples' true) (vs.getD i Value.none) (vs.getD j Value.none)) C (fun _ _ => False) _
      have z1 : vs.getD i Value.none = .ref a1 := by simp [List.getD, List.getElem?_eq_getElem hi, e1']
      have z2 : vs.getD j Value.none = .ref a2 := by simp [List.getD, List.getElem?_eq_getElem hj, e2']
      rw [z1, z2]
      have m1 : kz.getD i (.inl 0) ∈ kz := List.mem_of_getElem? (ek i hi)
      have m2 : kz.getD j (.inl 0) ∈ kz := List.mem_of_getElem? (ek j hj)
      refine lt_tupK g1 d1 g2 d2 f1 f2 r1 r2 ?_ (fun z => hij ((List.getElem?_inj (by omega) hnd).mp ((ek i hi).trans (by rw [z]; exact (ek j hj).symm)))) hC
      rcases hok with hk | hk
      · obtain ⟨x, ex⟩ := hk _ m1
        obtain ⟨y, ey⟩ := hk _ m2
        exact .inl ⟨x, y, ex, ey⟩
      · obtain ⟨x, ex⟩ := hk _ m1
        obtain ⟨y, ey⟩ := hk _ m2
        exact .inr ⟨x, y, ex, ey⟩
    · rintro ⟨⟨⟩, st'⟩ s' ⟨⟨is, h1, h2, h3⟩, h4, rfl⟩
      exact fin st' is h1 h2 h3 h4
theorem first_of {xs : List V} {kz : List Key} (rv : Vals xs vs) (hn : KeyAll H xs kz) (I : Inv X pins σ H s) : FirstAt s.heap vs kz := by
  refine ⟨by rw [hn.1]; exact rv.length, fun i v k hv hk => ?_⟩
  obtain ⟨x, hx, rx⟩ := rv.back hv
  obtain ⟨a, r, rfl, ha⟩ := hn.2 i x k hx hk
  cases (show v = Value.ref a from rx)
  obtain ⟨hz, its, rt, o, e, c, n, d⟩ := (show ObjOk X.prog X.w H s.heap a (.tup (kV k :: r)) from I.hok a _ ha)
  cases rt with
  | cons r1 t1 => exact ⟨a, o, _, n, _, rfl, e, c, d, by simp, r1⟩
end
def rSortK (K : PySem.W.Frag) : List V → Hp → VK → Prop := fun us H Q => ∃ a xs kz, us = [.ref a] ∧ SqL K H a xs ∧ xs.length < 64 ∧ KeyAll H xs kz ∧ OneKind kz ∧ kz.Nodup ∧
  ∀ p (is : List Nat), H p = none → is.Perm (List.range xs.length) → (is.map fun i => kz.getD i (.inl 0)).Pairwise (fun x y => ltK x y = true) → Q (.ref p) (upd H p (.lst (is.map fun i => xs.getD i .non)))
section
variable {X : Cx}
theorem vals_pick {xs : List V} {vs : List Value} (rv : Vals xs vs) {n : Nat} (hn : n = vs.length) : ∀ (is : List Nat), (∀ i ∈ is, i < n) → Vals (is.map fun i => xs.getD i .non) (is.map fun i => vs.getD i Value.none)
  | [], _ => .nil
  | i :: r, h => by
    subst hn
    have hi : i < vs.length := h i List.mem_cons_self
    obtain ⟨x, hx, rx⟩ := rv.back (List.getElem?_eq_getElem hi)
    have e1 : xs.getD i .non = x := by simp [List.getD, hx]
    have e2 : vs.getD i Value.none = vs[i] := by simp [List.getD, hi]
    rw [List.map_cons, List.map_cons, e1, e2]
    exact .cons rx (vals_pick rv rfl r fun j hj => h j (List.mem_cons_of_mem _ hj))
theorem call_sortK (hc : X.calm = true) : CallR X (.builtin "sorted") (rSortK X.K) := by
  intro pins s σ H us ws Q I r h
  obtain ⟨a, xs, kz, rfl, ha, h64, hn, hok, hnd, q⟩ := h
  obtain ⟨u, rfl, ru⟩ := vals1 r
  refine Calls.call_function_entry kind_sorted plain_sorted entry_sorted (args_sorted1 _) ?_
  unfold Builtin.«sorted»
  refine wpAny_bind (m := checkCount "sorted" 1 1 _) (wpAny_pure ?_)
  refine wpAny_bind (coll_list ha pins s σ u _ _ _ I ru (I.ok.hd hc) fun vs s1 rv I1 => ?_)
  have hl := rv.length
  refine wpAny_bind (wpAny_newList ?_ (by rw [sizeLine_eq]; omega))
  have I2 : Inv X pins σ H { s1 with heap := s1.heap.push (seqObj "list" vs.toArray 0) } := I1.kept (t' := s1.toks) fun b o e => Heap.get?_push_of_some _ e
  have fD : FpOk X pins H s1.heap.objs.size := I1.fpOk (Nat.le_refl _) (I1.hok.fresh (Nat.le_refl _))
  have hoL : (s1.heap.push (seqObj "list" vs.toArray 0)).get? s1.heap.objs.size = some (seqObj "list" vs.toArray 0) := Heap.get?_push_size _ rfl
  refine wpAny_bind (wpAny_holding (wpAny_call_entry slot_list_sort ⟨_, hoL, rfl⟩ entry_list_sort ?body (args_list_sort _)))
  case body =>
    show wpAny (model X.prog X.w) X.A.in1.in1 (Builtin.«list.sort» ⟨[.ref s1.heap.objs.size], []⟩) _ _ _
    refine so_tupK (kz := kz) I2 hoL fD (by omega) hok hnd (fun s' I' => first_of rv hn I') fun s' c is I' hpm hpw ho' => ⟨_, rfl, ?_⟩
    have hil := hpm.length_eq
    rw [List.length_range] at hil
    refine wpAny_pure ⟨_, rfl, .ref s1.heap.objs.size, upd H s1.heap.objs.size (.lst (is.map fun i => xs.getD i .non)), I'.track fD ⟨?_, _, c, vals_pick rv rfl is (fun i hi => List.mem_range.mp (hpm.mem_iff.mp hi)), ho'⟩, rfl, q _ is fD.1 (by rw [hl]; exact hpm) hpw⟩
    rw [List.length_map, sizeLine_eq]; omega
theorem k_sortK (K : PySem.W.Frag) (hc : X.calm = true) (h : X.K = K := by rfl) : CallR X (.builtin "sorted") (rSortK K) := h ▸ call_sortK hc
end
end L2
namespace L2
open PySem PySem.Spec PyProof.Rows PySem.W
theorem range_get {α : Type} (l : List α) : (List.range l.length).map (fun i => l[i]?) = l.map some := by
  refine List.ext_getElem (by simp) fun i h1 h2 => ?_
  simp at h1
  simp [h1]
theorem some_perm {α : Type} {a b : List α} (h : (a.map some).Perm (b.map some)) : a.Perm b := by
  have := h.filterMap id
  simpa [List.filterMap_map] using this
end L2

namespace L2
open PySem PySem.Spec PyProof.Rows PySem.W
section
variable {X : Cx} {pins : List (Addr × Obj)} {σ : St} {H : Hp} {s : Shared}
/-! x.startswith(y) -/
/-! x in a tuple of data -/
end
/-! a def that calls itself -/
end L2

namespace L2
open PySem PySem.Spec PyProof.Rows PySem.W Builtin.Str
section
variable {X : Cx} {pins : List (Addr × Obj)} {σ : St} {H : Hp} {s : Shared}
/-! x is True, x is not True -/
/-! x[a:b] of texts -/
/-! x.split(y) -/
end
/-! the mathematics: found, split, starts -/
end L2

namespace L2
open PySem PySem.Spec PyProof.Rows PySem.W
/-! ### a display of constants at one stroke -/
section
variable {X : Cx}
end
end L2

namespace L2
open PySem PySem.Spec PyProof.Rows PySem.W
/-! ### own hearers by their names -/
abbrev LL := List (Str × LA)
def LsAt (H : Hp) (l : LL) (f : Str → HS) : Prop := ∀ x ∈ l, LAt H x.2 (f x.1)
def fpL (l : LL) : List Addr := l.flatMap fun x => x.2.fp
def kvL (l : LL) : List (Key × V) := l.map fun x => (Sum.inr x.1, V.ref x.2.m)
structure DisL (l : LL) : Prop where
  nd : (l.map (·.1)).Nodup
  ap : l.Pairwise fun x y => ∀ c ∈ x.2.fp, c ∉ y.2.fp
theorem mem_fpL {l : LL} {c : Addr} : c ∈ fpL l ↔ ∃ x ∈ l, c ∈ x.2.fp := by unfold fpL; rw [List.mem_flatMap]
theorem DisL.apart {l : LL} (h : DisL l) {x y : Str × LA} (hx : x ∈ l) (hy : y ∈ l) (hn : x.1 ≠ y.1) : ∀ c ∈ x.2.fp, c ∉ y.2.fp := by
  obtain ⟨i, hi, rfl⟩ := List.getElem_of_mem hx
  obtain ⟨j, hj, rfl⟩ := List.getElem_of_mem hy
  rcases Nat.lt_trichotomy i j with z | z | z
  · exact List.pairwise_iff_getElem.mp h.ap i j hi hj z
  · subst z; exact absurd rfl hn
  · have := List.pairwise_iff_getElem.mp h.ap j i hj hi z
    exact fun c hc w => this c w hc
theorem DisL.uniq {l : LL} (h : DisL l) {x y : Str × LA} (hx : x ∈ l) (hy : y ∈ l) (hn : x.1 = y.1) : x = y := by
  have nd := List.pairwise_map.mp h.nd
  obtain ⟨i, hi, rfl⟩ := List.getElem_of_mem hx
  obtain ⟨j, hj, rfl⟩ := List.getElem_of_mem hy
  rcases Nat.lt_trichotomy i j with z | z | z
  · exact absurd hn (List.pairwise_iff_getElem.mp nd i j hi hj z)
  · subst z; rfl
  · exact absurd hn.symm (List.pairwise_iff_getElem.mp nd j i hj hi z)
section
variable {H H' : Hp} {l : LL} {f : Str → HS}
theorem LsAt.step {ps ps' : List Addr} (h : LsAt H l f) (st : Stp ps H ps' H') (hd : ∀ c ∈ fpL l, c ∉ ps) : LsAt H' l f := fun x hx => (h x hx).step st fun c hc => hd c (mem_fpL.mpr ⟨x, hx, hc⟩)
theorem LsAt.same (h : LsAt H l f) (e : Same H H') : LsAt H' l f := fun x hx => (h x hx).same e
theorem LsAt.live (h : LsAt H l f) : ∀ c ∈ fpL l, ∃ o, H c = some o := fun c hc => by
  obtain ⟨x, hx, hc⟩ := mem_fpL.mp hc
  exact (h x hx).live c hc
theorem LsAt.out {ps ps' : List Addr} (h : LsAt H l f) (st : Stp ps H ps' H') (hd : ∀ c ∈ fpL l, c ∉ ps) : ∀ c ∈ fpL l, c ∉ ps' := fun c hc => by
  obtain ⟨o, ho⟩ := h.live c hc
  exact st.out ho (hd c hc)
/-- one of them has gone on -/
theorem LsAt.put (h : LsAt H l f) (d : DisL l) {x : Str × LA} {s : HS} (hx : x ∈ l) (st : Stp x.2.fp H x.2.fp H') (ha : LAt H' x.2 s) : LsAt H' l (updS f x.1 s) ∧ Stp (fpL l) H (fpL l) H' := by
  refine ⟨fun y hy => ?_, st.up fun c hc => mem_fpL.mpr ⟨x, hx, hc⟩⟩
  by_cases e : y.1 = x.1
  · rw [d.uniq hy hx e, updS_same]; exact ha
  · rw [updS_ne e]
    exact (h y hy).step st (d.apart hy hx e)
/-- one more -/
theorem LsAt.more {n : Str} {a : LA} (h : LsAt H l f) (ha : LAt H a (f n)) : LsAt H (l ++ [(n, a)]) f := fun y hy => by
  rcases List.mem_append.mp hy with z | z
  · exact h y z
  · rw [List.mem_singleton] at z; rw [z]; exact ha
end
theorem fpL_snoc (l : LL) (n : Str) (a : LA) : fpL (l ++ [(n, a)]) = fpL l ++ a.fp := by
  unfold fpL
  rw [List.flatMap_append]
  congr 1
theorem DisL.more {l : LL} {n : Str} {a : LA} (h : DisL l) (hn : n ∉ l.map (·.1)) (hd : ∀ c ∈ fpL l, c ∉ a.fp) : DisL (l ++ [(n, a)]) where
  nd := by
    rw [List.map_append]
    exact List.nodup_append.mpr ⟨h.nd, by simp, fun x hx y hy e => by simp at hy; rw [hy] at e; rw [e] at hx; exact hn hx⟩
  ap := List.pairwise_append.mpr ⟨h.ap, List.pairwise_singleton _ _, fun x hx y hy c hc => by
    rw [List.mem_singleton] at hy; rw [hy]; exact hd c (mem_fpL.mpr ⟨x, hx, hc⟩)⟩
theorem kvL_val {l : LL} (d : DisL l) {x : Str × LA} (hx : x ∈ l) : valV (kvL l) (Sum.inr x.1) = some (.ref x.2.m) := by
  have key : ∀ (l : LL), (l.map (·.1)).Nodup → x ∈ l → valV (kvL l) (Sum.inr x.1) = some (.ref x.2.m) := by
    intro l
    induction l with
    | nil => intro _ h; exact absurd h List.not_mem_nil
    | cons y r ih =>
      intro nd h
      rw [List.map_cons, List.nodup_cons] at nd
      by_cases e : y.1 = x.1
      · rcases List.mem_cons.mp h with rfl | z
        · exact valV_pos rfl
        · exact absurd (by rw [e]; exact List.mem_map_of_mem z) nd.1
      · rcases List.mem_cons.mp h with rfl | z
        · exact absurd rfl e
        · refine (valV_neg ?_).trans (ih nd.2 z)
          intro w
          exact e (Sum.inr.inj w)
  exact key l d.nd hx
theorem kvL_none {l : LL} {n : Str} (h : n ∉ l.map (·.1)) : valV (kvL l) (Sum.inr n) = none := by
  induction l with
  | nil => rfl
  | cons y r ih =>
    rw [List.map_cons, List.mem_cons, not_or] at h
    refine (valV_neg ?_).trans (ih h.2)
    intro w
    exact h.1 (Sum.inr.inj w).symm
theorem kvL_snoc {l : LL} {n : Str} {a : LA} (h : n ∉ l.map (·.1)) : putK (kvL l) (Sum.inr n) (.ref a.m) = kvL (l ++ [(n, a)]) := by
  rw [putK_new _ (kvL_none h)]
  unfold kvL
  rw [List.map_append]; rfl
theorem kvL_len (l : LL) : (kvL l).length = l.length := by unfold kvL; rw [List.length_map]
/-! ### == of tables from texts to ints, both the same -/
abbrev intsK (es : List (Str × Int)) : List (Key × V) := List.map (fun (e : Str × Int) => ((Sum.inr e.1 : Key), V.int e.2)) es
def rEqI (neg : Bool) : R2 := fun x y H Q => ∃ a b es, x = .ref a ∧ y = .ref b ∧ H a = some (.dK (intsK es)) ∧ H b = some (.dK (intsK es)) ∧ (es.map (·.1)).Nodup ∧ Q (.bl (!neg)) H
section
variable {X : Cx}
theorem keq_ints {A : Around} {s : Shared} {E : List (Str × Int)} (hn : (E.map (·.1)).Nodup) {vb : List (Key × Value)} (rb : KV (intsK E) vb) : ∀ {D : List (Str × Int)} {va : List (Key × Value)}, (∀ p ∈ D, p ∈ E) → KV (intsK D) va → KeqHits A s vb va true
  | [], va, _, r => by
    have h := Paired.length r
    cases va with
    | nil => exact .nil
    | cons q va => exact absurd h (by simp)
  | p :: D, va, hD, r => by
    cases r with
    | @cons _ q _ vr h t =>
      obtain ⟨h1, h2⟩ := h
      have hv := rb.val (Sum.inr p.1)
      rw [ints_val hn (hD p List.mem_cons_self)] at hv
      have ih := keq_ints (A := A) (s := s) hn rb (fun x hx => hD x (List.mem_cons_of_mem _ hx)) t
      obtain ⟨q1, q2⟩ := q
      have e1 : Sum.inr p.1 = q1 := h1
      subst e1
      obtain ⟨u, hu, ru⟩ := RelO.some_of hv
      have he := eqAt_V (A := A) (s := s) (y := .int p.2) (x := .int p.2) h2 ru rfl rfl
      have e2 : eqV (.int p.2) (.int p.2) = true := by show (p.2 == p.2) = true; simp
      rw [e2] at he
      exact .hit hu he ih
theorem op_eqI (hu : X.A.units < cLine) : OpR X (compareOp .Eq) (rEqI false) := by
  rintro pins s σ H x y v u Q I rx ry ⟨a, b, E, rfl, rfl, ha, hb, hn, q⟩
  cases rx; cases ry
  obtain ⟨_, na, va, ka, da⟩ := dk_of I.hok ha
  obtain ⟨_, nb, vb, kb, db⟩ := dk_of I.hok hb
  refine keq_eq na nb da db hu (fun _ => keq_ints hn kb (fun _ h => h) ka) ⟨.bl true, H, I, ?_, q⟩
  have h1 := Paired.length ka
  have h2 := Paired.length kb
  rw [← h1, ← h2]; show Value.bool _ = Value.bool true; simp
theorem op_neI (hu : X.A.units < cLine) : OpR X (compareOp .NotEq) (rEqI true) := by
  rintro pins s σ H x y v u Q I rx ry ⟨a, b, E, rfl, rfl, ha, hb, hn, q⟩
  cases rx; cases ry
  obtain ⟨_, na, va, ka, da⟩ := dk_of I.hok ha
  obtain ⟨_, nb, vb, kb, db⟩ := dk_of I.hok hb
  refine keq_ne na nb da db hu (fun _ => keq_ints hn kb (fun _ h => h) ka) ⟨.bl false, H, I, ?_, q⟩
  have h1 := Paired.length ka
  have h2 := Paired.length kb
  rw [← h1, ← h2]; show Value.bool _ = Value.bool false; simp
end
/-! ### sources and own hearers -/
structure W5 (H0 H : Hp) (C CH : Addr) (a : SA) (l : HL) (pm : Addr) (ll : LL) (f g : Str → HS) (story : List (Str × Msg)) : Prop where
  sa : SAt C CH H a l f story
  dm : H pm = some (.dK (kvL ll))
  la : LsAt H ll g
  dl : DisL ll
  pml : pm ∉ fpL ll
  pms : pm ∉ a.fp l
  sl : ∀ c ∈ fpL ll, c ∉ a.fp l
  w : Stp [] H0 (a.fp l ++ (pm :: fpL ll)) H
section
variable {H0 H H' : Hp} {C CH : Addr} {a : SA} {l l' : HL} {pm : Addr} {ll : LL} {f f' g : Str → HS} {story story' : List (Str × Msg)}
theorem W5.same (h : W5 H0 H C CH a l pm ll f g story) (e : Same H H') : W5 H0 H' C CH a l pm ll f g story := ⟨h.sa.same e, e _ _ h.dm, h.la.same e, h.dl, h.pml, h.pms, h.sl, h.w.trans (e.step _)⟩
theorem W5.takeL (h : W5 H0 H C CH a l pm ll f g story) {x : Str × LA} {s : HS} (hx : x ∈ ll) (st : Stp x.2.fp H x.2.fp H') (la : LAt H' x.2 s) : W5 H0 H' C CH a l pm ll f (updS g x.1 s) story := by
  have hm : ∀ c ∈ x.2.fp, c ∈ fpL ll := fun c hc => mem_fpL.mpr ⟨x, hx, hc⟩
  exact ⟨h.sa.step st fun c hc z => h.sl c (hm c z) hc, st.keep h.dm fun z => h.pml (hm _ z), (h.la.put h.dl hx st la).1, h.dl, h.pml, h.pms, h.sl, h.w.trans (st.up fun c hc => List.mem_append_right _ (List.mem_cons_of_mem _ (hm c hc)))⟩
theorem W5.takeS (h : W5 H0 H C CH a l pm ll f g story) (st : Stp (a.fp l) H (a.fp l') H') (sa : SAt C CH H' a l' f' story') : W5 H0 H' C CH a l' pm ll f' g story' :=
  ⟨sa, st.keep h.dm h.pms, h.la.step st h.sl, h.dl, h.pml, st.out h.dm h.pms, h.la.out st h.sl, h.w.trans st.fr⟩
theorem W5.newL (h : W5 H0 H C CH a l pm ll f g story) {n : Str} {L : LA} (hn : n ∉ ll.map (·.1)) (hg : g n = hs0) (la : LAt H' L hs0) (st : Stp [] H L.fp H') : W5 H0 (upd H' pm (.dK (putK (kvL ll) (Sum.inr n) (.ref L.m)))) C CH a l pm (ll ++ [(n, L)]) f g story := by
  have no : ∀ c : Addr, c ∉ ([] : List Addr) := fun _ => List.not_mem_nil
  have dm' := st.keep h.dm (no _)
  have z := Stp.put (ps := [pm]) (o := .dK (putK (kvL ll) (Sum.inr n) (.ref L.m))) dm' (fun _ z => by cases z) (by simp)
  have oL : ∀ c ∈ fpL ll, c ∉ L.fp := h.la.out st fun c _ => no c
  have oS : ∀ c ∈ a.fp l, c ∉ L.fp := h.sa.out st fun c _ => no c
  have oP : pm ∉ L.fp := st.out h.dm (no _)
  have p1 : ∀ c ∈ fpL ll, c ∉ [pm] := fun c hc w => h.pml (by rw [List.mem_singleton] at w; rw [← w]; exact hc)
  have p2 : ∀ c ∈ L.fp, c ∉ [pm] := fun c hc w => oP (by rw [List.mem_singleton] at w; rw [← w]; exact hc)
  refine ⟨(h.sa.step st fun c _ => no c).step z fun c hc w => h.pms (by rw [List.mem_singleton] at w; rw [← w]; exact hc), by rw [upd_same, kvL_snoc hn], LsAt.more ((h.la.step st fun c _ => no c).step z p1) (by rw [hg]; exact la.step z p2), h.dl.more hn oL, ?_, h.pms, ?_, ?_⟩
  · rw [fpL_snoc]
    exact fun w => (List.mem_append.mp w).elim h.pml oP
  · intro c hc w
    rw [fpL_snoc] at hc
    rcases List.mem_append.mp hc with y | y
    · exact h.sl c y w
    · exact oS c w y
  · rw [fpL_snoc]
    have s1 : Stp (a.fp l ++ (pm :: fpL ll)) H (a.fp l ++ (pm :: (fpL ll ++ L.fp))) H' := st.weak (fun c hc => absurd hc (no c)) fun c hc => by
      rcases List.mem_append.mp hc with y | y
      · exact .inr (List.mem_append_left _ y)
      · rcases List.mem_cons.mp y with rfl | y
        · exact .inr (List.mem_append_right _ List.mem_cons_self)
        · rcases List.mem_append.mp y with y | y
          · exact .inr (List.mem_append_right _ (List.mem_cons_of_mem _ y))
          · exact .inl y
    exact (h.w.trans s1).trans (z.up fun c hc => by rw [List.mem_singleton] at hc; rw [hc]; exact List.mem_append_right _ List.mem_cons_self)
end
end L2

namespace K52
open PySem L2
def top (i : Nat) : Stmt := PySem.Challenge.pw_tellroads_k52_sources.main.body.getD i (.Pass ⟨0, 0, 0, 0⟩)
structure Txt (mg : Str → Option Value) : Prop where
  b_len : mg "len" = none
  b_range : mg "range" = none
  b_list : mg "list" = none
  b_max : mg "max" = none
  b_min : mg "min" = none
  b_sorted : mg "sorted" = none
  b_dict : mg "dict" = none
  b_enumerate : mg "enumerate" = none
  b_isinstance : mg "isinstance" = none
  b_ValueError : mg "ValueError" = none
structure TxtC (K : PySem.W.Frag) (mg : Str → Option Value) (C CH : Addr) : Prop where
  R_Sources : SourcesC K mg C
  R_Hearer : HearK K mg CH
section
variable {K : PySem.W.Frag} {mg : Str → Option Value} {C CH : Addr} (h : TxtC K mg C CH)
include h
theorem TxtC.cl_Sources : Cls K C := h.R_Sources.cl_Sources
theorem TxtC.mg_Sources : mg "Sources" = some (.ref C) := h.R_Sources.mg_Sources
theorem TxtC.n_hearers : NoAttr K C "hearers" := h.R_Sources.n_hearers
theorem TxtC.n_story : NoAttr K C "story" := h.R_Sources.n_story
theorem TxtC.cl_Hearer : Cls K CH := h.R_Hearer.cl_Hearer
theorem TxtC.mg_Hearer : mg "Hearer" = some (.ref CH) := h.R_Hearer.mg_Hearer
end
/-! ### the draws -/
def cellF (ns : List Int) (k : Int) : Int := if ns = [] then 7 * k else ns.getD (k % (ns.length : Int)).toNat 0 + 6553 * (k / (ns.length : Int))
def draw1 (c k : Int) : Int := (c % 2147483563 * 69069 + 104723 * (k + 1)) % 2147483563
def draw2 (h : Int) : Int := (h * h + h / 3) % 2147483399
def draw3 (h m : Int) : Int := (h * h + h / 7) % 2147483647 / 11 % m
def drawnF (ns : List Int) (k m : Int) : Int := draw3 (draw2 (draw1 (cellF ns k) k)) m
theorem drawn_nn (ns : List Int) (k : Int) {m : Int} (h : 0 < m) : 0 ≤ drawnF ns k m := Int.emod_nonneg _ (by omega)
theorem drawn_lt (ns : List Int) (k : Int) {m : Int} (h : 0 < m) : drawnF ns k m < m := Int.emod_lt_of_pos _ h
def spCell (K : PySem.W.Frag) : Sp := fun vs H Q _ => ∃ (a : Addr) (ns : List Int) (k : Int), vs = [.ref a, .int k] ∧ SqL K H a (ns.map V.int) ∧ ns.length ≤ 63 ∧ 0 ≤ k ∧ ∀ H', Same H H' → Q (.int (cellF ns k)) H'
def spDrawn (K : PySem.W.Frag) : Sp := fun vs H Q _ => ∃ (a : Addr) (ns : List Int) (k m : Int), vs = [.ref a, .int k, .int m] ∧ SqL K H a (ns.map V.int) ∧ ns.length ≤ 63 ∧ 0 ≤ k ∧ 0 < m ∧ ∀ H', Same H H' → Q (.int (drawnF ns k m)) H'
section
variable {P : Program} {w : World} {K : PySem.W.Frag} {mg : Str → Option Value} {base : Heap}
abbrev s_l_cell : Stmt := top 16
abbrev N_l_cell : List Str := ["_law_script", "_law_k"]
theorem sc_l_cell : FnScope N_l_cell ["_law_script", "_law_k"] (defScope s_l_cell) := ⟨rfl, rfl, rfl, by decide +kernel, rfl, by decide +kernel, by decide +kernel⟩
theorem ok_l_cell {f : Addr} {fd : FuncData} (F : Fun K "_law_cell" "_law_cell" s_l_cell f fd) (T : Txt mg) : FnOk P w K mg base CX0 1 f fd ["_law_script", "_law_k"] (spCell K) := by
  refine F.ok sc_l_cell (fun vs H Q E h => ?_) (fun cdv A outer s H vs Q E hr h => ?_)
  · obtain ⟨a, ns, k, rfl, _⟩ := h; rfl
  · obtain ⟨a, ns, k, rfl, hS, hlen, hk, q⟩ := h
    refine ⟨_, (pss_cons (ps_if (pt_cmpR (k_eq0 K hr.units0) (pv 0) (as_lst as_nil) (nomark _)) (pss_one (ps_ret (pe_op op_mul pe_int (pv 1)))) pss_nil)
      (pss_one (ps_ret (pe_op op_add (pe_ix (k_ix_list K) (pv 0) (pe_op op_mod (pv 1) (as_callB (k_len_seq K) (by rfl) T.b_len PySem.boot_len (at_cons (pv 0) as_nil))) (fun _ _ => rfl)) (pe_op op_mul pe_int (pe_op op_fdiv (pv 1) (as_callB (k_len_seq K) (by rfl) T.b_len PySem.boot_len (at_cons (pv 0) as_nil)))))))), ?_⟩
    refine ⟨_, rfl, by decide, fun p hp => ?_⟩
    have s1 : Same H (upd H p (.lst [])) := Same.new hp
    refine ⟨a, p, _, rfl, rfl, s1.seq hS, SqL.ofL upd_same, _, rfl, ?_⟩
    refine ite2 (fun he => ?_) (fun he => ?_)
    · have e : ns = [] := by simpa using he
      refine ⟨_, rfl, _, _, rfl, rfl, .inl ⟨by decide, by decide⟩, ?_⟩
      have z := q _ s1
      unfold cellF at z
      rw [if_pos e] at z
      exact z
    · have e : ns ≠ [] := by simpa using he
      have hl : 0 < ns.length := List.length_pos_iff.mpr e
      refine ⟨_, rfl, _, rfl, _, rfl, a, _, rfl, .inl (s1.seq hS), _, _, rfl, rfl, ?_, ?_⟩
      · show (0 : Int) < ((ns.map V.int).length : Int)
        rw [List.length_map]; omega
      · have hlt : (k % (ns.length : Int)).toNat < ns.length := by
          have h1 := Int.emod_nonneg k (b := (ns.length : Int)) (by omega)
          have h2 := Int.emod_lt_of_pos k (b := (ns.length : Int)) (by omega)
          omega
        have hi : atI (ns.map V.int) (k % ((ns.map V.int).length : Int)) = some (V.int (ns.getD (k % (ns.length : Int)).toNat 0)) := by
          rw [List.length_map]
          have h1 := Int.emod_nonneg k (b := (ns.length : Int)) (by omega)
          have e2 : k % (ns.length : Int) = ((k % (ns.length : Int)).toNat : Int) := by omega
          rw [e2]
          refine atI_nat ?_
          rw [Int.toNat_natCast, List.getElem?_map, List.getElem?_eq_getElem hlt]
          simp [List.getD, List.getElem?_eq_getElem hlt]
        refine ⟨a, _, _, _, rfl, rfl, s1.seq hS, hi, _, rfl, _, rfl, a, _, rfl, .inl (s1.seq hS), _, _, rfl, rfl, ?_, _, _, rfl, rfl, .inl ⟨by decide, by decide⟩, _, _, rfl, rfl, ?_⟩
        · show (0 : Int) < ((ns.map V.int).length : Int) ∧ ((ns.map V.int).length : Int) < 1073741824
          rw [List.length_map]; omega
        · have z := q _ s1
          unfold cellF at z
          rw [if_neg e] at z
          show Q (.int (ns.getD (k % (ns.length : Int)).toNat 0 + 6553 * (k / ((ns.map V.int).length : Int)))) _
          rw [List.length_map]
          exact z
abbrev s_l_drawn : Stmt := top 17
abbrev N_l_drawn : List Str := ["_law_script", "_law_k", "_law_many", "_law_cell_here"]
theorem sc_l_drawn : FnScope N_l_drawn ["_law_script", "_law_k", "_law_many"] (defScope s_l_drawn) := ⟨rfl, rfl, rfl, by decide +kernel, rfl, by decide +kernel, by decide +kernel⟩
theorem ok_l_drawn {f : Addr} {fd : FuncData} (F : Fun K "_law_drawn" "_law_drawn" s_l_drawn f fd) (T : Txt mg) (c_l_cell : Callee P w K mg base 1 "_law_cell" ["_law_script", "_law_k"] (spCell K)) :
    FnOk P w K mg base CX0 2 f fd ["_law_script", "_law_k", "_law_many"] (spDrawn K) := by
  refine F.ok sc_l_drawn (fun vs H Q E h => ?_) (fun cdv A outer s H vs Q E hr h => ?_)
  · obtain ⟨a, ns, k, m, rfl, _⟩ := h; rfl
  · obtain ⟨a, ns, k, m, rfl, hS, hlen, hk, hm, q⟩ := h
    refine ⟨_, (pss_cons (ps_set (i := 3) sc_l_drawn.nd rfl (Or.inl rfl) (pe_op op_mod (pe_op op_add (pe_op op_mul (pe_op op_mod (as_fn c_l_cell (hr.mono (by decide)) (at_cons (pv 0) (as_cons (pv 1) as_nil))) pe_int) pe_int) (pe_op op_mul pe_int (pe_op op_add (pv 1) pe_int))) pe_int))
      (pss_cons (ps_set (i := 3) sc_l_drawn.nd rfl (Or.inl rfl) (pe_op op_mod (pe_op op_add (pe_op op_mul (pv 3) (pv 3)) (pe_op op_fdiv (pv 3) pe_int)) pe_int))
      (pss_one (ps_ret (pe_op op_mod (pe_op op_fdiv (pe_op op_mod (pe_op op_add (pe_op op_mul (pv 3) (pv 3)) (pe_op op_fdiv (pv 3) pe_int)) pe_int) pe_int) (pv 2)))))), ?_⟩
    refine ⟨_, rfl, _, rfl, a, ns, k, rfl, hS, hlen, hk, fun H1 s1 => ?_⟩
    have b1 : ∀ x : Int, 0 ≤ x % 2147483563 ∧ x % 2147483563 < 2147483563 := fun x => ⟨Int.emod_nonneg _ (by decide), Int.emod_lt_of_pos _ (by decide)⟩
    have b2 : ∀ x : Int, 0 ≤ x % 2147483399 ∧ x % 2147483399 < 2147483399 := fun x => ⟨Int.emod_nonneg _ (by decide), Int.emod_lt_of_pos _ (by decide)⟩
    refine ⟨_, _, rfl, rfl, (by decide : (0 : Int) < 2147483563), _, _, rfl, rfl, .inr ⟨by decide, by decide⟩, _, rfl, _, _, rfl, rfl, _, _, rfl, rfl, .inl ⟨by decide, by decide⟩, _, _, rfl, rfl, _, _, rfl, rfl, (by decide : (0 : Int) < 2147483563), ?_⟩
    have c1 := b1 (cellF ns k % 2147483563 * 69069 + 104723 * (k + 1))
    refine ⟨_, rfl, _, rfl, _, _, rfl, rfl, .inl ⟨?_, ?_⟩, _, rfl, _, _, rfl, rfl, ⟨by decide, by decide⟩, _, _, rfl, rfl, _, _, rfl, rfl, (by decide : (0 : Int) < 2147483399), ?_⟩
    · exact Int.lt_of_lt_of_le (by decide) c1.1
    · exact Int.lt_trans c1.2 (by decide)
    have c2 := b2 (draw1 (cellF ns k) k * draw1 (cellF ns k) k + draw1 (cellF ns k) k / 3)
    refine ⟨_, rfl, _, rfl, _, _, rfl, rfl, .inl ⟨?_, ?_⟩, _, rfl, _, _, rfl, rfl, ⟨by decide, by decide⟩, _, _, rfl, rfl, _, _, rfl, rfl, (by decide : (0 : Int) < 2147483647), _, _, rfl, rfl, ⟨by decide, by decide⟩, _, rfl, _, _, rfl, rfl, hm, ?_⟩
    · exact Int.lt_of_lt_of_le (by decide) c2.1
    · exact Int.lt_trans c2.2 (by decide)
    exact q H1 s1
end

section
variable {P : Program} {w : World} {K : PySem.W.Frag} {mg : Str → Option Value} {base : Heap}
abbrev s_number_of : Stmt := top 8
abbrev N_number_of : List Str := ["message"]
theorem sc_number_of : FnScope N_number_of ["message"] (defScope s_number_of) := ⟨rfl, rfl, rfl, by decide +kernel, rfl, by decide +kernel, by decide +kernel⟩
theorem ok_number_of {f : Addr} {fd : FuncData} (F : Fun K "number_of" "number_of" s_number_of f fd) : FnOk P w K mg base CX0 1 f fd ["message"] (spItem 0) := by
  refine F.ok sc_number_of (fun vs H Q E h => ?_) (fun cdv A outer s H vs Q E hr h => ?_)
  · obtain ⟨a, x, y, z, rfl, _⟩ := h; rfl
  · obtain ⟨a, x, y, z, rfl, h1, q⟩ := h
    refine ⟨_, (pss_one (ps_ret (pe_ix (k_ix_tup K) (pv 0) pe_int (fun _ _ => rfl)))), ?_⟩
    exact ⟨_, rfl, a, _, 0, x, rfl, rfl, SqT.ofT h1, rfl, q⟩

abbrev s_topic_of : Stmt := top 9
abbrev N_topic_of : List Str := ["message"]
theorem sc_topic_of : FnScope N_topic_of ["message"] (defScope s_topic_of) := ⟨rfl, rfl, rfl, by decide +kernel, rfl, by decide +kernel, by decide +kernel⟩
theorem ok_topic_of {f : Addr} {fd : FuncData} (F : Fun K "topic_of" "topic_of" s_topic_of f fd) : FnOk P w K mg base CX0 1 f fd ["message"] (spItem 1) := by
  refine F.ok sc_topic_of (fun vs H Q E h => ?_) (fun cdv A outer s H vs Q E hr h => ?_)
  · obtain ⟨a, x, y, z, rfl, _⟩ := h; rfl
  · obtain ⟨a, x, y, z, rfl, h1, q⟩ := h
    refine ⟨_, (pss_one (ps_ret (pe_ix (k_ix_tup K) (pv 0) pe_int (fun _ _ => rfl)))), ?_⟩
    exact ⟨_, rfl, a, _, 1, y, rfl, rfl, SqT.ofT h1, rfl, q⟩

abbrev s_text_of : Stmt := top 10
abbrev N_text_of : List Str := ["message"]
theorem sc_text_of : FnScope N_text_of ["message"] (defScope s_text_of) := ⟨rfl, rfl, rfl, by decide +kernel, rfl, by decide +kernel, by decide +kernel⟩
theorem ok_text_of {f : Addr} {fd : FuncData} (F : Fun K "text_of" "text_of" s_text_of f fd) : FnOk P w K mg base CX0 1 f fd ["message"] (spItem 2) := by
  refine F.ok sc_text_of (fun vs H Q E h => ?_) (fun cdv A outer s H vs Q E hr h => ?_)
  · obtain ⟨a, x, y, z, rfl, _⟩ := h; rfl
  · obtain ⟨a, x, y, z, rfl, h1, q⟩ := h
    refine ⟨_, (pss_one (ps_ret (pe_ix (k_ix_tup K) (pv 0) pe_int (fun _ _ => rfl)))), ?_⟩
    exact ⟨_, rfl, a, _, 2, z, rfl, rfl, SqT.ofT h1, rfl, q⟩

theorem no_h {C : Addr} {H : Hp} {a : HA} {s : HS} {ex : List (Str × V)} (h : HAt C H a s ex) {nx : Int} {f : Str} (hf : f = "expects" ∨ f = "take" ∨ f = "take_all" ∨ f = "refuse_others" ∨ f = "hear_held" ∨ f = "heard" ∨ f = "early" ∨ f = "missing" ∨ f = "lost" ∨ f = "give_up" ∨ f = "state") : (hF nx a.q a.h a.k a.g ex).lookup f = none := by
  rcases hf with rfl | rfl | rfl | rfl | rfl | rfl | rfl | rfl | rfl | rfl | rfl <;> exact (hF_no (by decide +kernel) (by decide +kernel) (by decide +kernel) (by decide +kernel) (by decide +kernel)).trans (h.exn _ (by decide +kernel))
abbrev s_Hearer___init__ : Stmt := inClass (top 12) 0
abbrev N_Hearer___init__ : List Str := ["self"]
theorem sc_Hearer___init__ : FnScope N_Hearer___init__ ["self"] (defScope s_Hearer___init__) := ⟨rfl, rfl, rfl, by decide +kernel, rfl, by decide +kernel, by decide +kernel⟩
theorem ok_Hearer_init {f C : Addr} {fd : FuncData} (F : Fun K "__init__" "Hearer.__init__" s_Hearer___init__ f fd) (TC : HearC K C) : FnOk P w K mg base CX0 1 f fd ["self"] (spInitH C) := by
  refine F.ok sc_Hearer___init__ (fun vs H Q E h => ?_) (fun cdv A outer s H vs Q E hr h => ?_)
  · obtain ⟨p, dx, rfl, _⟩ := h; rfl
  · obtain ⟨p, dx, rfl, hp, qq⟩ := h
    refine ⟨_, (pss_cons (k_sfld K (pv 0) pe_int rfl)
      (pss_cons (k_sfld K (pv 0) (as_lst as_nil) rfl)
      (pss_cons (k_sfld K (pv 0) pe_dnewK rfl)
      (pss_cons (k_sfld K (pv 0) pe_dnewK rfl)
      (pss_one (k_sfld K (pv 0) (as_lst as_nil) rfl)))))), ?_⟩
    have l0 : ([] : List (Str × V)).length = 0 := rfl
    have l1 := putF_len "next_number" (.int 1) []
    refine ⟨_, rfl, p, C, dx, [], rfl, hp, TC.cl_Hearer, TC.n_next_number, (by show 0 < 1000; decide), ?_⟩
    refine ⟨Nat.zero_le _, fun q hq => ?_⟩
    have npq : p ≠ q := ne_of_none upd_same hq
    refine ⟨_, rfl, p, C, dx, _, rfl, (by rw [upd_ne npq]; exact upd_same), TC.cl_Hearer, TC.n_past, by omega, ?_⟩
    have l2 := putF_len "past" (.ref q) (putF "next_number" (.int 1) [])
    intro h hh
    have nph : p ≠ h := ne_of_none upd_same hh
    have nqh : q ≠ h := fun e => by rw [← e, upd_ne npq.symm, upd_same] at hh; cases hh
    refine ⟨_, rfl, p, C, dx, _, rfl, (by rw [upd_ne nph]; exact upd_same), TC.cl_Hearer, TC.n_held, by omega, ?_⟩
    have l3 := putF_len "held" (.ref h) (putF "past" (.ref q) (putF "next_number" (.int 1) []))
    intro k hk
    have npk : p ≠ k := ne_of_none upd_same hk
    have nhk : h ≠ k := fun e => by rw [← e, upd_ne nph.symm, upd_same] at hk; cases hk
    have nqk : q ≠ k := fun e => by rw [← e, upd_ne npq.symm, upd_ne nqh, upd_ne npq.symm, upd_same] at hk; cases hk
    refine ⟨_, rfl, p, C, dx, _, rfl, (by rw [upd_ne npk]; exact upd_same), TC.cl_Hearer, TC.n_known, by omega, ?_⟩
    have l4 := putF_len "known" (.ref k) (putF "held" (.ref h) (putF "past" (.ref q) (putF "next_number" (.int 1) [])))
    refine ⟨Nat.zero_le _, fun g hg => ?_⟩
    have npg : p ≠ g := ne_of_none upd_same hg
    have nkg : k ≠ g := fun e => by rw [← e, upd_ne npk.symm, upd_same] at hg; cases hg
    have nhg : h ≠ g := fun e => by rw [← e, upd_ne nph.symm, upd_ne nhk, upd_ne nph.symm, upd_same] at hg; cases hg
    have nqg : q ≠ g := fun e => by rw [← e, upd_ne npq.symm, upd_ne nqk, upd_ne npq.symm, upd_ne nqh, upd_ne npq.symm, upd_same] at hg; cases hg
    refine ⟨_, rfl, p, C, dx, _, rfl, (by rw [upd_ne npg]; exact upd_same), TC.cl_Hearer, TC.n_given_up, by omega, ?_⟩
    rw [hF_make]
    have q0 : H q = none := by rw [upd_ne npq.symm] at hq; exact hq
    have h0 : H h = none := by rw [upd_ne nph.symm, upd_ne nqh.symm, upd_ne nph.symm] at hh; exact hh
    have k0 : H k = none := by rw [upd_ne npk.symm, upd_ne nhk.symm, upd_ne npk.symm, upd_ne nqk.symm, upd_ne npk.symm] at hk; exact hk
    have g0 : H g = none := by rw [upd_ne npg.symm, upd_ne nkg.symm, upd_ne npg.symm, upd_ne nhg.symm, upd_ne npg.symm, upd_ne nqg.symm, upd_ne npg.symm] at hg; exact hg
    refine qq ⟨p, q, h, k, g⟩ _ rfl ⟨⟨dx, upd_same⟩, ⟨[], ?_, Ms.nil⟩, ⟨[], ?_, .nil⟩, ⟨[], [], ?_, .nil, List.nodup_nil, Nat.le_refl _, (fun m => by simp [hs0])⟩, ?_, nqg, nhk, fun _ _ => rfl, by decide⟩ ⟨fun b o e hb => ?_, fun b xs e => ?_, fun c hc => ?_⟩
    · show upd _ _ _ q = _; rw [upd_ne npq.symm, upd_ne nqg, upd_ne npq.symm, upd_ne nqk, upd_ne npq.symm, upd_ne nqh, upd_ne npq.symm, upd_same]
    · show upd _ _ _ h = _; rw [upd_ne nph.symm, upd_ne nhg, upd_ne nph.symm, upd_ne nhk, upd_ne nph.symm, upd_same]
    · show upd _ _ _ k = _; rw [upd_ne npk.symm, upd_ne nkg, upd_ne npk.symm, upd_same]
    · show upd _ _ _ g = _; rw [upd_ne npg.symm, upd_same]; rfl
    · have hb' : b ≠ p := by simpa using hb
      rw [upd_ne hb', upd_ne (ne_of_none e g0), upd_ne hb', upd_ne (ne_of_none e k0), upd_ne hb', upd_ne (ne_of_none e h0), upd_ne hb', upd_ne (ne_of_none e q0), upd_ne hb']; exact e
    · have hb' : b ≠ p := ne_of e hp (by intro z; cases z)
      rw [upd_ne hb', upd_ne (ne_of_none e g0), upd_ne hb', upd_ne (ne_of_none e k0), upd_ne hb', upd_ne (ne_of_none e h0), upd_ne hb', upd_ne (ne_of_none e q0), upd_ne hb']; exact e
    · simp only [HA.fp, List.mem_cons, List.not_mem_nil, or_false] at hc
      rcases hc with rfl | rfl | rfl | rfl | rfl
      · exact .inl (by simp)
      · exact .inr q0
      · exact .inr h0
      · exact .inr k0
      · exact .inr g0
abbrev s_Hearer_expects : Stmt := inClass (top 12) 1
abbrev N_Hearer_expects : List Str := ["self"]
theorem sc_Hearer_expects : FnScope N_Hearer_expects ["self"] (defScope s_Hearer_expects) := ⟨rfl, rfl, rfl, by decide +kernel, rfl, by decide +kernel, by decide +kernel⟩
theorem ok_Hearer_expects {f C : Addr} {fd : FuncData} (F : Fun K "expects" "Hearer.expects" s_Hearer_expects f fd) (TC : HearC K C) : FnOk P w K mg base CX0 1 f fd ["self"] (spExpects C) := by
  refine F.ok sc_Hearer_expects (fun vs H Q E h => ?_) (fun cdv A outer s0 H vs Q E hr h => ?_)
  · obtain ⟨a, s, ex, rfl, _⟩ := h; rfl
  · obtain ⟨a, s, ex, rfl, hA, q⟩ := h
    refine ⟨_, (pss_one (ps_ret (k_fld K (pv 0) rfl))), ?_⟩
    obtain ⟨dx, h1⟩ := hA.ob
    exact ⟨_, rfl, a.p, C, dx, _, _, rfl, h1, TC.cl_Hearer, TC.n_next_number, hF_next, q⟩
abbrev s_Hearer_hear_held : Stmt := inClass (top 12) 5
abbrev N_Hearer_hear_held : List Str := ["self", "heard"]
theorem sc_Hearer_hear_held : FnScope N_Hearer_hear_held ["self"] (defScope s_Hearer_hear_held) := ⟨rfl, rfl, rfl, by decide +kernel, rfl, by decide +kernel, by decide +kernel⟩
theorem hear_mem {s : HS} (d : Diff s.held) : Diff (hearS s).held ∧ (hearS s).heard.length + (hearS s).held.length = s.heard.length + s.held.length ∧ ∀ m, (m ∈ (hearS s).heard ∨ m ∈ (hearS s).held) ↔ (m ∈ s.heard ∨ m ∈ s.held) := by
  refine (hearS_ind (P := fun t => Diff t.held ∧ t.heard.length + t.held.length = s.heard.length + s.held.length ∧ ∀ m, (m ∈ t.heard ∨ m ∈ t.held) ↔ (m ∈ s.heard ∨ m ∈ s.held)) ?_ s ⟨d, rfl, fun _ => Iff.rfl⟩).1
  rintro t m ⟨h1, h2, h3⟩ e
  obtain ⟨hm, hn⟩ := findN_some e
  refine ⟨dropN_diff h1, ?_, fun x => ?_⟩
  · have := dropN_len h1 hm
    show (t.heard ++ [m]).length + (dropN t.held m.n).length = _
    rw [List.length_append, List.length_singleton]; omega
  · rw [← h3 x]
    show (x ∈ t.heard ++ [m] ∨ x ∈ dropN t.held m.n) ↔ _
    rw [List.mem_append, List.mem_singleton, dropN_mem]
    constructor
    · rintro ((z | rfl) | ⟨z, _⟩)
      · exact .inl z
      · exact .inr hm
      · exact .inr z
    · rintro (z | z)
      · exact .inl (.inl z)
      · by_cases ee : x.n = m.n
        · exact .inl (.inr (h1.eq z hm ee))
        · exact .inr ⟨z, ee⟩
theorem ok_Hearer_hear_held {f C : Addr} {fd : FuncData} (F : Fun K "hear_held" "Hearer.hear_held" s_Hearer_hear_held f fd) (TC : HearC K C) : FnOk P w K mg base CX0 1 f fd ["self"] (spHear C) := by
  refine F.ok sc_Hearer_hear_held (fun vs H Q E h => ?_) (fun cdv A outer s0 H vs Q E hr h => ?_)
  · obtain ⟨a, s, ex, rfl, _⟩ := h; rfl
  · obtain ⟨a, s, ex, rfl, hA, hd, hsm, q⟩ := h
    refine ⟨_, (pss_cons (ps_set (i := 1) sc_Hearer_hear_held.nd rfl (Or.inl rfl) (as_lst as_nil))
      (pss_cons (ps_while PassesOwn.never (pt_cmp (pc_din (hu_of hr) (k_fld K (pv 0) rfl) (k_fld K (pv 0) rfl))) (pss_cons (ps_expr (k_bm K PySem.F.plainAttrs_list PySem.F.slot_list_append PySem.F.type_list_append mt_append (pv 1) (pa_cons (pe_dpop1 (k_fld K (pv 0) rfl) (k_fld K (pv 0) rfl) ⟨rfl, rfl, rfl, rfl⟩) pa_nil)))
      (pss_one (k_sfld K (pv 0) (pe_op op_add (k_fld K (pv 0) rfl) pe_int) rfl))))
      (pss_cons (ps_expr (k_bm K PySem.F.plainAttrs_list PySem.F.slot_list_extend PySem.F.type_list_extend mt_extend (k_fld K (pv 0) rfl) (pa_cons (pv 1) pa_nil)))
      (pss_one (ps_ret (pv 1)))))), ?_⟩
    obtain ⟨npq, nph, npk, npg, nqh, nqk, nqg, nhk, nhg, nkg⟩ := hA.apart
    obtain ⟨⟨dx, h1⟩, ⟨yq, h2, m2⟩, ⟨kh, h3, d3⟩, hkn, h5, _, _, hex, hexl⟩ := id hA
    obtain ⟨hD, hL, hM⟩ := hear_mem hd
    unfold HS.small at hsm
    refine ⟨Nat.zero_le _, fun l hl0 => ?_⟩
    have nl : l ∉ a.fp := hA.free hl0
    have nl' : l ≠ a.p ∧ l ≠ a.q ∧ l ≠ a.h ∧ l ≠ a.k ∧ l ≠ a.g := by simpa [HA.fp] using nl
    have s1 := Same.new (o := .lst []) hl0
    let W : Nat → St → Hp → Prop := fun m σ H' => ∃ (t : HS) (found : List Msg) (fs : List V) (kv : List (Key × V)), m = t.held.length ∧ σ = [some (.ref a.p), some (.ref l)] ∧ hearS t = hearS s ∧ t.heard = s.heard ++ found ∧ t.lost = s.lost ∧ t.heard.length + t.held.length = s.heard.length + s.held.length ∧
      H' a.p = some (.ins C dx (hF t.next a.q a.h a.k a.g ex)) ∧ H' a.h = some (.dK kv) ∧ DI H' kv t.held ∧ H' l = some (.lst fs) ∧ Ms H' fs found ∧ Diff t.held ∧ Stp [l, a.p, a.h] (upd H l (.lst [])) [l, a.p, a.h] H'
    refine ⟨W, ?_, ?_⟩
    · exact ⟨_, s, [], [], kh, rfl, rfl, rfl, (List.append_nil _).symm, rfl, rfl, s1 _ _ h1, s1 _ _ h3, d3.same s1, upd_same, Ms.nil, hd, Stp.refl _ _⟩
    · rintro m σ H' ⟨t, found, fs, kv, rfl, rfl, et, eh, el, esz, g1, g3, gd, gl, gm, gdf, st⟩
      refine ⟨_, rfl, a.p, C, dx, _, _, rfl, g1, TC.cl_Hearer, TC.n_next_number, hF_next, _, rfl, a.p, C, dx, _, _, rfl, g1, TC.cl_Hearer, TC.n_held, hF_held, a.h, _, rfl, DGet.k (k := Sum.inl t.next) g3, _, rfl, ?_⟩
      have lfs := gm.len
      have lfo : found.length ≤ 3000 := by have := congrArg List.length eh; rw [List.length_append] at this; omega
      cases e : findN t.held t.next with
      | none =>
        rw [gd.none _ e]
        refine iteF ?_
        have eS : hearS s = t := by rw [← et]; exact hearS_none e
        -- self.past.extend(heard)
        have g2 := st.keep (s1 _ _ h2) (by simp [nl'.2.1.symm, npq.symm, nqh])
        have g5 := st.keep (s1 _ _ h5) (by simp [nl'.2.2.2.2.symm, npg.symm, nhg.symm])
        obtain ⟨kvk, mk, hk1, hk2, hk3, hk4, hk5⟩ := hkn
        have g4 := st.keep (s1 _ _ hk1) (by simp [nl'.2.2.2.1.symm, npk.symm, nhk.symm])
        have m2' := (m2.same s1).step st
        have lyq := m2.len
        refine ⟨_, rfl, a.p, C, dx, _, _, rfl, g1, TC.cl_Hearer, TC.n_past, hF_past, .inl ⟨rfl, _, SqL.ofL g2⟩, _, rfl, a.q, l, yq, fs, rfl, rfl, g2, gl, by rw [sizeLine_eq]; omega, ?_⟩
        have sq := Stp.put (ps := [a.q]) (o := .lst (yq ++ fs)) g2 (fun _ z => by cases z) (by simp)
        refine ⟨_, rfl, ?_⟩
        rw [eS] at q hM hL
        have st' : Stp a.fp H (l :: a.fp) _ := ((Stp.make (ps := a.fp) (o := .lst []) hl0).trans (st.weak (qs := l :: a.fp) (by simp [HA.fp]) (by intro c hc; exact .inr hc))).trans (sq.weak (qs := l :: a.fp) (by simp [HA.fp]) (by intro c hc; exact .inr hc))
        refine q l fs found _ ⟨⟨dx, sq.keep g1 (by simp [npq])⟩, ⟨_, upd_same, ?_⟩, ⟨kv, sq.keep g3 (by simp [nqh.symm]), gd.tups sq.tup⟩, ⟨kvk, mk, sq.keep g4 (by simp [nqk.symm]), ((hk2.same s1).tups st.tup).tups sq.tup, hk3, by omega, fun m => (hk5 m).trans (hM m).symm⟩, ?_, nqg, nhk, hex, hexl⟩ eh st' hl0 nl (sq.keep gl (by simp [nl'.2.1])) (gm.step sq)
        · rw [eh]; exact (m2'.step sq).append (gm.step sq)
        · rw [el]; exact sq.keep g5 (by simp [nqg.symm])
      | some m =>
        obtain ⟨c, hv, hc⟩ := gd.some _ e
        obtain ⟨hmm, hmn⟩ := findN_some e
        rw [hv]
        refine iteT ?_
        refine ⟨fun σ' H2 => ∃ m', m' < t.held.length ∧ W m' σ' H2, fun _ _ z => z, ?body⟩
        case body =>
          -- heard.append(self.held.pop(..))
          refine ⟨_, rfl, .inl ⟨rfl, _, SqL.ofL gl⟩, _, rfl, a.p, C, dx, _, _, rfl, g1, TC.cl_Hearer, TC.n_held, hF_held, a.h, rfl, .inl ⟨kv, .inl g3⟩, _, rfl, a.p, C, dx, _, _, rfl, g1, TC.cl_Hearer, TC.n_next_number, hF_next, kv, Sum.inl t.next, .ref c, g3, rfl, hv, ?_⟩
          have sa := Stp.put (ps := [a.h]) (o := .dK (dropK kv (Sum.inl t.next))) g3 (fun _ z => by cases z) (by simp)
          have gl1 := sa.keep gl (by simp [nl'.2.2.1])
          refine ⟨l, fs, .ref c, rfl, rfl, gl1, by rw [sizeLine_eq]; omega, ?_⟩
          have sb := Stp.put (ps := [l]) (o := .lst (fs ++ [.ref c])) gl1 (fun _ z => by cases z) (by simp)
          have g1b := sb.keep (sa.keep g1 (by simp [nph])) (by simp [nl'.1.symm])
          -- self.next_number
          refine ⟨_, rfl, a.p, C, dx, _, _, rfl, g1b, TC.cl_Hearer, TC.n_next_number, hF_next, _, _, rfl, rfl, _, rfl, a.p, C, dx, _, rfl, g1b, TC.cl_Hearer, TC.n_next_number, ?_, ?_⟩
          · exact hF_len hexl
          rw [hF_setNext]
          have sc := Stp.put (ps := [a.p]) (o := .ins C dx (hF (t.next + 1) a.q a.h a.k a.g ex)) g1b (fun _ z => by cases z) (by simp)
          have dl := dropN_len gdf hmm
          exact ⟨_, dropN_lt hmm, ⟨t.heard ++ [m], dropN t.held m.n, t.lost⟩, found ++ [m], fs ++ [.ref c], dropK kv (Sum.inl t.next), rfl, rfl, by rw [← hearS_some e]; exact et, by rw [eh, List.append_assoc], el, by show (t.heard ++ [m]).length + (dropN t.held m.n).length = _; rw [List.length_append, List.length_singleton]; omega,
            by rw [next_snoc]; exact upd_same, sc.keep (sb.keep upd_same (by simp [nl'.2.2.1.symm])) (by simp [nph.symm]), by rw [hmn]; exact ((gd.drop t.next).tups sa.tup).tups (sb.tup.trans sc.tup), sc.keep upd_same (by simp [nl'.1]), (((gm.step sa).step sb).append (Ms.one (sb.tup _ _ (sa.tup _ _ hc)))).step sc, dropN_diff gdf,
            st.trans ((sa.up (by simp)).trans ((sb.up (by simp)).trans (sc.up (by simp))))⟩

abbrev s_Hearer_refuse_others : Stmt := inClass (top 12) 4
abbrev N_Hearer_refuse_others : List Str := ["self", "messages", "fresh", "message", "number"]
theorem sc_Hearer_refuse_others : FnScope N_Hearer_refuse_others ["self", "messages"] (defScope s_Hearer_refuse_others) := ⟨rfl, rfl, rfl, by decide +kernel, rfl, by decide +kernel, by decide +kernel⟩
theorem okx_Hearer_refuse_others {f C CO : Addr} {fd : FuncData} (F : Fun K "refuse_others" "Hearer.refuse_others" s_Hearer_refuse_others f fd) (TC : HearC K C) (x_Other : Exc K mg "Other" CO) (c_number_of : Callee P w K mg base 1 "number_of" ["message"] (spItem 0)) : FnOk P w K mg base (CXF P w) 2 f fd ["self", "messages"] (spRefuseX C CO) := by
  refine F.okX sc_Hearer_refuse_others (fun vs H Q E h => ?_) (fun cdv A outer s0 H vs Q E hr h => ?_)
  · obtain ⟨a, s, ex, b, xs, ms, rfl, _⟩ := h; rfl
  · obtain ⟨a, s, ex, b, xs, ms, rfl, hA, hb, hm, hml, hok, hokH, qq⟩ := h
    refine ⟨_, (pss_cons (ps_set (i := 2) sc_Hearer_refuse_others.nd rfl (Or.inl rfl) pe_dnewK)
      (pss_one (ps_for PassesOwn.leaving rfl (k_it_list K (pv 1)) (pg_name (i := 3) sc_Hearer_refuse_others.nd rfl (Or.inl rfl)) (pss_cons (ps_set (i := 4) sc_Hearer_refuse_others.nd rfl (Or.inl rfl) (as_fn c_number_of (hr.mono (by decide)) (at_cons (pv 3) as_nil)))
      (pss_cons (ps_if (pt_cmpR (op_neD hr.units) (pe_dget2 (hu_of hr) (k_fld K (pv 0) rfl) (pv 4) (pe_dget2 (hu_of hr) (pv 2) (pv 4) (pv 3) ⟨rfl, rfl, rfl, rfl⟩) ⟨rfl, rfl, rfl, rfl⟩) (pv 3) (nomark _)) (pss_one (ps_raise x_Other (at_cons pe_str as_nil))) pss_nil)
      (pss_one (ps_if (pt_cmpR op_ge (pv 4) (k_fld K (pv 0) rfl) (nomark _)) (pss_one (ps_dput (hu_of hr) (pv 2) (pv 4) (pv 3) rfl)) pss_nil))))))), ?_⟩
    intro f0 hf0
    have s1 := Same.new (o := .dK []) hf0
    have hxl := hm.len
    rcases qq with ⟨hfit, q⟩ | ⟨m, rfl, ⟨x, hx, hxn, hxm⟩, q⟩
    case inr =>
      have hx1 : xs.length = 1 := hxl
      refine ⟨_, rfl, b, rfl, ⟨xs, SqL.ofL (s1 _ _ hb)⟩, for_list (K := K) (a := b) (xs := xs) (fun i σ H' => i = 0 ∧ σ = [some (.ref a.p), some (.ref b), some (.ref f0), none, none] ∧ H' f0 = some (.dK []) ∧ Same H H') ⟨rfl, rfl, upd_same, s1⟩ (fun i σ H' _ ⟨_, _, _, sH⟩ => SqL.ofL (sH _ _ hb)) ?_ ?_⟩
      · rintro i y σ H' hi ⟨rfl, rfl, hf, sH⟩
        obtain ⟨c, ec, hc0⟩ := (hm.same sH).get (i := 0) (show 0 < 1 by decide)
        have hc : H' c = some (mT m) := hc0
        rw [hi] at ec
        obtain rfl := Option.some.inj ec
        refine rd_name ?_
        obtain ⟨⟨dx, h1⟩, _, _, ⟨kvk, mk, hk1, hk2, hk3, hk4, hk5⟩, _, _, _, _, _⟩ := hA.same sH
        refine ⟨_, rfl, c, _, _, _, rfl, hc, ?_⟩
        have efx : findN mk m.n = some x := by rw [← hxn]; exact findN_mem hk3 ((hk5 x).mpr hx)
        obtain ⟨c', hv, hc'⟩ := hk2.some _ efx
        refine ⟨_, rfl, a.p, C, dx, _, _, rfl, h1, TC.cl_Hearer, TC.n_known, hF_known, a.k, rfl, .inl ⟨kvk, .inl hk1⟩, _, rfl, _, rfl, f0, rfl, .inl ⟨[], .inl hf⟩, _, rfl, _, rfl, _, DGet.k (k := Sum.inl m.n) hf, _, DGet.k (k := Sum.inl m.n) hk1, ?_⟩
        rw [hv]
        refine ⟨_, rfl, _, _, msg_has hc', msg_has hc, shaped_m (hokH x hx), shaped_m (hok m (by simp)), _, rfl, ?_⟩
        rw [eqv_m, decide_eq_false hxm]
        exact iteT ⟨(show 1 ≤ sizeLine by decide), q _ sH⟩
      · rintro σ H' ⟨h0, _⟩
        omega
    case inl =>
      refine ⟨_, rfl, b, rfl, ⟨xs, SqL.ofL (s1 _ _ hb)⟩, for_list (K := K) (a := b) (xs := xs) (fun i σ H' => ∃ (o3 o4 : Option V) (kv : List (Key × V)) (fr : List Msg), σ = [some (.ref a.p), some (.ref b), some (.ref f0), o3, o4] ∧ H' f0 = some (.dK kv) ∧ DI H' kv fr ∧ fr.length ≤ i ∧ (∀ x ∈ fr, x ∈ ms) ∧ Same H H')
        ⟨none, none, [], [], rfl, upd_same, .nil, Nat.le_refl _, (fun _ z => nomatch z), s1⟩ (fun i σ H' _ ⟨_, _, _, _, _, _, _, _, _, sH⟩ => SqL.ofL (sH _ _ hb)) ?_ ?_⟩
      · rintro i y σ H' hi ⟨o3, o4, kv, fr, rfl, hf, dF, hfl, hfm, sH⟩
        have hil : i < ms.length := by rw [← hxl]; exact (List.getElem?_eq_some_iff.mp hi).1
        obtain ⟨c, ec, hc⟩ := (hm.same sH).get hil
        rw [hi] at ec
        obtain rfl := Option.some.inj ec
        have hmem := List.getElem_mem hil
        generalize ms[i] = m at hc hmem
        refine rd_name ?_
        obtain ⟨⟨dx, h1⟩, _, _, ⟨kvk, mk, hk1, hk2, hk3, hk4, hk5⟩, _, _, _, _, _⟩ := hA.same sH
        refine ⟨_, rfl, c, _, _, _, rfl, hc, ?_⟩
        -- what is known of its number is it
        have hv : ∃ c', (valV kvk (Sum.inl m.n)).getD ((valV kv (Sum.inl m.n)).getD (.ref c)) = .ref c' ∧ H' c' = some (mT m) := by
          cases e : findN mk m.n with
          | some x =>
            obtain ⟨c', h1, h2⟩ := hk2.some _ e
            obtain ⟨hx, hn⟩ := findN_some e
            have : x = m := hfit.1 m hmem x ((hk5 x).mp hx) hn
            rw [h1]; exact ⟨c', rfl, by rw [← this]; exact h2⟩
          | none =>
            rw [hk2.none _ e]
            cases e' : findN fr m.n with
            | some x =>
              obtain ⟨c', h1, h2⟩ := dF.some _ e'
              obtain ⟨hx, hn⟩ := findN_some e'
              have : x = m := hfit.2 m hmem x (hfm x hx) hn
              rw [h1]; exact ⟨c', rfl, by rw [← this]; exact h2⟩
            | none => rw [dF.none _ e']; exact ⟨c, rfl, hc⟩
        obtain ⟨c', ev, hc'⟩ := hv
        refine ⟨_, rfl, a.p, C, dx, _, _, rfl, h1, TC.cl_Hearer, TC.n_known, hF_known, a.k, rfl, .inl ⟨kvk, .inl hk1⟩, _, rfl, _, rfl, f0, rfl, .inl ⟨kv, .inl hf⟩, _, rfl, _, rfl, _, DGet.k (k := Sum.inl m.n) hf, _, DGet.k (k := Sum.inl m.n) hk1, ?_⟩
        rw [ev]
        refine ⟨_, rfl, ne_D (msg_has hc') (msg_has hc) (shaped_m (hok m hmem)) ⟨_, rfl, iteF ?_⟩⟩
        refine ⟨_, rfl, _, rfl, a.p, C, dx, _, _, rfl, h1, TC.cl_Hearer, TC.n_next_number, hF_next, _, _, rfl, rfl, _, rfl, ?_⟩
        refine ite2 (fun hz => ?_) (fun hz => ?_)
        · refine ⟨_, rfl, _, rfl, _, rfl, f0, _, rfl, DPut.k (k := Sum.inl m.n) hf (by rw [dF.len, sizeLine_eq]; omega), ?_⟩
          have st := Stp.put (ps := [f0]) (o := .dK (putK kv (Sum.inl m.n) (.ref c))) hf (fun _ z => by cases z) (by simp)
          have hpl : (putM fr m).length ≤ fr.length + 1 := putM_len
          refine ⟨_, _, _, putM fr m, rfl, upd_same, (dF.put (msg_has hc)).tups st.tup, by omega, fun x hx => ?_, fun z o hz => st.keep (sH z o hz) (by simp [ne_of_none hz hf0])⟩
          rcases (putM_mem (fun y hy e => hfit.2 m hmem y (hfm y hy) e)).mp hx with z | rfl
          · exact hfm x z
          · exact hmem
        · exact ⟨_, _, kv, fr, rfl, hf, dF, by omega, hfm, sH⟩
      · rintro σ H' ⟨o3, o4, kv, fr, rfl, hf, dF, hfl, hfm, sH⟩
        exact q _ sH
abbrev s_Hearer_take_all : Stmt := inClass (top 12) 3
abbrev N_Hearer_take_all : List Str := ["self", "messages", "message", "number"]
theorem sc_Hearer_take_all : FnScope N_Hearer_take_all ["self", "messages"] (defScope s_Hearer_take_all) := ⟨rfl, rfl, rfl, by decide +kernel, rfl, by decide +kernel, by decide +kernel⟩
theorem fits_adds {s : HS} {ms : List Msg} (hf : Fits s ms) (i : Nat) : ∀ x, x ∈ ((ms.take i).foldl addS s).held → x ∈ s.held ∨ x ∈ ms := by
  induction i with
  | zero => intro x hx; exact .inl hx
  | succ i ih =>
    intro x hx
    by_cases hi : i < ms.length
    · rw [List.take_add_one, List.getElem?_eq_getElem hi, List.foldl_append] at hx
      have hx' : x ∈ (addS ((ms.take i).foldl addS s) ms[i]).held := hx
      unfold addS at hx'
      split at hx'
      · have hpp : ∀ y ∈ ((ms.take i).foldl addS s).held, y.n = ms[i].n → y = ms[i] := fun y hy e => by
          rcases ih y hy with w | w
          · exact hf.1 _ (List.getElem_mem hi) y (.inr w) e
          · exact hf.2 _ (List.getElem_mem hi) y w e
        rcases (putM_mem hpp).mp hx' with z | z
        · exact ih x z
        · exact .inr (by rw [z]; exact List.getElem_mem hi)
      · exact ih x hx'
    · rw [List.take_of_length_le (by omega)] at hx
      rw [List.take_of_length_le (by omega)] at ih
      exact ih x hx
theorem okx_Hearer_take_all {f C CO : Addr} {fd : FuncData} (F : Fun K "take_all" "Hearer.take_all" s_Hearer_take_all f fd) (TC : HearC K C) (c_number_of : Callee P w K mg base 1 "number_of" ["message"] (spItem 0)) (mx_refuse_others : CalleeMX P w K mg base 2 C "refuse_others" ["self", "messages"] (spRefuseX C CO)) (m_hear_held : CalleeM P w K mg base 1 C "hear_held" ["self"] (spHear C)) : FnOk P w K mg base (CXF P w) 3 f fd ["self", "messages"] (spTakeAllX C CO) := by
  refine F.okX sc_Hearer_take_all (fun vs H Q E h => ?_) (fun cdv A outer s0 H vs Q E hr h => ?_)
  · obtain ⟨a, s, ex, b, xs, ms, rfl, _⟩ := h; rfl
  · obtain ⟨a, s, ex, b, xs, ms, rfl, hA, hb, hm, hml, hok, hokH, hd, hsz, qq⟩ := h
    refine ⟨_, (pss_cons (ps_expr (as_methX mx_refuse_others TC.cl_Hearer (hr.mono (by decide)) pass_on (pv 0) (at_cons (pv 1) as_nil)))
      (pss_cons (ps_for PassesOwn.leaving rfl (k_it_list K (pv 1)) (pg_name (i := 2) sc_Hearer_take_all.nd rfl (Or.inl rfl)) (pss_cons (ps_set (i := 3) sc_Hearer_take_all.nd rfl (Or.inl rfl) (as_fn c_number_of (hr.mono (by decide)) (at_cons (pv 2) as_nil)))
      (pss_one (ps_if (pt_cmpR op_ge (pv 3) (k_fld K (pv 0) rfl) (nomark _)) (pss_cons (ps_dput (hu_of hr) (k_fld K (pv 0) rfl) (pv 3) (pv 2) rfl)
      (pss_one (ps_dput (hu_of hr) (k_fld K (pv 0) rfl) (pv 3) (pv 2) rfl))) pss_nil))))
      (pss_one (ps_ret (as_meth0 m_hear_held TC.cl_Hearer (hr.mono (by decide)) (pv 0)))))), ?_⟩
    obtain ⟨dx, h1⟩ := hA.ob
    have hxl := hm.len
    rcases qq with ⟨hfit, q⟩ | qc
    case inr => exact ⟨_, rfl, a.p, dx, _, rfl, h1, no_h hA (.inr (.inr (.inr (.inl rfl)))), _, rfl, a, s, ex, b, xs, ms, rfl, hA, hb, hm, hml, hok, hokH, .inr qc⟩
    refine ⟨_, rfl, a.p, dx, _, rfl, h1, no_h hA (.inr (.inr (.inr (.inl rfl)))), _, rfl, a, s, ex, b, xs, ms, rfl, hA, hb, hm, hml, hok, hokH, .inl ⟨hfit, fun H1 s1 => ?_⟩⟩
    refine ⟨_, rfl, b, rfl, ⟨xs, SqL.ofL (s1 _ _ hb)⟩, for_list (K := K) (a := b) (xs := xs) (fun i σ H' => ∃ (o2 o3 : Option V), σ = [some (.ref a.p), some (.ref b), o2, o3] ∧ HAt C H' a ((ms.take i).foldl addS s) ex ∧ Diff ((ms.take i).foldl addS s).held ∧ ((ms.take i).foldl addS s).held.length ≤ s.held.length + i ∧ Stp [a.h, a.k] H [a.h, a.k] H')
      ⟨none, none, rfl, hA.same s1, hd, Nat.le_refl _, s1.step _⟩ (fun i σ H' _ ⟨_, _, _, _, _, _, st⟩ => SqL.ofL (st.keep hb ?nb)) ?_ ?_⟩
    case nb =>
      obtain ⟨kvs, h3, _⟩ := hA.he
      obtain ⟨kvs', _, h4, _⟩ := hA.kn
      simp [ne_of hb h3 (by intro z; cases z), ne_of hb h4 (by intro z; cases z)]
    · rintro i y σ H' hi ⟨o2, o3, rfl, hA', hd', hl', st⟩
      have hil : i < ms.length := by rw [← hxl]; exact (List.getElem?_eq_some_iff.mp hi).1
      obtain ⟨c, ec, hc⟩ := (hm.step st).get hil
      rw [hi] at ec
      obtain rfl := Option.some.inj ec
      have hmem := List.getElem_mem hil
      have enx := adds_next (ms.take i) s
      have ehd := adds_heard (ms.take i) s
      have hfa := fits_adds hfit i
      rw [List.take_add_one, List.getElem?_eq_getElem hil, List.foldl_append]
      show gName _ _ _ _ _
      generalize ms[i] = m at hc hmem ⊢
      generalize (ms.take i).foldl addS s = t at hA' hd' hl' enx ehd hfa ⊢
      refine rd_name ?_
      obtain ⟨npq, nph, npk, npg, nqh, nqk, nqg, nhk, nhg, nkg⟩ := hA'.apart
      obtain ⟨⟨dx', g1⟩, ⟨yq, g2, m2⟩, ⟨kh, g3, d3⟩, ⟨kvk, mk, g4, d4, hk3, hk4, hk5⟩, g5, _, _, hex, hexl⟩ := id hA'
      refine ⟨_, rfl, c, _, _, _, rfl, hc, ?_⟩
      refine ⟨_, rfl, _, rfl, a.p, C, dx', _, _, rfl, g1, TC.cl_Hearer, TC.n_next_number, hF_next, _, _, rfl, rfl, _, rfl, ?_⟩
      have hsh : ∀ x ∈ t.held, x.n = m.n → x = m := fun x hx e => by
        rcases hfa x hx with z | z
        · exact hfit.1 m hmem x (.inr z) e
        · exact hfit.2 m hmem x z e
      have hsk : ∀ x ∈ mk, x.n = m.n → x = m := fun x hx e => by
        rcases (hk5 x).mp hx with z | z
        · exact hfit.1 m hmem x (.inl (ehd ▸ z)) e
        · exact hsh x z e
      refine ite2 (fun hz => ?_) (fun hz => ?_)
      · have hz' : m.n ≥ t.next := of_decide_eq_true hz
        have eA : (some m).toList.foldl addS t = ⟨t.heard, putM t.held m, t.lost⟩ := by show addS t m = _; unfold addS; rw [if_pos hz']
        refine ⟨_, rfl, _, rfl, a.p, C, dx', _, _, rfl, g1, TC.cl_Hearer, TC.n_held, hF_held, _, rfl, a.h, _, rfl, DPut.k (k := Sum.inl m.n) g3 (by rw [d3.len, sizeLine_eq]; omega), ?_⟩
        have sa := Stp.put (ps := [a.h]) (o := .dK (putK kh (Sum.inl m.n) (.ref c))) g3 (fun _ z => by cases z) (by simp)
        have g1a := sa.keep g1 (by simp [nph])
        have g4a := sa.keep g4 (by simp [nhk.symm])
        have hml2 : mk.length < 3000 := by
          have h2 := congrArg List.length ehd
          omega
        refine ⟨_, rfl, _, rfl, a.p, C, dx', _, _, rfl, g1a, TC.cl_Hearer, TC.n_known, hF_known, _, rfl, a.k, _, rfl, DPut.k (k := Sum.inl m.n) g4a (by rw [d4.len, sizeLine_eq]; omega), ?_⟩
        have sb := Stp.put (ps := [a.k]) (o := .dK (putK kvk (Sum.inl m.n) (.ref c))) g4a (fun _ z => by cases z) (by simp)
        have sab : Stp [a.h, a.k] H' [a.h, a.k] _ := (sa.up (by simp)).trans (sb.up (by simp))
        have hpl : (putM t.held m).length ≤ t.held.length + 1 := putM_len
        have hcb := sab.tup _ _ hc
        rw [eA]
        refine ⟨_, _, rfl, ⟨⟨dx', sab.keep g1 (by simp [nph, npk])⟩, ⟨yq, sab.keep g2 (by simp [nqh, nqk]), m2.step sab⟩, ⟨_, sb.keep upd_same (by simp [nhk]), (d3.tups sab.tup).put (msg_has hcb)⟩, ⟨_, putM mk m, upd_same, (d4.tups sab.tup).put (msg_has hcb), putM_diff hsk hk3, ?_, fun x => ?_⟩, sab.keep g5 (by simp [nhg.symm, nkg.symm]), nqg, nhk, hex, hexl⟩, putM_diff hsh hd', by show (putM t.held m).length ≤ _; omega, st.trans sab⟩
        · show (putM mk m).length ≤ t.heard.length + (putM t.held m).length
          rcases putM_case hsk with ⟨h, e⟩ | ⟨h, e⟩
          · rw [e]
            rcases putM_case hsh with ⟨_, e'⟩ | ⟨_, e'⟩
            · rw [e']; exact hk4
            · rw [e', List.length_append]; show _ ≤ _ + (_ + 1); omega
          · rw [e]
            rcases putM_case hsh with ⟨h', e'⟩ | ⟨_, e'⟩
            · exact absurd rfl (h m ((hk5 m).mpr (.inr h')))
            · rw [e', List.length_append, List.length_append]; show _ + 1 ≤ _ + (_ + 1); omega
        · rw [putM_mem hsk, hk5 x]
          show _ ↔ x ∈ t.heard ∨ x ∈ putM t.held m
          rw [putM_mem hsh]
          constructor
          · rintro ((z | z) | z)
            · exact .inl z
            · exact .inr (.inl z)
            · exact .inr (.inr z)
          · rintro (z | z | z)
            · exact .inl (.inl z)
            · exact .inl (.inr z)
            · exact .inr z
      · have hz' : ¬ m.n ≥ t.next := fun z => hz (decide_eq_true z)
        have eA : (some m).toList.foldl addS t = t := by show addS t m = _; unfold addS; rw [if_neg hz']
        rw [eA]
        exact ⟨_, _, rfl, hA', hd', by omega, st⟩
    · rintro σ H' ⟨o2, o3, rfl, hA', hd', hl', st⟩
      rw [hxl, List.take_length] at hA' hd' hl'
      obtain ⟨dx', g1⟩ := hA'.ob
      have e1 := adds_heard ms s
      have e2 := adds_lost ms s
      refine ⟨_, rfl, a.p, dx', _, rfl, g1, no_h hA' (.inr (.inr (.inr (.inr (.inl rfl))))), a, _, ex, rfl, hA', hd', by unfold HS.small; rw [e1, e2]; omega, fun l ys found H2 hA2 eh st2 hl0 nl el ml => ?_⟩
      rw [e1] at eh
      refine q l ys found H2 hA2 eh ((st.weak (qs := a.fp) (qs' := a.fp) (by simp [HA.fp]) (fun _ z => .inr z)).trans st2) ?_ nl el ml
      rcases (st.free' hl0) with z | z
      · exact absurd (show l ∈ a.fp by simp only [List.mem_cons, List.not_mem_nil, or_false] at z; rcases z with rfl | rfl <;> simp [HA.fp]) nl
      · exact z
abbrev s_Hearer_take : Stmt := inClass (top 12) 2
abbrev N_Hearer_take : List Str := ["self", "message"]
theorem sc_Hearer_take : FnScope N_Hearer_take ["self", "message"] (defScope s_Hearer_take) := ⟨rfl, rfl, rfl, by decide +kernel, rfl, by decide +kernel, by decide +kernel⟩
theorem okx_Hearer_take {f C CO : Addr} {fd : FuncData} (F : Fun K "take" "Hearer.take" s_Hearer_take f fd) (TC : HearC K C) (mx_take_all : CalleeMX P w K mg base 3 C "take_all" ["self", "messages"] (spTakeAllX C CO)) : FnOk P w K mg base (CXF P w) 4 f fd ["self", "message"] (spTakeX C CO) := by
  refine F.okX sc_Hearer_take (fun vs H Q E h => ?_) (fun cdv A outer s0 H vs Q E hr h => ?_)
  · obtain ⟨a, s, ex, c, m, rfl, _⟩ := h; rfl
  · obtain ⟨a, s, ex, c, m, rfl, hA, hc, hok, hokH, hd, hsz, qq⟩ := h
    refine ⟨_, (pss_one (ps_ret (as_methX mx_take_all TC.cl_Hearer (hr.mono (by decide)) pass_on (pv 0) (at_cons (as_lst (as_cons (pv 1) as_nil)) as_nil)))), ?_⟩
    obtain ⟨dx, h1⟩ := hA.ob
    refine ⟨_, rfl, a.p, dx, _, rfl, h1, no_h hA (.inr (.inr (.inl rfl))), _, rfl, (show 1 ≤ sizeLine by decide), fun b hb => ?_⟩
    have s1 := Same.new (o := .lst [.ref c]) hb
    refine ⟨a, s, ex, b, _, [m], rfl, hA.same s1, upd_same, Ms.one (s1 _ _ hc), (show 1 < 1000 by decide), (fun x hx => by rw [List.mem_singleton] at hx; rw [hx]; exact hok), hokH, hd, hsz, ?_⟩
    rcases qq with ⟨hfit, q⟩ | ⟨cl, q⟩
    · exact .inl ⟨hfit, fun l ys found H2 hA2 eh st2 hl0 nl el ml => q l ys found H2 hA2 eh ((s1.step _).trans st2) (s1.free hl0) nl el ml⟩
    · exact .inr ⟨m, rfl, cl, fun H' s2 => q H' (s1.trans s2)⟩

def spSTakeX (C CH CO : Addr) : Sp := fun vs H Q E => ∃ a l f story n c m, vs = [.ref (SA.p a), .str n, .ref c] ∧ SAt C CH H a l f story ∧ H c = some (mT m) ∧ (n ∉ l.map (·.1) → f n = hs0) ∧ mOk m ∧ (∀ m, m ∈ (f n).heard ∨ m ∈ (f n).held → mOk m) ∧ Diff (f n).held ∧ (f n).heard.length + (f n).held.length + (f n).lost.length < 1000 ∧ story.length < 1000 ∧ l.length < 100 ∧
  ((Fits (f n) [m] ∧ (takeS (f n) [m]).heard.length < 1000 ∧ ∀ l' found H', SAt C CH H' a l' (updS f n (takeS (f n) [m])) (story ++ found.map fun m => (n, m)) → (takeS (f n) [m]).heard = (f n).heard ++ found → Stp (a.fp l) H (a.fp l') H' → ((n ∈ l.map (·.1) ∧ l' = l) ∨ (n ∉ l.map (·.1) ∧ ∃ b, l' = l ++ [(n, b)])) → Q (.int (found.length : Int)) H') ∨
   (Clash (f n) m ∧ ∀ H', Same H H' → E (.ref CO) none H'))
def prD (r : Str × Int) : PyData := .tuple [.str r.1, .int r.2]
abbrev esK (es : List (Str × Int)) : List (Key × V) := List.map (fun (e : Str × Int) => ((Sum.inr e.1 : Key), V.int e.2)) es
def lackF (f : Str → HS) (l : HL) (es : List (Str × Int)) : List (Str × Int) := (es.filter fun e => decide (markF f l e.1 < e.2)).map fun e => (e.1, markF f l e.1)
def spSLacks (C CH : Addr) : Sp := fun vs H Q _ => ∃ a l f story md es, vs = [.ref (SA.p a), .ref md] ∧ SAt C CH H a l f story ∧ l.length < 100 ∧ H md = some (.dK (esK es)) ∧ (es.map (·.1)).Nodup ∧ es.length < 60 ∧
  ∀ (q : Addr) (ys : List V) (rs : List (Str × Int)) (H' : Hp), Same H H' → H q = none → H' q = some (.lst ys) → HasL H' ys (rs.map prD) → rs.Perm (lackF f l es) → rs.Pairwise (fun x y => x.1.cps.toList < y.1.cps.toList) → Q (.ref q) H'
theorem has2 {H : Hp} {v : V} {d0 d1 : PyData} (h : Has H v (.tuple [d0, d1])) : ∃ a x0 x1, v = .ref a ∧ H a = some (.tup [x0, x1]) ∧ Has H x0 d0 ∧ Has H x1 d1 := by
  unfold Has at h
  obtain ⟨a, xs, rfl, ha, hl⟩ := h
  unfold HasL at hl
  obtain ⟨x0, r, rfl, h0, hl⟩ := hl
  unfold HasL at hl
  obtain ⟨x1, r2, rfl, h1, hl⟩ := hl
  unfold HasL at hl
  subst hl
  exact ⟨a, x0, x1, rfl, ha, h0, h1⟩
theorem pickP {H : Hp} {xs : List V} {ms : List (Str × Int)} (h : HasL H xs (ms.map prD)) : ∀ (is : List Nat), (∀ i ∈ is, i < ms.length) → ∃ ns : List (Str × Int), HasL H (is.map fun i => xs.getD i .non) (ns.map prD) ∧ ns.map some = is.map fun i => ms[i]?
  | [], _ => ⟨[], hasL_nil, rfl⟩
  | i :: r, hi => by
    obtain ⟨ns, h1, h2⟩ := pickP h r fun j hj => hi j (List.mem_cons_of_mem _ hj)
    have hil := hi i List.mem_cons_self
    obtain ⟨x, e, hx⟩ := HasL.get h (show (ms.map prD)[i]? = some (prD ms[i]) by rw [List.getElem?_map, List.getElem?_eq_getElem hil]; rfl)
    have e1 : xs.getD i .non = x := by simp [List.getD, e]
    refine ⟨ms[i] :: ns, ?_, by rw [List.map_cons, List.map_cons, h2, List.getElem?_eq_getElem hil]⟩
    rw [List.map_cons, e1]
    exact hasL_cons hx h1
theorem no_sr {a : SA} {f : Str} (h : f = "take" ∨ f = "heard" ∨ f = "marks" ∨ f = "lacks") : (sFl a).lookup f = none := by
  rcases h with rfl | rfl | rfl | rfl <;> exact sFl_no (by decide +kernel) (by decide +kernel)
abbrev s_Sources___init__ : Stmt := inClass (top 14) 0
abbrev N_Sources___init__ : List Str := ["self"]
theorem sc_Sources___init__ : FnScope N_Sources___init__ ["self"] (defScope s_Sources___init__) := ⟨rfl, rfl, rfl, by decide +kernel, rfl, by decide +kernel, by decide +kernel⟩
theorem ok_Sources_init {f C CH : Addr} {fd : FuncData} (F : Fun K "__init__" "Sources.__init__" s_Sources___init__ f fd) (TC : SourcesC K mg C) : FnOk P w K mg base CX0 1 f fd ["self"] (spSInit C CH) := by
  refine F.ok sc_Sources___init__ (fun vs H Q E h => ?_) (fun cdv A outer s H vs Q E hr h => ?_)
  · obtain ⟨p, dx, rfl, _⟩ := h; rfl
  · obtain ⟨p, dx, rfl, hp, q⟩ := h
    refine ⟨_, (pss_cons (k_sfld K (pv 0) pe_dnewK rfl)
      (pss_one (k_sfld K (pv 0) (as_lst as_nil) rfl))), ?_⟩
    intro hd nhd
    have g1 := Same.new (o := .dK []) nhd
    refine ⟨_, rfl, p, C, dx, [], rfl, g1 _ _ hp, TC.cl_Sources, TC.n_hearers, by decide, ?_⟩
    have z1 := Stp.put (ps := [p]) (o := .ins C dx (putF "hearers" (.ref hd) [])) (g1 _ _ hp) (fun _ z => by cases z) (by simp)
    have nhp : hd ≠ p := fun z => by rw [z, hp] at nhd; cases nhd
    have ehd := z1.keep (upd_same (H := H) (a := hd) (o := .dK [])) (by simp [nhp])
    have ep := upd_same (H := upd H hd (.dK [])) (a := p) (o := .ins C dx (putF "hearers" (.ref hd) []))
    have w1 : Stp [p] H [p, hd] (upd (upd H hd (.dK [])) p (.ins C dx (putF "hearers" (.ref hd) []))) := ⟨fun c o ho hc => z1.keep (g1 _ _ ho) hc, fun c xs ho => z1.tup _ _ (g1 _ _ ho), fun c hc => by
      simp only [List.mem_cons, List.not_mem_nil, or_false] at hc
      rcases hc with rfl | rfl
      · exact .inl (by simp)
      · exact .inr nhd⟩
    generalize upd (upd H hd (.dK [])) p (.ins C dx (putF "hearers" (.ref hd) [])) = H1 at ehd ep w1 ⊢
    refine ⟨Nat.zero_le _, fun st nst => ?_⟩
    have g2 := Same.new (o := .lst []) nst
    refine ⟨_, rfl, p, C, dx, _, rfl, g2 _ _ ep, TC.cl_Sources, TC.n_story, (show 1 < 1000 by decide), ?_⟩
    have nsp : st ≠ p := fun z => by rw [z, ep] at nst; cases nst
    have nsh : st ≠ hd := fun z => by rw [z, ehd] at nst; cases nst
    rw [show putF "story" (.ref st) (putF "hearers" (.ref hd) []) = sFl ⟨p, hd, st⟩ from sFl_make ⟨p, hd, st⟩]
    have z2 := Stp.put (ps := [p]) (o := .ins C dx (sFl ⟨p, hd, st⟩)) (g2 _ _ ep) (fun _ z => by cases z) (by simp)
    refine q ⟨p, hd, st⟩ _ rfl (fun f => ⟨⟨dx, upd_same⟩, z2.keep (g2 _ _ ehd) (by simp [nhp]), ⟨[], z2.keep (upd_same (H := H1) (a := st) (o := .lst [])) (by simp [nsp]), hasL_nil⟩, fun x hx => absurd hx List.not_mem_nil, ⟨List.nodup_nil, .nil⟩, fun c hc => absurd hc List.not_mem_nil⟩) ?_
    have w2 : Stp [p, hd] H1 [p, hd, st] (upd (upd H1 st (.lst [])) p (.ins C dx (sFl ⟨p, hd, st⟩))) := ⟨fun c o ho hc => z2.keep (g2 _ _ ho) (fun z => hc (by simp at z; simp [z])), fun c xs ho => z2.tup _ _ (g2 _ _ ho), fun c hc => by
      simp only [List.mem_cons, List.not_mem_nil, or_false] at hc
      rcases hc with rfl | rfl | rfl
      · exact .inl (by simp)
      · exact .inl (by simp)
      · exact .inr nst⟩
    exact w1.trans w2
abbrev s_Sources_heard : Stmt := inClass (top 14) 2
abbrev N_Sources_heard : List Str := ["self"]
theorem sc_Sources_heard : FnScope N_Sources_heard ["self"] (defScope s_Sources_heard) := ⟨rfl, rfl, rfl, by decide +kernel, rfl, by decide +kernel, by decide +kernel⟩
theorem ok_Sources_heard {f C CH : Addr} {fd : FuncData} (F : Fun K "heard" "Sources.heard" s_Sources_heard f fd) (T : Txt mg) (TC : SourcesC K mg C) : FnOk P w K mg base CX0 1 f fd ["self"] (spSHeard C CH) := by
  refine F.ok sc_Sources_heard (fun vs H Q E h => ?_) (fun cdv A outer s0 H vs Q E hr h => ?_)
  · obtain ⟨a, l, f, story, rfl, _⟩ := h; rfl
  · obtain ⟨a, l, f, story, rfl, hA, q⟩ := h
    refine ⟨_, (pss_one (ps_ret (as_callTy (k_list_of K) (by rfl) T.b_list PyProof.Rows.boot_list (at_cons (k_fld K (pv 0) rfl) as_nil)))), ?_⟩
    obtain ⟨dx, h1⟩ := hA.ob
    obtain ⟨ys, h2, h3⟩ := hA.sy
    exact ⟨_, rfl, a.p, C, dx, _, _, rfl, h1, TC.cl_Sources, TC.n_story, sFl_s a, a.st, _, rfl, .inl (SqL.ofL h2), fun l hl => q l ys hl (h3.same (Same.new hl))⟩
abbrev s_Sources_take : Stmt := inClass (top 14) 1
abbrev N_Sources_take : List Str := ["self", "source", "message", "heard", "one"]
theorem sc_Sources_take : FnScope N_Sources_take ["self", "source", "message"] (defScope s_Sources_take) := ⟨rfl, rfl, rfl, by decide +kernel, rfl, by decide +kernel, by decide +kernel⟩
theorem okx_Sources_take {f C CH CO : Addr} {fd : FuncData} (F : Fun K "take" "Sources.take" s_Sources_take f fd) (T : Txt mg) (TC : TxtC K mg C CH) (c_number_of : Callee P w K mg base 1 "number_of" ["message"] (spItem 0)) (c_topic_of : Callee P w K mg base 1 "topic_of" ["message"] (spItem 1)) (c_text_of : Callee P w K mg base 1 "text_of" ["message"] (spItem 2)) (i_Hearer : CalleeI P w K mg base 1 CH ["self"] (spInitH CH)) (mx_Hearer_take : CalleeMX P w K mg base 4 CH "take" ["self", "message"] (spTakeX CH CO)) : FnOk P w K mg base (CXF P w) 5 f fd ["self", "source", "message"] (spSTakeX C CH CO) := by
  refine F.okX sc_Sources_take (fun vs H Q E h => ?_) (fun cdv A outer s0 H vs Q E hr h => ?_)
  · obtain ⟨a, l, f, story, n, c, m, rfl, _⟩ := h; rfl
  · obtain ⟨a, l, f, story, n, c, m, rfl, hA, hc, hn0, hok, hokA, hdf, hsz, hst, hl, q⟩ := h
    refine ⟨_, (pss_cut (ps_if (pt_cmp (pc_dnotin (hu_of hr) (pv 1) (k_fld K (pv 0) rfl))) (pss_one (ps_dput (hu_of hr) (k_fld K (pv 0) rfl) (pv 1) (as_make0 i_Hearer (hr.mono (by decide)) TC.mg_Hearer) rfl)) pss_nil)
      (pss_cons (ps_set (i := 3) sc_Sources_take.nd rfl (Or.inl rfl) (as_methX mx_Hearer_take TC.cl_Hearer (hr.mono (by decide)) pass_on (pe_dget (hu_of hr) (k_fld K (pv 0) rfl) (pv 1) (fun _ _ => rfl)) (at_cons (pv 2) as_nil)))
      (pss_cons (ps_for PassesOwn.leaving rfl (k_it_list K (pv 3)) (pg_name (i := 4) sc_Sources_take.nd rfl (Or.inl rfl)) (pss_one (ps_expr (k_bm K PySem.F.plainAttrs_list PySem.F.slot_list_append PySem.F.type_list_append mt_append (k_fld K (pv 0) rfl) (pa_cons (as_tup (as_cons (pv 1) (as_cons (as_fn c_number_of (hr.mono (by decide)) (at_cons (pv 4) as_nil)) (as_cons (as_fn c_topic_of (hr.mono (by decide)) (at_cons (pv 4) as_nil)) (as_cons (as_fn c_text_of (hr.mono (by decide)) (at_cons (pv 4) as_nil)) as_nil))))) pa_nil)))))
      (pss_one (ps_ret (as_callB (k_len_seq K) (by rfl) T.b_len PySem.boot_len (at_cons (pv 3) as_nil))))))), ?_⟩
    obtain ⟨dx, h1⟩ := hA.ob
    refine ⟨fun σ H' => ∃ l', σ = [some (.ref a.p), some (.str n), some (.ref c), none, none] ∧ SAt C CH H' a l' f story ∧ Stp (a.fp l) H (a.fp l') H' ∧ (∃ b, (n, b) ∈ l') ∧ ((n ∈ l.map (·.1) ∧ l' = l ∧ H' = H) ∨ (n ∉ l.map (·.1) ∧ ∃ b, l' = l ++ [(n, b)])), ?_, ?_⟩
    case refine_2 =>
      refine ⟨_, rfl, _, rfl, a.p, C, dx, _, _, rfl, h1, TC.cl_Sources, TC.n_hearers, sFl_h a, a.hd, _, rfl, DGet.k (k := Sum.inr n) hA.hs, _, rfl, ?_⟩
      by_cases hn : n ∈ l.map (·.1)
      · obtain ⟨x, hx, e⟩ := List.mem_map.mp hn
        have ev : valV (kvH l) (Sum.inr n) = some (.ref x.2.p) := by rw [← e]; exact kvH_val hA.dis hx
        rw [ev]
        refine iteF ⟨l, rfl, hA, Stp.refl _ _, ⟨x.2, by rw [← e]; exact hx⟩, .inl ⟨hn, rfl, rfl⟩⟩
      · rw [kvH_none hn]
        refine iteT ?_
        intro p1 dx1 np1 nd1 nx1
        refine ⟨p1, dx1, rfl, upd_same, fun B H2 ep hB st2 => ⟨rfl, ?_⟩⟩
        subst ep
        have v2 : Stp [] H B.fp H2 := (Stp.obj (o := .own B.p) (o' := .ins CH dx1 []) np1 nd1).trans st2
        have hA2 := hA.step v2 fun _ _ => List.not_mem_nil
        have oB : ∀ x ∈ a.fp l, x ∉ B.fp := hA.out v2 fun _ _ => List.not_mem_nil
        obtain ⟨dx2, h2⟩ := hA2.ob
        have hkl : (kvH l).length < sizeLine := by rw [kvH_len, sizeLine_eq]; omega
        refine ⟨_, rfl, a.p, C, dx2, _, _, rfl, h2, TC.cl_Sources, TC.n_hearers, sFl_h a, _, rfl, a.hd, _, rfl, DPut.k (k := Sum.inr n) hA2.hs hkl, ?_⟩
        have z1 := Stp.put (ps := [a.hd]) (o := .dK (putK (kvH l) (Sum.inr n) (.ref B.p))) hA2.hs (fun _ z => by cases z) (by simp)
        have ne := hA2.ne
        have hhd : ∀ x ∈ fpH l, x ∉ [a.hd] := fun x hx z => hA2.own x hx (by rw [List.mem_singleton] at z; rw [z]; simp [SA.own])
        have hBd : ∀ x ∈ B.fp, x ∉ [a.hd] := fun x hx z => by rw [List.mem_singleton] at z; exact oB a.hd (List.mem_append_left _ (by simp [SA.own])) (by rw [← z]; exact hx)
        obtain ⟨ys, hys, hss⟩ := hA2.sy
        refine ⟨l ++ [(n, B)], rfl, ⟨⟨dx2, z1.keep h2 (by simp [ne.1])⟩, by rw [upd_same, kvH_snoc hn], ⟨ys, z1.keep hys (by simp [ne.2.2.symm]), hss.tups z1.tup (noLst_rw story)⟩, HsAt.more (hA2.all.step z1 hhd) (by rw [hn0 hn]; exact hB.step z1 hBd), hA2.dis.more hn (fun x hx => oB x (List.mem_append_right _ hx)), fun x hx => ?_⟩, ?_, ⟨B, by simp⟩, .inr ⟨hn, B, rfl⟩⟩
        · rw [fpH_snoc] at hx
          rcases List.mem_append.mp hx with z | z
          · exact hA2.own x z
          · exact fun w => oB x (List.mem_append_left _ w) z
        · have e : a.fp (l ++ [(n, B)]) = a.fp l ++ B.fp := by unfold SA.fp; rw [fpH_snoc, List.append_assoc]
          rw [e]
          refine ⟨fun x o ho hx => z1.keep (v2.keep ho List.not_mem_nil) (fun z => hx (by rw [List.mem_singleton] at z; rw [z]; exact List.mem_append_left _ (by simp [SA.own]))), fun x xs ho => z1.tup _ _ (v2.tup _ _ ho), fun x hx => ?_⟩
          rcases List.mem_append.mp hx with z | z
          · exact .inl z
          · rcases v2.new x z with w | w
            · exact absurd w List.not_mem_nil
            · exact .inr w
    rintro σ H1 ⟨l', rfl, hA1, st1, ⟨b, hb⟩, hcase⟩
    clear h1 hA
    obtain ⟨dx1, h1⟩ := hA1.ob
    have hB1 := hA1.all _ hb
    obtain ⟨db, ob⟩ := hB1.ob
    have hc1 := st1.tup _ _ hc
    refine ⟨_, rfl, a.p, C, dx1, _, _, rfl, h1, TC.cl_Sources, TC.n_hearers, sFl_h a, _, rfl, a.hd, .ref b.p, rfl, .inl ⟨_, Sum.inr n, .inl hA1.hs, rfl, (kvH_val hA1.dis hb).symm⟩, b.p, db, _, rfl, ob, no_h hB1 (.inr (.inl rfl)), _, rfl, b, f n, [], c, m, rfl, hB1, hc1, hok, hokA, hdf, hsz, ?_⟩
    rcases q with ⟨hf, hsz2, q⟩ | ⟨hcl, q⟩
    case inr =>
      refine .inr ⟨hcl, fun H2 s2 => ?_⟩
      rcases hcase with ⟨_, _, rfl⟩ | ⟨hno, _⟩
      · exact q H2 s2
      · rw [hn0 hno] at hcl
        obtain ⟨x, hx, _⟩ := hcl
        rcases hx with z | z <;> exact absurd z List.not_mem_nil
    refine .inl ⟨hf, fun lh yh found H2 hB2 eh st2 nl ol el ml => ?_⟩
    have st2' : Stp b.fp H1 b.fp H2 := ⟨st2.1, st2.2, fun x hx => st2.3 x (List.mem_cons_of_mem _ hx)⟩
    have hown : ∀ x ∈ a.own, x ∉ b.fp := fun x hx z => hA1.own x (mem_fpH.mpr ⟨_, hb, z⟩) hx
    have hput := hA1.all.put hA1.dis hb st2' hB2
    have hA2 : SAt C CH H2 a l' (updS f n (takeS (f n) [m])) story := by
      obtain ⟨ys, hys, hss⟩ := hA1.sy
      exact ⟨⟨dx1, st2.keep h1 (hown _ (by simp [SA.own]))⟩, st2.keep hA1.hs (hown _ (by simp [SA.own])), ⟨ys, st2.keep hys (hown _ (by simp [SA.own])), hss.tups st2.tup (noLst_rw story)⟩, hput.1, hA1.dis, hA1.own⟩
    have t2 : Stp (a.fp l) H (a.fp l') H2 := st1.trans (hput.2.weak (fun x hx => List.mem_append_right _ hx) fun x hx => .inr hx)
    have nlS : lh ∉ a.fp l' := fun z => by
      obtain ⟨o, ho⟩ := hA1.live lh z
      rw [nl] at ho; cases ho
    have lyh := ml.len
    have lfo : found.length < 1000 := by
      have := congrArg List.length eh
      rw [List.length_append] at this
      omega
    refine ⟨_, rfl, lh, rfl, ⟨_, SqL.ofL el⟩, for_list (K := K) (a := lh) (xs := yh) (fun i σ H' => ∃ o4, σ = [some (.ref a.p), some (.str n), some (.ref c), some (.ref lh), o4] ∧ SAt C CH H' a l' (updS f n (takeS (f n) [m])) (story ++ (found.take i).map fun m => (n, m)) ∧ Stp (a.fp l) H (a.fp l') H' ∧ H' lh = some (.lst yh) ∧ Ms H' yh found)
      ⟨_, rfl, by rw [List.take_zero, List.map_nil, List.append_nil]; exact hA2, t2, el, ml⟩ (fun i σ H' _ ⟨_, _, _, _, h, _⟩ => SqL.ofL h) ?_ ?_⟩
    · rintro i y σ H' hi ⟨o4, rfl, hA', t', el', ml'⟩
      have hil : i < found.length := by rw [← lyh]; exact (List.getElem?_eq_some_iff.mp hi).1
      obtain ⟨c1, ec, hc1⟩ := ml'.get hil
      rw [hi] at ec
      obtain rfl := Option.some.inj ec
      obtain ⟨dx', h1'⟩ := hA'.ob
      obtain ⟨ys, hys, hss⟩ := hA'.sy
      have lys := HasL.length hss
      rw [List.length_map, List.length_append, List.length_map, List.length_take] at lys
      refine rd_name ⟨_, rfl, a.p, C, dx', _, _, rfl, h1', TC.cl_Sources, TC.n_story, sFl_s a, .inl ⟨rfl, _, SqL.ofL hys⟩, _, rfl, _, rfl, c1, _, _, _, rfl, hc1, _, rfl, c1, _, _, _, rfl, hc1, _, rfl, c1, _, _, _, rfl, hc1, (show 4 ≤ sizeLine by decide), fun r nr => ?_⟩
      have g1 := Same.new (o := .tup [.str n, .int found[i].n, .str found[i].t, .str found[i].x]) nr
      have hA'' := hA'.same g1
      refine ⟨a.st, ys, .ref r, rfl, rfl, g1 _ _ hys, by rw [sizeLine_eq]; omega, ?_⟩
      have z1 := Stp.put (ps := [a.st]) (o := .lst (ys ++ [.ref r])) (g1 _ _ hys) (fun _ z => by cases z) (by simp)
      have ne := hA'.ne
      have hst' : ∀ x ∈ fpH l', x ∉ [a.st] := fun x hx z => hA'.own x hx (by rw [List.mem_singleton] at z; rw [z]; simp [SA.own])
      have nlh : lh ≠ a.st := fun z => nlS (by rw [z]; exact List.mem_append_left _ (by simp [SA.own]))
      refine ⟨_, rfl, ⟨⟨dx', z1.keep (g1 _ _ h1') (by simp [ne.2.1])⟩, z1.keep (g1 _ _ hA'.hs) (by simp [ne.2.2]), ⟨_, upd_same, ?_⟩, hA''.all.step z1 hst', hA'.dis, hA'.own⟩, (t'.trans (g1.step _)).trans (z1.up fun x hx => by rw [List.mem_singleton] at hx; rw [hx]; exact List.mem_append_left _ (by simp [SA.own])), z1.keep (g1 _ _ el') (by simp [nlh]), (ml'.same g1).step z1⟩
      have e1 : List.map rwD (story ++ List.map (fun m => (n, m)) (found.take (i + 1))) = List.map rwD (story ++ List.map (fun m => (n, m)) (found.take i)) ++ [rwD (n, found[i])] := by
        rw [List.take_add_one, List.getElem?_eq_getElem hil, List.map_append (l₁ := found.take i), ← List.append_assoc, List.map_append (l₁ := story ++ _)]; rfl
      rw [e1]
      refine HasL.append ((hss.same g1).tups z1.tup (noLst_rw _)) ?_
      refine hasL_cons (has_tup (z1.tup _ _ upd_same) ?_) hasL_nil
      exact hasL_cons (has_str _) (hasL_cons (has_int _) (hasL_cons (has_str _) (hasL_cons (has_str _) hasL_nil)))
    rintro σ H3 ⟨o4, rfl, hA3, t3, el3, ml3⟩
    rw [lyh, List.take_length] at hA3
    refine ⟨_, rfl, lh, yh, rfl, .inl (SqL.ofL el3), ?_⟩
    rw [lyh]
    exact q l' found _ hA3 eh t3 (hcase.elim (fun z => .inl ⟨z.1, z.2.1⟩) .inr)
abbrev s_Sources_marks : Stmt := inClass (top 14) 3
abbrev N_Sources_marks : List Str := ["self", "marks", "source"]
theorem sc_Sources_marks : FnScope N_Sources_marks ["self"] (defScope s_Sources_marks) := ⟨rfl, rfl, rfl, by decide +kernel, rfl, by decide +kernel, by decide +kernel⟩
theorem ok_Sources_marks {f C CH : Addr} {fd : FuncData} (F : Fun K "marks" "Sources.marks" s_Sources_marks f fd) (TC : TxtC K mg C CH) (m_expects : CalleeM P w K mg base 1 CH "expects" ["self"] (spExpects CH)) : FnOk P w K mg base CX0 2 f fd ["self"] (spSMarks C CH) := by
  refine F.ok sc_Sources_marks (fun vs H Q E h => ?_) (fun cdv A outer s0 H vs Q E hr h => ?_)
  · obtain ⟨a, l, f, story, rfl, _⟩ := h; rfl
  · obtain ⟨a, l, f, story, rfl, hA, hl, q⟩ := h
    refine ⟨_, (pss_cons (ps_set (i := 1) sc_Sources_marks.nd rfl (Or.inl rfl) pe_dnewK)
      (pss_cons (ps_thaw (ps_for PassesOwn.never rfl (pi_keys (k_fld K (pv 0) rfl)) (pg_name (i := 2) sc_Sources_marks.nd rfl (Or.inl rfl)) (pss_one (ps_dput (hu_of hr) (pv 1) (pv 2) (pe_op op_sub (as_meth0 m_expects TC.cl_Hearer (hr.mono (by decide)) (pe_dget (hu_of hr) (k_fld K (pv 0) rfl) (pv 2) (fun _ _ => rfl))) pe_int) rfl))))
      (pss_one (ps_ret (pv 1))))), ?_⟩
    obtain ⟨dx, h1⟩ := hA.ob
    intro mk nmk
    have g1 := Same.new (o := .dK []) nmk
    have hfz : ∀ (o : Obj) (u : HO), H a.hd = some (.frz o u) → False := fun o u e => by rw [hA.hs] at e; cases e
    have nmh : mk ≠ a.hd := fun z => by rw [z, hA.hs] at nmk; cases nmk
    have nmp : mk ≠ a.p := fun z => by rw [z, h1] at nmk; cases nmk
    refine ⟨_, rfl, a.p, C, dx, _, _, rfl, g1 _ _ h1, TC.cl_Sources, TC.n_hearers, sFl_h a, a.hd, _, rfl, g1 _ _ hA.hs, hfz, fun ob => ?_⟩
    have z1 := Stp.put (ps := [a.hd]) (o := .frz ob (.dK (kvH l))) (g1 _ _ hA.hs) (fun _ z => by cases z) (by simp)
    have nph := hA.ne.1
    have hown : ∀ c ∈ fpH l, c ∉ [a.hd] := fun c hc z => hA.own c hc (by rw [List.mem_singleton] at z; rw [z]; simp [SA.own])
    refine for_it (n := (kvH l).length) (fun i σ H' => ∃ o2, σ = [some (.ref a.p), some (.ref mk), o2] ∧ But [a.hd] H H' ∧ H' a.p = some (.ins C dx (sFl a)) ∧ H' a.hd = some (.frz ob (.dK (kvH l))) ∧ HsAt CH H' l f ∧ H' mk = some (.dK (mkD (l.take i) f)))
      ⟨_, rfl, fun c o ho hc => z1.keep (g1 _ _ ho) hc, z1.keep (g1 _ _ h1) (by simp [nph]), upd_same, (hA.all.same g1).step z1 hown, z1.keep (upd_same (H := H) (a := mk) (o := .dK [])) (by simp [nmh])⟩ ?_ ?_
    · rintro i σ H' hi ⟨o2, rfl, bu, e1, e2, hs, e3⟩
      refine ⟨⟨e2, hi⟩, ?_⟩
      rintro x H2 ⟨rfl, kv, hkv, rfl⟩
      have hi' : i < l.length := by rw [← kvH_len]; exact hi
      have hkv' : kv = (Sum.inr l[i].1, V.ref l[i].2.p) := by
        unfold kvH at hkv
        rw [List.getElem?_map, List.getElem?_eq_getElem hi'] at hkv
        exact (Option.some.inj hkv).symm
      subst hkv'
      have hx := List.getElem_mem hi'
      have hAx := hs _ hx
      obtain ⟨dh, oh⟩ := hAx.ob
      have hlen : (mkD (l.take i) f).length < sizeLine := by unfold mkD; rw [List.length_map, List.length_take, sizeLine_eq]; omega
      refine rd_name ⟨_, rfl, a.p, C, dx, _, _, rfl, e1, TC.cl_Sources, TC.n_hearers, sFl_h a, _, rfl, a.hd, .ref l[i].2.p, rfl, .inl ⟨_, Sum.inr l[i].1, .inr ⟨ob, e2⟩, rfl, (kvH_val hA.dis hx).symm⟩, l[i].2.p, dh, _, rfl, oh, no_h hAx (.inl rfl), l[i].2, _, [], rfl, hAx, _, _, rfl, rfl, _, rfl, _, rfl, mk, _, rfl, DPut.k (k := Sum.inr l[i].1) e3 hlen, ?_⟩
      have z2 := Stp.put (ps := [mk]) (o := .dK (putK (mkD (l.take i) f) (Sum.inr l[i].1) (V.int ((f l[i].1).next - 1)))) e3 (fun _ z => by cases z) (by simp)
      refine ⟨_, rfl, fun c o ho hc => z2.keep (bu c o ho hc) (fun z => by rw [List.mem_singleton] at z; rw [z, nmk] at ho; cases ho), z2.keep e1 (by simp [nmp.symm]), z2.keep e2 (by simp [nmh.symm]), hs.step z2 (fun c hc z => by
        rw [List.mem_singleton] at z
        obtain ⟨o, ho⟩ := hA.all.live c hc
        rw [z, nmk] at ho; cases ho), ?_⟩
      rw [upd_same, mkD_snoc hA.dis hi']
    rintro σ H' ⟨o2, rfl, bu, e1, e2, hs, e3⟩
    refine ⟨⟨e2, Nat.le_refl _⟩, a.hd, ob, _, e2, hfz, ?_⟩
    have z2 := Stp.put (ps := [a.hd]) (o := .dK (kvH l)) e2 (fun _ z => by cases z) (by simp)
    rw [kvH_len, List.take_length] at e3
    refine ⟨_, rfl, q mk _ (fun c o ho => ?_) nmk (z2.keep e3 (by simp [nmh]))⟩
    by_cases hc : c = a.hd
    · subst hc
      rw [hA.hs] at ho
      rw [upd_same]; exact ho
    · rw [upd_ne hc]
      exact bu c o ho (by simp [hc])
abbrev s_Sources_lacks : Stmt := inClass (top 14) 4
abbrev N_Sources_lacks : List Str := ["self", "marks", "own"]
theorem sc_Sources_lacks : FnScope N_Sources_lacks ["self", "marks"] (defScope s_Sources_lacks) := ⟨rfl, rfl, rfl, by decide +kernel, rfl, by decide +kernel, by decide +kernel⟩
theorem ok_Sources_lacks {f C CH : Addr} {fd : FuncData} (F : Fun K "lacks" "Sources.lacks" s_Sources_lacks f fd) (T : Txt mg) (TC : SourcesC K mg C) (m_marks : CalleeM P w K mg base 2 C "marks" ["self"] (spSMarks C CH)) : FnOk P w K mg base CX0 3 f fd ["self", "marks"] (spSLacks C CH) := by
  refine F.ok sc_Sources_lacks (fun vs H Q E h => ?_) (fun cdv A outer s0 H vs Q E hr h => ?_)
  · obtain ⟨a, l, f, story, md, es, rfl, _⟩ := h; rfl
  · obtain ⟨a, l, f, story, md, es, rfl, hA, hl, hmd, hnd, hes, q⟩ := h
    refine ⟨_, (pss_cons (ps_set (i := 2) sc_Sources_lacks.nd rfl (Or.inr rfl) (as_meth0 m_marks TC.cl_Sources (hr.mono (by decide)) (pv 0)))
      (pss_one (ps_ret (as_callB (k_sortK K rfl) (by rfl) T.b_sorted PyProof.Rows.boot_sorted (at_cons (pe_thaw (pe_comp (N' := ["source", "own", "marks"]) (ix := [none, some 2, some 1]) (own := [0]) rfl (cs_of (osc := defScope s_Sources_lacks) (ON := N_Sources_lacks) rfl rfl (by decide +kernel)) (by decide) (pi_keys (pv 1)) (fun _ _ _ _ => (pg_name (i := 0) (show (["source", "own", "marks"] : List Str).Nodup by decide +kernel) rfl (Or.inl rfl))) own_name (fun _ _ _ _ => (pifs_one (pt_cmpR op_lt (pe_dget2 (hu_of hr) (pv 1) (pv 0) pe_int ⟨rfl, rfl, rfl, rfl⟩) (pe_dget (hu_of hr) (pv 2) (pv 0) (fun _ _ => rfl)) (nomark _)))) (fun _ _ _ _ => (as_tup (as_cons (pv 0) (as_cons (pe_dget2 (hu_of hr) (pv 1) (pv 0) pe_int ⟨rfl, rfl, rfl, rfl⟩) as_nil)))))) as_nil))))), ?_⟩
    obtain ⟨dx, h1⟩ := hA.ob
    refine ⟨_, rfl, a.p, dx, _, rfl, h1, no_sr (.inr (.inr (.inl rfl))), a, l, f, story, rfl, hA, hl, fun pm H1 s1 npm epm => ?_⟩
    have hmd1 := s1 _ _ hmd
    have hfz : ∀ (o : Obj) (u : HO), H md = some (.frz o u) → False := fun o u e => by rw [hmd] at e; cases e
    have npd : pm ≠ md := fun z => by rw [z, hmd] at npm; cases npm
    refine ⟨_, rfl, md, _, rfl, hmd1, hfz, fun ob => ?_⟩
    have z1 := Stp.put (ps := [md]) (o := .frz ob (.dK (esK es))) hmd1 (fun _ z => by cases z) (by simp)
    have epm1 := z1.keep epm (by simp [npd])
    have emd1 := upd_same (H := H1) (a := md) (o := .frz ob (.dK (esK es)))
    generalize hHf : upd H1 md (.frz ob (.dK (esK es))) = Hf at z1 epm1 emd1 ⊢
    refine ⟨es.length, fun i ys H' => Same Hf H' ∧ HasL H' ys ((lackF f l (es.take i)).map prD), szl (by omega), ⟨Same.refl _, hasL_nil⟩, ?_, ?_⟩
    · rintro i ys H' hi ⟨sH, hy⟩
      have emd' := sH _ _ emd1
      refine ⟨⟨emd', by rw [List.length_map]; exact hi⟩, ?_⟩
      rintro x H2 ⟨rfl, kv, hkv, rfl⟩
      have hkv' : kv = (Sum.inr es[i].1, V.int es[i].2) := by
        rw [List.getElem?_map, List.getElem?_eq_getElem hi] at hkv
        exact (Option.some.inj hkv).symm
      subst hkv'
      have hx := List.getElem_mem hi
      have hv : valV (esK es) (Sum.inr es[i].1) = some (V.int es[i].2) := ints_val hnd hx
      have epm' := sH _ _ epm1
      have etk : es.take (i + 1) = es.take i ++ [es[i]] := by rw [List.take_add_one, List.getElem?_eq_getElem hi]; rfl
      refine rd_name ⟨_, rfl, pm, rfl, .inl ⟨_, .inl epm'⟩, _, rfl, _, DGet.k (k := Sum.inr es[i].1) epm', _, rfl, _, rfl, md, _, rfl, .inl ⟨_, Sum.inr es[i].1, .inr ⟨ob, emd'⟩, rfl, hv.symm⟩, ?_⟩
      rw [mkD_val]
      refine ⟨_, _, rfl, rfl, _, rfl, ite2 (fun z => ?_) (fun z => ?_)⟩
      · refine ⟨_, rfl, _, rfl, pm, rfl, .inl ⟨_, .inl epm'⟩, _, rfl, _, DGet.k (k := Sum.inr es[i].1) epm', ?_⟩
        rw [mkD_val]
        refine ⟨(show 2 ≤ sizeLine by decide), fun u nu => ⟨sH.trans (Same.new nu), ?_⟩⟩
        have e1 : lackF f l (es.take (i + 1)) = lackF f l (es.take i) ++ [(es[i].1, markF f l es[i].1)] := by
          unfold lackF
          rw [etk, List.filter_append, List.map_append, List.filter_cons_of_pos (p := fun e : Str × Int => decide (markF f l e.1 < e.2)) z]; rfl
        rw [e1, List.map_append]
        exact HasL.append (HasL.same (Same.new nu) hy) (hasL_cons (has_tup upd_same (hasL_cons (has_str _) (hasL_cons (has_int _) hasL_nil))) hasL_nil)
      · refine ⟨sH, ?_⟩
        have e1 : lackF f l (es.take (i + 1)) = lackF f l (es.take i) := by
          unfold lackF
          rw [etk, List.filter_append, List.map_append, List.filter_cons_of_neg (p := fun e : Str × Int => decide (markF f l e.1 < e.2)) z]; simp
        rw [e1]
        exact hy
    rintro ys H' ⟨sH, hy⟩
    rw [List.take_length] at hy
    have emd' := sH _ _ emd1
    refine ⟨⟨emd', by rw [List.length_map]; exact Nat.le_refl _⟩, fun q1 nq1 => ?_⟩
    have g2 := Same.new (o := .lst ys) nq1
    have nq1m : q1 ≠ md := fun z => by rw [z, emd'] at nq1; cases nq1
    refine ⟨md, ob, _, g2 _ _ emd', hfz, ?_⟩
    have z2 := Stp.put (ps := [md]) (o := .dK (esK es)) (g2 _ _ emd') (fun _ z => by cases z) (by simp)
    have eq1 := z2.keep (upd_same (H := H') (a := q1) (o := .lst ys)) (by simp [nq1m])
    have sm : Same H1 (upd (upd H' q1 (.lst ys)) md (.dK (esK es))) := fun c o ho => by
      by_cases hc : c = md
      · subst hc
        rw [upd_same, ← hmd1]; exact ho
      · refine z2.keep (g2 _ _ (sH _ _ ?_)) (by simp [hc])
        rw [← hHf, upd_ne hc]; exact ho
    have noL : noLstA ((lackF f l es).map prD) = true := by
      generalize lackF f l es = rs
      induction rs with
      | nil => rfl
      | cons r rs ih => simp [noLstA, noLst, prD, ih]
    have hy2 := HasL.tups z2.tup noL (HasL.same g2 hy)
    generalize upd (upd H' q1 (.lst ys)) md (.dK (esK es)) = H3 at eq1 sm hy2 ⊢
    -- sorted
    have lyl := hy2.length
    rw [List.length_map] at lyl
    have hll : (lackF f l es).length ≤ es.length := by unfold lackF; rw [List.length_map]; exact List.length_filter_le _ _
    refine ⟨q1, ys, (lackF f l es).map fun r => Sum.inr r.1, rfl, SqL.ofL eq1, by omega, ⟨by rw [List.length_map, lyl], fun i x k hx hk => ?_⟩, .inr fun k hk => ?_, ?_, fun p is hp hpm hpw => ?_⟩
    · have hi : i < (lackF f l es).length := by rw [← lyl]; exact (List.getElem?_eq_some_iff.mp hx).1
      rw [List.getElem?_map, List.getElem?_eq_getElem hi] at hk
      cases Option.some.inj hk
      obtain ⟨y, ey, hyy⟩ := HasL.get hy2 (show ((lackF f l es).map prD)[i]? = some (prD (lackF f l es)[i]) by rw [List.getElem?_map, List.getElem?_eq_getElem hi]; rfl)
      rw [hx] at ey
      obtain rfl := Option.some.inj ey
      obtain ⟨c, y0, y1, rfl, hc, h0, h1⟩ := has2 hyy
      unfold Has at h0
      subst h0
      exact ⟨c, _, rfl, hc⟩
    · obtain ⟨m, _, rfl⟩ := List.mem_map.mp hk
      exact ⟨_, rfl⟩
    · have e2 : ((lackF f l es).map fun r => (Sum.inr r.1 : Key)) = ((lackF f l es).map (·.1)).map Sum.inr := by rw [List.map_map]; rfl
      rw [e2]
      have nd1 : ((lackF f l es).map (·.1)).Nodup := by
        unfold lackF
        rw [List.map_map]
        exact List.Nodup.sublist (List.Sublist.map _ List.filter_sublist) hnd
      exact List.Pairwise.map _ (fun _ _ h z => h (Sum.inr.inj z)) nd1
    · have hlt : ∀ i ∈ is, i < (lackF f l es).length := fun i hi => by rw [← lyl]; exact List.mem_range.mp (hpm.mem_iff.mp hi)
      obtain ⟨rs, h1, h2⟩ := pickP hy2 is hlt
      have g3 := Same.new (o := .lst (is.map fun i => ys.getD i .non)) hp
      refine q p _ rs _ ((s1.trans sm).trans g3) ((s1.trans sm).free hp) upd_same (HasL.same g3 h1) (some_perm ?_) ?_
      · rw [h2, ← range_get (lackF f l es), ← lyl]
        exact hpm.map _
      · have e : (is.map fun i => ((lackF f l es).map fun r => (Sum.inr r.1 : Key)).getD i (.inl 0)) = rs.map fun m => Sum.inr m.1 := by
          have e1 : (rs.map some).map (fun o : Option (Str × Int) => (o.map fun m => (Sum.inr m.1 : Key)).getD (.inl 0)) = rs.map fun m => Sum.inr m.1 := by rw [List.map_map]; rfl
          rw [← e1, h2, List.map_map]
          refine List.map_congr_left fun i _ => ?_
          show ((lackF f l es).map fun r => (Sum.inr r.1 : Key)).getD i (.inl 0) = _
          rw [List.getD_eq_getElem?_getD, List.getElem?_map]; rfl
        rw [e, List.pairwise_map] at hpw
        exact hpw.imp fun h => of_decide_eq_true h

abbrev s_l_hearer : Stmt := top 18
abbrev N_l_hearer : List Str := []
theorem sc_l_hearer : FnScope N_l_hearer [] (defScope s_l_hearer) := ⟨rfl, rfl, rfl, by decide +kernel, rfl, by decide +kernel, by decide +kernel⟩
theorem ok_l_hearer {f : Addr} {fd : FuncData} (F : Fun K "_law_hearer" "_law_hearer" s_l_hearer f fd) : FnOk P w K mg base CX0 1 f fd [] spLNew := by
  refine F.ok sc_l_hearer (fun vs H Q E h => ?_) (fun cdv A outer s0 H vs Q E hr h => ?_)
  · obtain ⟨rfl, _⟩ := h; rfl
  · obtain ⟨rfl, q⟩ := h
    refine ⟨_, (pss_one (ps_ret (pe_disp (pps_cons pe_str (as_lst as_nil) (pps_cons pe_str pe_dnewK (pps_cons pe_str (as_lst as_nil) pps_nil))) rfl rfl (List.cons_ne_nil _ _) (Nat.le_of_ble_eq_true rfl)))), ?_⟩
    intro p np
    refine ⟨Nat.zero_le _, fun r nr => ?_⟩
    intro h nh
    refine ⟨Nat.zero_le _, fun g ng => ?_⟩
    have k1 := Same.new (o := .dK []) np
    have k2 := Same.new (o := .lst []) nr
    have k3 := Same.new (o := .dK []) nh
    have k4 := Same.new (o := .lst []) ng
    have ep := (k2.trans (k3.trans k4)) _ _ (upd_same (H := H) (a := p) (o := .dK []))
    have er := (k3.trans k4) _ _ (upd_same (H := upd H p (.dK [])) (a := r) (o := .lst []))
    have eh := k4 _ _ (upd_same (H := upd (upd H p (.dK [])) r (.lst [])) (a := h) (o := .dK []))
    have eg := upd_same (H := upd (upd (upd H p (.dK [])) r (.lst [])) h (.dK [])) (a := g) (o := .lst [])
    have npr : p ≠ r := ne_of_none upd_same nr
    have nph : p ≠ h := ne_of_none (k2 _ _ upd_same) nh
    have npg : p ≠ g := ne_of_none ((k2.trans k3) _ _ upd_same) ng
    have nrg : r ≠ g := ne_of_none (k3 _ _ upd_same) ng
    refine ⟨ep, [(Sum.inr "rows", .ref r), (Sum.inr "held", .ref h), (Sum.inr "gone", .ref g)], rfl, (show 3 ≤ 15 by decide), ?_⟩
    have em : mergeK [] [(Sum.inr "rows", V.ref r), (Sum.inr "held", V.ref h), (Sum.inr "gone", V.ref g)] = lK ⟨p, r, h, g⟩ := rfl
    rw [em]
    have st := Stp.put (ps := [p]) (o := .dK (lK ⟨p, r, h, g⟩)) ep (fun _ z => by cases z) (by simp)
    refine q ⟨p, r, h, g⟩ _ ⟨upd_same, ⟨[], st.keep er (by simp [npr.symm]), Ms.nil⟩, ⟨[], st.keep eh (by simp [nph.symm]), .nil⟩, st.keep eg (by simp [npg.symm]), nrg, nph⟩ ?_
    have w : Stp [] H [g, h, r, p] _ := (Stp.make (o := .dK []) np).trans ((Stp.make (o := .lst []) nr).trans ((Stp.make (o := .dK []) nh).trans (Stp.make (o := .lst []) ng)))
    exact (w.trans (st.up (by simp))).weak (by simp) (by simp [LA.fp])
abbrev s_l_expects : Stmt := top 19
abbrev N_l_expects : List Str := ["_law_mine"]
theorem sc_l_expects : FnScope N_l_expects ["_law_mine"] (defScope s_l_expects) := ⟨rfl, rfl, rfl, by decide +kernel, rfl, by decide +kernel, by decide +kernel⟩
theorem ok_l_expects {f : Addr} {fd : FuncData} (F : Fun K "_law_expects" "_law_expects" s_l_expects f fd) (T : Txt mg) : FnOk P w K mg base CX0 1 f fd ["_law_mine"] spLExp := by
  refine F.ok sc_l_expects (fun vs H Q E h => ?_) (fun cdv A outer s0 H vs Q E hr h => ?_)
  · obtain ⟨a, s, rfl, _⟩ := h; rfl
  · obtain ⟨a, s, rfl, L, q⟩ := h
    refine ⟨_, (pss_one (ps_ret (pe_op op_add (pe_op op_add (as_callB (k_len_seq K) (by rfl) T.b_len PySem.boot_len (at_cons (pe_dget (hu_of hr) (pv 0) pe_str (fun _ _ => rfl)) as_nil)) (as_callB (k_len_seq K) (by rfl) T.b_len PySem.boot_len (at_cons (pe_dget (hu_of hr) (pv 0) pe_str (fun _ _ => rfl)) as_nil))) pe_int))), ?_⟩
    obtain ⟨ys, h2, m2⟩ := L.ro
    refine ⟨_, rfl, a.m, .ref a.q, rfl, lK_rows a ▸ DGet.k (k := Sum.inr "rows") L.ob, a.q, _, rfl, .inl (SqL.ofL h2), _, rfl, a.m, .ref a.g, rfl, lK_gone a ▸ DGet.k (k := Sum.inr "gone") L.ob, a.g, _, rfl, .inl (SqL.ofL L.go), _, _, rfl, rfl, _, _, rfl, rfl, ?_⟩
    rw [m2.len, List.length_map]; exact q
abbrev s_l_goes_on : Stmt := top 20
abbrev N_l_goes_on : List Str := ["_law_mine", "_law_found", "_law_message"]
theorem sc_l_goes_on : FnScope N_l_goes_on ["_law_mine"] (defScope s_l_goes_on) := ⟨rfl, rfl, rfl, by decide +kernel, rfl, by decide +kernel, by decide +kernel⟩
theorem ok_l_goes_on {f : Addr} {fd : FuncData} (F : Fun K "_law_goes_on" "_law_goes_on" s_l_goes_on f fd) (T : Txt mg) (c_l_expects : Callee P w K mg base 1 "_law_expects" ["_law_mine"] spLExp) : FnOk P w K mg base CX0 2 f fd ["_law_mine"] spLGo := by
  refine F.ok sc_l_goes_on (fun vs H Q E h => ?_) (fun cdv A outer s0 H vs Q E hr h => ?_)
  · obtain ⟨a, s, rfl, _⟩ := h; rfl
  · obtain ⟨a, s, rfl, L, hd, hsz, q⟩ := h
    refine ⟨_, (pss_cons (ps_set (i := 1) sc_l_goes_on.nd rfl (Or.inl rfl) (as_lst as_nil))
      (pss_cons (ps_while PassesOwn.never (pt_cmp (pc_din (hu_of hr) (as_fn c_l_expects (hr.mono (by decide)) (at_cons (pv 0) as_nil)) (pe_dget (hu_of hr) (pv 0) pe_str (fun _ _ => rfl)))) (pss_cons (ps_set (i := 2) sc_l_goes_on.nd rfl (Or.inl rfl) (pe_dpop1 (pe_dget (hu_of hr) (pv 0) pe_str (fun _ _ => rfl)) (as_fn c_l_expects (hr.mono (by decide)) (at_cons (pv 0) as_nil)) ⟨rfl, rfl, rfl, rfl⟩))
      (pss_cons (ps_expr (k_bm K PySem.F.plainAttrs_list PySem.F.slot_list_append PySem.F.type_list_append mt_append (pe_dget (hu_of hr) (pv 0) pe_str (fun _ _ => rfl)) (pa_cons (pv 2) pa_nil)))
      (pss_one (ps_expr (k_bm K PySem.F.plainAttrs_list PySem.F.slot_list_append PySem.F.type_list_append mt_append (pv 1) (pa_cons (pv 2) pa_nil)))))))
      (pss_one (ps_ret (pv 1))))), ?_⟩
    refine ⟨Nat.zero_le _, fun l hl0 => ?_⟩
    have nl : l ∉ a.fp := L.free hl0
    have s1 := Same.new (o := .lst []) hl0
    let W : Nat → St → Hp → Prop := fun m σ H' => ∃ (t : HS) (found : List Msg) (fs : List V) (o2 : Option V), m = t.held.length ∧ σ = [some (.ref a.m), some (.ref l), o2] ∧ hearS t = hearS s ∧ t.heard = s.heard ++ found ∧ t.heard.length + t.held.length = s.heard.length + s.held.length ∧ Diff t.held ∧ LAt H' a t ∧ H' l = some (.lst fs) ∧ Ms H' fs found ∧ Stp a.fp H (l :: a.fp) H'
    refine ⟨W, ⟨_, s, [], [], none, rfl, rfl, rfl, (List.append_nil _).symm, rfl, hd, L.same s1, upd_same, Ms.nil, Stp.make hl0⟩, ?_⟩
    rintro m σ H' ⟨t, found, fs, o2, rfl, rfl, et, eh, esz, hdt, Lt, gl, gm, st⟩
    obtain ⟨nmq, nmh, nmg, nqh, nqg, nhg⟩ := Lt.apart
    obtain ⟨g1, ⟨yq, g2, m2⟩, ⟨kv, g3, d3⟩, g4, _, _⟩ := id Lt
    have nl' : l ≠ a.m ∧ l ≠ a.q ∧ l ≠ a.h ∧ l ≠ a.g := by simpa [LA.fp] using nl
    have hlf := congrArg List.length eh
    rw [List.length_append] at hlf
    refine ⟨_, rfl, a, t, rfl, Lt, _, rfl, a.m, .ref a.h, rfl, lK_held a ▸ DGet.k (k := Sum.inr "held") g1, a.h, _, rfl, DGet.k (k := Sum.inl t.next) g3, _, rfl, ?_⟩
    cases e : findN t.held t.next with
    | none =>
      rw [d3.none _ e]
      have eS : hearS s = t := by rw [← et]; exact hearS_none e
      rw [eS] at q
      exact iteF ⟨_, rfl, q l fs found _ Lt eh st hl0 nl gl gm⟩
    | some m =>
      obtain ⟨c, hv, hc⟩ := d3.some _ e
      obtain ⟨hmm, hmn⟩ := findN_some e
      rw [hv]
      refine iteT ⟨fun σ' H2 => ∃ m', m' < t.held.length ∧ W m' σ' H2, fun _ _ z => z, ?_⟩
      refine ⟨_, rfl, a.m, .ref a.h, rfl, lK_held a ▸ DGet.k (k := Sum.inr "held") g1, a.h, rfl, .inl ⟨kv, .inl g3⟩, _, rfl, a, t, rfl, Lt, kv, Sum.inl t.next, .ref c, g3, rfl, hv, ?_⟩
      have sa := Stp.put (ps := [a.h]) (o := .dK (dropK kv (Sum.inl t.next))) g3 (fun _ z => by cases z) (by simp)
      have g1a := sa.keep g1 (by simp [nmh])
      have g2a := sa.keep g2 (by simp [nqh])
      refine ⟨_, rfl, a.m, .ref a.q, rfl, lK_rows a ▸ DGet.k (k := Sum.inr "rows") g1a, .inl ⟨rfl, _, SqL.ofL g2a⟩, _, rfl, a.q, _, _, rfl, rfl, g2a, by rw [m2.len, sizeLine_eq]; omega, ?_⟩
      have sb := Stp.put (ps := [a.q]) (o := .lst (yq ++ [.ref c])) g2a (fun _ z => by cases z) (by simp)
      have glb := sb.keep (sa.keep gl (by simp [nl'.2.2.1])) (by simp [nl'.2.1])
      refine ⟨_, rfl, .inl ⟨rfl, _, SqL.ofL glb⟩, _, rfl, l, _, _, rfl, rfl, glb, by rw [gm.len, sizeLine_eq]; omega, ?_⟩
      have sc := Stp.put (ps := [l]) (o := .lst (fs ++ [.ref c])) glb (fun _ z => by cases z) (by simp)
      have tps := (sa.tup.trans sb.tup).trans sc.tup
      have hcz := tps _ _ hc
      have dl := dropN_len hdt hmm
      refine ⟨_, dropN_lt hmm, ⟨t.heard ++ [m], dropN t.held m.n, t.lost⟩, found ++ [m], fs ++ [.ref c], _, rfl, rfl, by rw [← hearS_some e]; exact et, by rw [eh, List.append_assoc], by show (t.heard ++ [m]).length + (dropN t.held m.n).length = _; rw [List.length_append, List.length_singleton]; omega, dropN_diff hdt,
        ⟨sc.keep (sb.keep g1a (by simp [nmq])) (by simp [nl'.1.symm]), ⟨_, sc.keep upd_same (by simp [nl'.2.1.symm]), (m2.tups tps).append (Ms.one hcz)⟩, ⟨_, sc.keep (sb.keep upd_same (by simp [nqh.symm])) (by simp [nl'.2.2.1.symm]), by rw [hmn]; exact (d3.drop t.next).tups tps⟩, sc.keep (sb.keep (sa.keep g4 (by simp [nhg.symm])) (by simp [nqg.symm])) (by simp [nl'.2.2.2.symm]), nqg, nmh⟩, upd_same, (gm.tups tps).append (Ms.one hcz), ?_⟩
      exact st.trans ((sa.weak (qs := l :: a.fp) (by simp [LA.fp]) (fun _ z => .inr z)).trans ((sb.weak (qs := l :: a.fp) (by simp [LA.fp]) (fun _ z => .inr z)).trans (sc.up (by simp))))

abbrev s_l_takes : Stmt := top 21
abbrev N_l_takes : List Str := ["_law_mine", "_law_message", "_law_known", "_law_other"]
theorem sc_l_takes : FnScope N_l_takes ["_law_mine", "_law_message"] (defScope s_l_takes) := ⟨rfl, rfl, rfl, by decide +kernel, rfl, by decide +kernel, by decide +kernel⟩
theorem ok_l_takes {f : Addr} {fd : FuncData} (F : Fun K "_law_takes" "_law_takes" s_l_takes f fd) (T : Txt mg) (c_l_expects : Callee P w K mg base 1 "_law_expects" ["_law_mine"] spLExp) (c_l_goes_on : Callee P w K mg base 2 "_law_goes_on" ["_law_mine"] spLGo) : FnOk P w K mg base CX0 3 f fd ["_law_mine", "_law_message"] spLTake := by
  refine F.ok sc_l_takes (fun vs H Q E h => ?_) (fun cdv A outer s0 H vs Q E hr h => ?_)
  · obtain ⟨a, s, c, m, rfl, _⟩ := h; rfl
  · obtain ⟨a, s, c, m, rfl, L, hg, hc, hm, h9, q⟩ := h
    refine ⟨_, (pss_cons (ps_set (i := 2) sc_l_takes.nd rfl (Or.inl rfl) (as_callTy call_dictD (by rfl) T.b_dict PyProof.Rows.boot_dict (at_cons (pe_dget (hu_of hr) (pv 0) pe_str (fun _ _ => rfl)) as_nil)))
      (pss_cons (ps_for PassesOwn.never rfl (k_it_list K (pe_dget (hu_of hr) (pv 0) pe_str (fun _ _ => rfl))) (pg_name (i := 3) sc_l_takes.nd rfl (Or.inl rfl)) (pss_one (ps_dput (hu_of hr) (pv 2) (pe_ix (k_ix_tup K) (pv 3) pe_int (fun _ _ => rfl)) (pv 3) rfl)))
      (pss_cons (ps_if (pt_cmpR (op_neD hr.units) (pe_dget2 (hu_of hr) (pv 2) (pe_ix (k_ix_tup K) (pv 1) pe_int (fun _ _ => rfl)) (pv 1) ⟨rfl, rfl, rfl, rfl⟩) (pv 1) (nomark _)) (pss_one (ps_ret (as_tup (as_cons pe_str (as_cons pe_int as_nil))))) pss_nil)
      (pss_cons (ps_if (pt_cmpR op_ge (pe_ix (k_ix_tup K) (pv 1) pe_int (fun _ _ => rfl)) (as_fn c_l_expects (hr.mono (by decide)) (at_cons (pv 0) as_nil)) (nomark _)) (pss_one (ps_dput (hu_of hr) (pe_dget (hu_of hr) (pv 0) pe_str (fun _ _ => rfl)) (pe_ix (k_ix_tup K) (pv 1) pe_int (fun _ _ => rfl)) (pv 1) rfl)) pss_nil)
      (pss_one (ps_ret (as_fn c_l_goes_on (hr.mono (by decide)) (at_cons (pv 0) as_nil)))))))), ?_⟩
    obtain ⟨g1, ⟨yq, g2, m2⟩, ⟨kv, g3, d3⟩, g4, _, _⟩ := id L
    have hsz := hg.toHG0.sizes hg.toHG0.pos
    -- known
    refine ⟨_, rfl, a.m, .ref a.h, rfl, lK_held a ▸ DGet.k (k := Sum.inr "held") g1, a.h, kv, rfl, g3, fun k nk => ?_⟩
    have s1 := Same.new (o := .dK kv) nk
    have nka := L.free nk
    refine ⟨_, rfl, a.m, .ref a.q, rfl, lK_rows a ▸ DGet.k (k := Sum.inr "rows") (s1 _ _ g1), a.q, rfl, ⟨_, SqL.ofL (s1 _ _ g2)⟩, for_list (K := K) (a := a.q) (xs := yq) (fun i σ H' => ∃ (o3 : Option V) (kvs : List (Key × V)) (ms : List Msg), σ = [some (.ref a.m), some (.ref c), some (.ref k), o3] ∧ Stp [] H [k] H' ∧ H' k = some (.dK kvs) ∧ DI H' kvs ms ∧ Diff ms ∧ ms.length ≤ s.held.length + i ∧ ∀ x, x ∈ ms ↔ x ∈ s.held ∨ x ∈ s.heard.take i)
      ⟨_, kv, s.held, rfl, Stp.make nk, upd_same, d3.same s1, hg.dh, Nat.le_refl _, fun x => by rw [List.take_zero]; simp⟩ (fun i σ H' _ h => ?_) ?_ ?_⟩
    · obtain ⟨o3, kvs, ms, rfl, w, _⟩ := h
      exact SqL.ofL (w.same _ _ g2)
    · rintro i y σ H' hi ⟨o3, kvs, ms, rfl, w, hk, dk, hd, hml, hmem⟩
      have hil : i < s.heard.length := by rw [← m2.len]; exact (List.getElem?_eq_some_iff.mp hi).1
      obtain ⟨cx, ec, hcx⟩ := (m2.same w.same).get hil
      rw [hi] at ec
      obtain rfl := Option.some.inj ec
      refine rd_name ?_
      have hin : s.heard[i] ∈ s.heard := List.getElem_mem hil
      have new : ∀ x ∈ ms, x.n ≠ (s.heard[i]).n := fun x hx => by
        rcases (hmem x).mp hx with z | z
        · exact hg.toHG0.apart _ hin x z
        · obtain ⟨j, hj, rfl⟩ := List.getElem_of_mem z
          rw [List.length_take] at hj
          rw [List.getElem_take]
          have := List.pairwise_iff_getElem.mp hg.rise j i (by omega) hil (by omega)
          omega
      refine ⟨_, rfl, _, rfl, _, rfl, cx, _, 0, _, rfl, rfl, SqT.ofT hcx, rfl, k, _, rfl, DPut.k (k := Sum.inl (s.heard[i]).n) hk (by rw [dk.len, sizeLine_eq]; omega), ?_⟩
      have st := Stp.put (ps := [k]) (o := .dK (putK kvs (Sum.inl (s.heard[i]).n) (.ref cx))) hk (fun _ z => by cases z) (by simp)
      have e : putM ms s.heard[i] = ms ++ [s.heard[i]] := putM_new new
      refine ⟨_, _, putM ms s.heard[i], rfl, w.trans st, upd_same, (dk.tups st.tup).put (msg_has (st.tup _ _ hcx)), putM_diff (fun x hx z => absurd z (new x hx)) hd, by have := putM_len (ms := ms) (m := s.heard[i]); omega, fun x => ?_⟩
      rw [putM_mem (fun x hx z => absurd z (new x hx)), hmem, List.take_add_one, List.getElem?_eq_getElem hil, Option.toList_some, List.mem_append, List.mem_singleton, or_assoc]
    · rintro σ H' ⟨o3, kvs, ms, rfl, w, hk, dk, hd, hml, hmem⟩
      rw [m2.len, List.take_length] at hmem
      have hc' := w.same _ _ hc
      have L' := L.same w.same
      have okx : ∀ x ∈ ms, mOk x := fun x hx => by
        rcases (hmem x).mp hx with z | z
        · exact (hg.ok x (.inr z)).1
        · exact (hg.ok x (.inl z)).1
      refine ⟨_, rfl, k, rfl, .inl ⟨kvs, .inl hk⟩, _, rfl, c, _, 0, _, rfl, rfl, SqT.ofT hc', rfl, _, rfl, _, DGet.k (k := Sum.inl m.n) hk, _, rfl, ?_⟩
      rcases q with ⟨hf, q⟩ | ⟨⟨x, hx, hxn, hxm⟩, q⟩
      case inr =>
        have hxm' : x ∈ ms := (hmem x).mpr hx.symm
        have efx : findN ms m.n = some x := by rw [← hxn]; exact findN_mem hd hxm'
        obtain ⟨cx, hv, hcx⟩ := dk.some _ efx
        rw [hv]
        refine ⟨_, _, msg_has hcx, msg_has hc', shaped_m (okx x hxm'), shaped_m hm, _, rfl, ?_⟩
        rw [eqv_m, decide_eq_false hxm]
        exact iteT ⟨(show 2 ≤ sizeLine by decide), fun q0 n0 => q _ _ (w.same.trans (Same.new n0)) (r3D_has upd_same)⟩
      have ht : ∃ cx, (valV kvs (Sum.inl m.n)).getD (.ref c) = .ref cx ∧ H' cx = some (mT m) := by
        cases e : findN ms m.n with
        | none => rw [dk.none _ e]; exact ⟨c, rfl, hc'⟩
        | some x =>
          obtain ⟨cx, hv, hcx⟩ := dk.some _ e
          obtain ⟨e1, e2⟩ := findN_some e
          have : x = m := hf.1 m (by simp) x ((hmem x).mp e1).symm e2
          rw [hv]
          exact ⟨cx, rfl, by rw [hcx, this]⟩
      obtain ⟨cx, hv, hcx⟩ := ht
      rw [hv]
      refine ⟨_, _, msg_has hcx, msg_has hc', shaped_m hm, shaped_m hm, _, rfl, ?_⟩
      rw [eqv_m, decide_eq_true rfl]
      refine iteF ?_
      obtain ⟨j1, ⟨yq', j2, mj2⟩, ⟨kv', j3, dj3⟩, j4, nqg, nmh⟩ := id L'
      obtain ⟨nmq, _, nmg, nqh, _, nhg⟩ := L'.apart
      refine ⟨_, rfl, c, _, 0, _, rfl, rfl, SqT.ofT hc', rfl, _, rfl, a, s, rfl, L', _, _, rfl, rfl, _, rfl, ?_⟩
      refine ite2 (fun z => ?_) (fun z => ?_)
      · have z' : m.n ≥ s.next := of_decide_eq_true z
        have eA : addS s m = ⟨s.heard, putM s.held m, s.lost⟩ := by unfold addS; rw [if_pos z']
        have hs : ∀ x ∈ s.held, x.n = m.n → x = m := fun x hx e => hf.1 m (by simp) x (.inr hx) e
        refine ⟨_, rfl, _, rfl, a.m, .ref a.h, rfl, lK_held a ▸ DGet.k (k := Sum.inr "held") j1, _, rfl, c, _, 0, _, rfl, rfl, SqT.ofT hc', rfl, a.h, _, rfl, DPut.k (k := Sum.inl m.n) j3 (by rw [dj3.len, sizeLine_eq]; omega), ?_⟩
        have sa := Stp.put (ps := [a.h]) (o := .dK (putK kv' (Sum.inl m.n) (.ref c))) j3 (fun _ z => by cases z) (by simp)
        have L2 : LAt (upd H' a.h (.dK (putK kv' (Sum.inl m.n) (.ref c)))) a (addS s m) := by
          rw [eA]
          exact ⟨sa.keep j1 (by simp [nmh]), ⟨yq', sa.keep j2 (by simp [nqh]), mj2.step sa⟩, ⟨_, upd_same, (dj3.tups sa.tup).put (msg_has (sa.tup _ _ hc'))⟩, sa.keep j4 (by simp [nhg.symm]), nqg, nmh⟩
        have hpl : (putM s.held m).length ≤ s.held.length + 1 := putM_len
        refine ⟨_, rfl, a, addS s m, rfl, L2, by rw [eA]; exact putM_diff hs hg.dh, by rw [eA]; show s.heard.length + (putM s.held m).length < 1000; omega, fun l ys found H3 L3 eh st nl ol el ml => ?_⟩
        have nlh : l ≠ a.h := fun e => by rw [e, upd_same] at nl; cases nl
        rw [upd_ne nlh] at nl
        refine q l ys found H3 L3 (by rw [addS_heard] at eh; exact eh) ((w.same.step a.fp).trans ((sa.up (by simp [LA.fp])).trans st)) (w.same.free nl) ol el ml
      · have z' : ¬ m.n ≥ s.next := fun y => z (decide_eq_true y)
        have eA : addS s m = s := by unfold addS; rw [if_neg z']
        have eT : takeS s [m] = hearS s := by show hearS (addS s m) = _; rw [eA]
        rw [eT] at q
        exact ⟨_, rfl, a, s, rfl, L', hg.dh, by omega, fun l ys found H3 L3 eh st nl ol el ml => q l ys found H3 L3 eh ((w.same.step a.fp).trans st) (w.same.free nl) ol el ml⟩
structure TxtX (K : PySem.W.Frag) (mg : Str → Option Value) (CT CN CR CK CO : Addr) : Prop where
  a_TellError : mg "TellError" = some (.ref CT)
  a_NoNumber : mg "NoNumber" = some (.ref CN)
  a_NoRoad : mg "NoRoad" = some (.ref CR)
  a_Taken : mg "Taken" = some (.ref CK)
  a_Other : mg "Other" = some (.ref CO)
  z : ExcCls K CO
  iN : PySem.W.kitOne K (.ref CO) (.ref CN) = some false
  iR : PySem.W.kitOne K (.ref CO) (.ref CR) = some false
  iK : PySem.W.kitOne K (.ref CO) (.ref CK) = some false
  iO : PySem.W.kitOne K (.ref CO) (.ref CO) = some true
  iV : PySem.W.kitOne K (.ref CO) (.type "ValueError") = some true
  em : PySem.W.exmOne K (.ref CO) (.ref CT) = some true
theorem boot_ValueError : bootBuiltins "ValueError" = some (.type "ValueError") := by rfl
theorem first3 : ∀ m, m < 3 → ([false, false, false, true] : List Bool)[m]? = some false := by
  intro m hm
  have hc : m = 0 ∨ m = 1 ∨ m = 2 := by omega
  rcases hc with rfl | rfl | rfl <;> rfl
def spRefused (CO : Addr) : Sp := fun vs H Q _ => ∃ a, vs = [.ref a] ∧ H a = some (ExcO a (.ref CO)) ∧ ∀ q H', Same H H' → H' q = some (.tup [.str "refused", .int 3]) → Q (.ref q) H'
abbrev s_l_refused : Stmt := top 23
abbrev N_l_refused : List Str := ["_law_e", "_law_flags"]
theorem sc_l_refused : FnScope N_l_refused ["_law_e"] (defScope s_l_refused) := ⟨rfl, rfl, rfl, by decide +kernel, rfl, by decide +kernel, by decide +kernel⟩
theorem ok_l_refused {f CT CN CR CK CO : Addr} {fd : FuncData} (F : Fun K "_law_refused" "_law_refused" s_l_refused f fd) (T : Txt mg) (TX : TxtX K mg CT CN CR CK CO) : FnOkH P w K mg base CX0 1 f fd ["_law_e"] (spRefused CO) := by
  refine F.okH sc_l_refused (fun vs H Q E h => ?_) (fun cdv A outer s H vs Q E hr h => ?_)
  · obtain ⟨a, rfl, _⟩ := h; rfl
  · obtain ⟨a, rfl, ha, q⟩ := h
    refine ⟨_, (pss_cons (ps_set (i := 1) sc_l_refused.nd rfl (Or.inl rfl) (as_lst (as_cons (as_callB (k_isiX K (c := .ref CN) ref_one) (by rfl) T.b_isinstance PyProof.Rows.boot_isinstance (at_cons (pv 0) (as_cons (pe_glob (v := .ref CN) rfl TX.a_NoNumber rfl) as_nil))) (as_cons (as_callB (k_isiX K (c := .ref CR) ref_one) (by rfl) T.b_isinstance PyProof.Rows.boot_isinstance (at_cons (pv 0) (as_cons (pe_glob (v := .ref CR) rfl TX.a_NoRoad rfl) as_nil))) (as_cons (as_callB (k_isiX K (c := .ref CK) ref_one) (by rfl) T.b_isinstance PyProof.Rows.boot_isinstance (at_cons (pv 0) (as_cons (pe_glob (v := .ref CK) rfl TX.a_Taken rfl) as_nil))) as_nil)))))
      (pss_cons (ps_set (i := 1) sc_l_refused.nd rfl (Or.inl rfl) (pe_op op_cat (pv 1) (as_lst (as_cons (as_callB (k_isiX K (c := .ref CO) ref_one) (by rfl) T.b_isinstance PyProof.Rows.boot_isinstance (at_cons (pv 0) (as_cons (pe_glob (v := .ref CO) rfl TX.a_Other rfl) as_nil))) as_nil))))
      (pss_cons (ps_if (PW.pt (pw_or (pt_cmpR op_ne (k_bm K PySem.F.plainAttrs_list PySem.F.slot_list_count PySem.F.type_list_count mt_countB (pv 1) (pa_cons pe_bl pa_nil)) pe_int (nomark _)) (pw_or1 (pt_not (pt_val (as_callB (k_isiX K (c := .type "ValueError") ty_one) (by rfl) T.b_isinstance PyProof.Rows.boot_isinstance (at_cons (pv 0) (as_cons (pe_bltn (v := .ty "ValueError") (by rfl) T.b_ValueError boot_ValueError rfl) as_nil)))))))) (pss_one (ps_ret (as_tup (as_cons pe_str (as_cons (pe_un un_neg pe_int) as_nil))))) pss_nil)
      (pss_one (ps_ret (as_tup (as_cons pe_str (as_cons (k_bm K PySem.F.plainAttrs_list PySem.F.slot_list_index PySem.F.type_list_index mt_indexB (pv 1) (pa_cons pe_bl pa_nil)) as_nil)))))))), ?_⟩
    refine ⟨_, rfl, a, CO, _, false, rfl, rfl, ha, TX.z, TX.iN, ?_⟩
    refine ⟨_, rfl, a, CO, _, false, rfl, rfl, ha, TX.z, TX.iR, ?_⟩
    refine ⟨_, rfl, a, CO, _, false, rfl, rfl, ha, TX.z, TX.iK, ?_⟩
    refine ⟨(show 3 ≤ sizeLine by decide), fun l hl => ?_⟩
    have s1 := Same.new (o := .lst [.bl false, .bl false, .bl false]) hl
    refine ⟨_, rfl, _, rfl, a, CO, _, true, rfl, rfl, s1 _ _ ha, TX.z, TX.iO, (show 1 ≤ sizeLine by decide), fun l2 hl2 => ?_⟩
    have s2 := Same.new (o := .lst [.bl true]) hl2
    refine ⟨l, l2, _, _, rfl, rfl, s2 _ _ upd_same, upd_same, (show 4 ≤ sizeLine by decide), fun l3 hl3 => ?_⟩
    have s3 := Same.new (o := .lst ([.bl false, .bl false, .bl false] ++ [.bl true])) hl3
    have t3 := (s1.trans s2).trans s3
    have e3 : upd (upd (upd H l (.lst [.bl false, .bl false, .bl false])) l2 (.lst [.bl true])) l3 (.lst ([.bl false, .bl false, .bl false] ++ [.bl true])) l3 = some (.lst ([false, false, false, true].map V.bl)) := upd_same
    generalize upd (upd (upd H l (.lst [.bl false, .bl false, .bl false])) l2 (.lst [.bl true])) l3 (.lst ([.bl false, .bl false, .bl false] ++ [.bl true])) = H3 at t3 e3 s3 ⊢
    refine ⟨_, rfl, .inl ⟨rfl, _, SqL.ofL e3⟩, l3, [false, false, false, true], rfl, rfl, e3, rfl, _, rfl, ?_⟩
    refine iteF ?_
    refine ⟨_, rfl, a, CO, _, true, rfl, rfl, t3 _ _ ha, TX.z, TX.iV, _, rfl, ?_⟩
    refine iteF ?_
    refine ⟨_, rfl, .inl ⟨rfl, _, SqL.ofL e3⟩, l3, [false, false, false, true], 3, rfl, rfl, e3, rfl, first3, (show 2 ≤ sizeLine by decide), fun p hp => ?_⟩
    exact q p _ (t3.trans (Same.new hp)) upd_same

def spToldS (C CH : Addr) : Sp := fun vs H Q _ => ∃ a l f story n c m, vs = [.ref (SA.p a), .str n, .ref c] ∧ SAt C CH H a l f story ∧ H c = some (mT m) ∧ (n ∉ l.map (·.1) → f n = hs0) ∧ mOk m ∧ HG (f n) ∧ m.n ≤ 9 ∧ story.length < 1000 ∧ l.length < 100 ∧
  ((Fits (f n) [m] ∧ ∀ l' found H', SAt C CH H' a l' (updS f n (takeS (f n) [m])) (story ++ found.map fun m => (n, m)) → (takeS (f n) [m]).heard = (f n).heard ++ found → Stp (a.fp l) H (a.fp l') H' → ((n ∈ l.map (·.1) ∧ l' = l) ∨ (n ∉ l.map (·.1) ∧ ∃ b, l' = l ++ [(n, b)])) → Q (.int (found.length : Int)) H') ∨
   (Clash (f n) m ∧ ∀ v H', Same H H' → Has H' v r3D → Q v H'))
abbrev s_l_told : Stmt := top 24
abbrev N_l_told : List Str := ["_law_sources", "_law_source", "_law_message", "_law_e"]
theorem sc_l_told : FnScope N_l_told ["_law_sources", "_law_source", "_law_message"] (defScope s_l_told) := ⟨rfl, rfl, rfl, by decide +kernel, rfl, by decide +kernel, by decide +kernel⟩
theorem ok_l_told {f C CH CT CN CR CK CO : Addr} {fd : FuncData} (F : Fun K "_law_told" "_law_told" s_l_told f fd) (TC : TxtC K mg C CH) (TX : TxtX K mg CT CN CR CK CO) (c_l_refused : CalleeH P w K mg base 1 "_law_refused" ["_law_e"] (spRefused CO))
    (mx_Sources_take : CalleeMX P w K mg base 5 C "take" ["self", "source", "message"] (spSTakeX C CH CO)) :
    FnOk P w K mg base CX0 6 f fd ["_law_sources", "_law_source", "_law_message"] (spToldS C CH) := by
  refine F.ok sc_l_told (fun vs H Q E h => ?_) (fun cdv A outer s0 H vs Q E hr h => ?_)
  · obtain ⟨a, l, f, story, n, c, m, rfl, _⟩ := h; rfl
  · obtain ⟨a, l, f, story, n, c, m, rfl, hA, hc, hn0, hm, hg, h9, hst, hl, q⟩ := h
    let EX : XK := fun cls _ H' => cls = .ref CO ∧ Same H H' ∧ ∀ v H2, Same H H2 → Has H2 v r3D → Q v H2
    refine ⟨_, (pss_one (ps_tryAs K (i := 3) (E := EX) (fun _ _ hp => (pss_one (ps_ret (as_methX mx_Sources_take TC.cl_Sources (hr.mono (by decide)) hp (pv 0) (at_cons (pv 1) (as_cons (pv 2) as_nil)))))) TX.a_TellError (fun _ => (pss_one (ps_ret (as_fnH c_l_refused ((hr.h _).mono (by decide)) (at_cons (pv 3) as_nil))))) sc_l_told.nd rfl rfl rfl rfl rfl)), ?_⟩
    obtain ⟨dx, h1⟩ := hA.ob
    have hsz := hg.toHG0.sizes hg.toHG0.pos
    refine ⟨?_, ?_⟩
    · refine ⟨_, rfl, a.p, dx, _, rfl, h1, no_sr (.inl rfl), _, rfl, _, rfl, a, l, f, story, n, c, m, rfl, hA, hc, hn0, hm, fun x hx => (hg.ok x hx).1, hg.dh, by omega, hst, hl, ?_⟩
      rcases q with ⟨hf, q⟩ | ⟨hcl, q⟩
      · have hg' := hg.take hf hm h9
        have hs' := hg'.toHG0.sizes hg'.toHG0.pos
        exact .inl ⟨hf, by omega, q⟩
      · exact .inr ⟨hcl, fun H' s1 => ⟨rfl, s1, q⟩⟩
    · rintro cls e H' ⟨rfl, s0', qE⟩ ha
      refine ⟨TX.em, ?_⟩
      have s1 := Same.new (o := ExcO e (.ref CO)) ha
      exact ⟨_, rfl, e, rfl, upd_same, fun q1 H2 s2 e2 => qE _ _ ((s0'.trans s1).trans s2) (r3D_has e2)⟩

end
end K52

namespace K52
open PySem L2
def spLaw (K : PySem.W.Frag) : Sp := fun vs H Q _ => ∃ (a : Addr) (ns : List Int), vs = [.ref a] ∧ SqL K H a (ns.map V.int) ∧ ns.length ≤ 63 ∧ ∀ H', Q (.bl true) H'
theorem marks_nd {l : HL} (d : DisH l) (g : Str → Int) : ((l.map (fun x => (x.1, g x.1))).map (·.1)).Nodup := by
  rw [List.map_map]; exact d.nd
def N3 : List Str := ["s", "t", "uu"]
theorem n3_ok : ∀ n ∈ N3, PyData.strOk n = true := by decide +kernel
theorem tx_ok : PyData.strOk "a" = true ∧ PyData.strOk "x" = true ∧ PyData.strOk "y" = true := by decide +kernel
theorem rw_lay : ∀ {st : List (Str × Msg)}, (∀ r ∈ st, r.1 ∈ N3 ∧ mOk r.2) → PyData.canLayAll0 (st.map rwD) = true ∧ PyData.depthAll (st.map rwD) ≤ 1
  | [], _ => ⟨rfl, Nat.zero_le _⟩
  | r :: st, h => by
    obtain ⟨h1, h2⟩ := rw_lay fun x hx => h x (List.mem_cons_of_mem _ hx)
    obtain ⟨g1, g2, g3⟩ := h r List.mem_cons_self
    refine ⟨?_, ?_⟩
    · simp [PyData.canLayAll0, PyData.canLay0, rwD, n3_ok _ g1, g2, g3, h1]
    · simp only [List.map_cons, PyData.depthAll, rwD, PyData.depth]
      omega
theorem rw_shaped {st : List (Str × Msg)} (h : ∀ r ∈ st, r.1 ∈ N3 ∧ mOk r.2) : SeqAt.shaped (.list (st.map rwD)) = true := by
  obtain ⟨h1, h2⟩ := rw_lay h
  have h3 : PyData.depth (.list (st.map rwD)) ≤ 64 := by simp only [PyData.depth]; omega
  show (PyData.canLay0 (.list (st.map rwD)) && decide (PyData.depth (.list (st.map rwD)) ≤ 64)) = true
  rw [Bool.and_eq_true]
  exact ⟨by simp only [PyData.canLay0]; exact h1, decide_eq_true h3⟩
theorem shaped_int (i : Int) : SeqAt.shaped (.int i) = true := by
  show (PyData.canLay0 (.int i) && decide (PyData.depth (.int i) ≤ 64)) = true
  simp [PyData.canLay0, PyData.depth]
structure I5 (H0 H : Hp) (C CH : Addr) (S : SA) (l : HL) (pm : Addr) (ll : LL) (f : Str → HS) (story : List (Str × Msg)) (pr : Addr) (yr : List V) (i : Nat) : Prop where
  w : W5 H0 H C CH S l pm ll f f story
  nm : ll.map (·.1) = l.map (·.1)
  n3 : ∀ n ∈ l.map (·.1), n ∈ N3
  no : ∀ n, n ∉ l.map (·.1) → f n = hs0
  hg : ∀ n, HG (f n)
  er : H pr = some (.lst yr)
  hr : HasL H yr (story.map rwD)
  nr : pr ∉ S.fp l ++ (pm :: fpL ll)
  ok : ∀ r ∈ story, r.1 ∈ N3 ∧ mOk r.2
  sz : story.length ≤ 9 * i
theorem I5.same {H0 H H' : Hp} {C CH : Addr} {S : SA} {l : HL} {pm : Addr} {ll : LL} {f : Str → HS} {story : List (Str × Msg)} {pr : Addr} {yr : List V} {i : Nat} (h : I5 H0 H C CH S l pm ll f story pr yr i) (e : Same H H') : I5 H0 H' C CH S l pm ll f story pr yr i :=
  ⟨h.w.same e, h.nm, h.n3, h.no, h.hg, e _ _ h.er, HasL.same e h.hr, h.nr, h.ok, h.sz⟩
theorem I5.stp {H0 H H' : Hp} {C CH : Addr} {S : SA} {l : HL} {pm : Addr} {ll : LL} {f : Str → HS} {story : List (Str × Msg)} {pr : Addr} {yr : List V} {i : Nat} {po : Addr} (h : I5 H0 H C CH S l pm ll f story pr yr i) (st : Stp [po] H [po] H') (h0 : H0 po = none) (hp : po ∉ S.fp l ++ (pm :: fpL ll)) (hr : pr ≠ po) : I5 H0 H' C CH S l pm ll f story pr yr i := by
  have ne : ∀ c ∈ S.fp l ++ (pm :: fpL ll), c ∉ [po] := fun c hc z => hp (by rw [List.mem_singleton] at z; rw [← z]; exact hc)
  refine ⟨⟨h.w.sa.step st fun c hc => ne c (List.mem_append_left _ hc), st.keep h.w.dm (ne _ (List.mem_append_right _ List.mem_cons_self)), h.w.la.step st fun c hc => ne c (List.mem_append_right _ (List.mem_cons_of_mem _ hc)), h.w.dl, h.w.pml, h.w.pms, h.w.sl, ?_⟩, h.nm, h.n3, h.no, h.hg, st.keep h.er (by simp [hr]), HasL.tups st.tup (noLst_rw _) h.hr, h.nr, h.ok, h.sz⟩
  exact ⟨fun c o ho _ => st.keep (h.w.w.same c o ho) (fun z => by rw [List.mem_singleton] at z; rw [z, h0] at ho; cases ho), fun c xs ho => st.tup _ _ (h.w.w.tup _ _ ho), fun c hc => h.w.w.3 c hc⟩
theorem I5.free {H0 H : Hp} {C CH : Addr} {S : SA} {l : HL} {pm : Addr} {ll : LL} {f : Str → HS} {story : List (Str × Msg)} {pr : Addr} {yr : List V} {i : Nat} {c : Addr} (X : I5 H0 H C CH S l pm ll f story pr yr i) (h : H c = none) : c ∉ S.fp l ++ (pm :: fpL ll) := fun z => by
  rcases List.mem_append.mp z with y | y
  · exact X.w.sa.free h y
  · rcases List.mem_cons.mp y with y | y
    · rw [y, X.w.dm] at h; cases h
    · obtain ⟨o, ho⟩ := X.w.la.live c y
      rw [h] at ho; cases ho
theorem ints_none {es : List (Str × Int)} {n : Str} (h : n ∉ es.map (·.1)) : valV (intsK es) (Sum.inr n) = none := by
  induction es with
  | nil => rfl
  | cons y r ih =>
    rw [List.map_cons, List.mem_cons, not_or] at h
    refine (valV_neg ?_).trans (ih h.2)
    intro w
    exact h.1 (Sum.inr.inj w).symm
def mkM (f : Str → HS) (l : HL) : List (Str × Int) := l.map (fun x => (x.1, (f x.1).next - 1))
def N4 : List Str := ["s", "t", "uu", "v"]
theorem n4_rise : N4.Pairwise (fun x y => x.cps.toList < y.cps.toList) := by decide +kernel
theorem n4_nd : N4.Nodup := by decide +kernel
theorem lackM {f : Str → HS} {l : HL} : lackF f l (mkM f l) = [] := by
  unfold lackF
  rw [List.map_eq_nil_iff, List.filter_eq_nil_iff]
  intro e he
  obtain ⟨x, hx, rfl⟩ := List.mem_map.mp he
  have : markF f l x.1 = (f x.1).next - 1 := if_pos (List.mem_map_of_mem hx)
  simp [this]
theorem pr_uniq : ∀ {a b : List (Str × Int)}, a.Perm b → a.Pairwise (fun x y => x.1.cps.toList < y.1.cps.toList) → b.Pairwise (fun x y => x.1.cps.toList < y.1.cps.toList) → a = b
  | [], b, h, _, _ => (List.nil_perm.mp h).symm ▸ rfl
  | x :: r, [], h, _, _ => by have := h.length_eq; simp at this
  | x :: r, y :: t, h, ha, hb => by
    have hx : x ∈ y :: t := h.mem_iff.mp List.mem_cons_self
    have hy : y ∈ x :: r := h.mem_iff.mpr List.mem_cons_self
    have e : x = y := by
      rcases List.mem_cons.mp hx with z | z
      · exact z
      rcases List.mem_cons.mp hy with w | w
      · exact w.symm
      exact absurd (List.lt_trans ((List.pairwise_cons.mp ha).1 y w) ((List.pairwise_cons.mp hb).1 x z)) (List.lt_irrefl _)
    subst e
    rw [pr_uniq (List.Perm.cons_inv h) (List.pairwise_cons.mp ha).2 (List.pairwise_cons.mp hb).2]
theorem n4_ok : ∀ n ∈ N4, PyData.strOk n = true := by decide +kernel
theorem pr_lay : ∀ {st : List (Str × Int)}, (∀ r ∈ st, r.1 ∈ N4) → PyData.canLayAll0 (st.map prD) = true ∧ PyData.depthAll (st.map prD) ≤ 1
  | [], _ => ⟨rfl, Nat.zero_le _⟩
  | r :: st, h => by
    obtain ⟨h1, h2⟩ := pr_lay fun x hx => h x (List.mem_cons_of_mem _ hx)
    have g1 := h r List.mem_cons_self
    refine ⟨?_, ?_⟩
    · simp [PyData.canLayAll0, PyData.canLay0, prD, n4_ok _ g1, h1]
    · simp only [List.map_cons, PyData.depthAll, prD, PyData.depth]
      omega
theorem pr_shaped {st : List (Str × Int)} (h : ∀ r ∈ st, r.1 ∈ N4) : SeqAt.shaped (.list (st.map prD)) = true := by
  obtain ⟨h1, h2⟩ := pr_lay h
  have h3 : PyData.depth (.list (st.map prD)) ≤ 64 := by simp only [PyData.depth]; omega
  show (PyData.canLay0 (.list (st.map prD)) && decide (PyData.depth (.list (st.map prD)) ≤ 64)) = true
  rw [Bool.and_eq_true]
  exact ⟨by simp only [PyData.canLay0]; exact h1, decide_eq_true h3⟩
theorem marks_eq (l : HL) (f : Str → HS) : mkD l f = intsK (mkM f l) := by
  unfold mkD intsK mkM; rw [List.map_map]; rfl
theorem I5.len {H0 H : Hp} {C CH : Addr} {S : SA} {l : HL} {pm : Addr} {ll : LL} {f : Str → HS} {story : List (Str × Msg)} {pr : Addr} {yr : List V} {i : Nat} (h : I5 H0 H C CH S l pm ll f story pr yr i) : l.length ≤ 3 ∧ ll.length ≤ 3 := by
  have h1 : (l.map (·.1)).length ≤ N3.length := h.w.sa.dis.nd.length_le_of_subset fun n hn => h.n3 n hn
  have h2 := congrArg List.length h.nm
  rw [List.length_map, List.length_map] at h2
  rw [List.length_map] at h1
  have h3 : N3.length = 3 := rfl
  omega
abbrev s_law : Stmt := top 25
abbrev N_law : List Str := ["_law_script", "_law_sources", "_law_mine", "_law_rows", "_law_k", "_law_here", "_law_source", "_law_number", "_law_message", "_law_due", "_law_marks", "_law_others", "_law_j", "_law_one", "_law_lacks", "_law_held"]
theorem sc_law : FnScope N_law ["_law_script"] (defScope s_law) := ⟨rfl, rfl, rfl, by decide +kernel, rfl, by decide +kernel, by decide +kernel⟩
section
variable {P : Program} {w : World} {K : PySem.W.Frag} {mg : Str → Option Value} {base : Heap}
theorem ok_law {f C CH : Addr} {fd : FuncData} (F : Fun K "law" "law" s_law f fd) (T : Txt mg) (TC : TxtC K mg C CH) (c_l_drawn : Callee P w K mg base 2 "_law_drawn" ["_law_script", "_law_k", "_law_many"] (spDrawn K))
    (c_l_hearer : Callee P w K mg base 1 "_law_hearer" [] spLNew) (c_l_expects : Callee P w K mg base 1 "_law_expects" ["_law_mine"] spLExp) (c_l_takes : Callee P w K mg base 3 "_law_takes" ["_law_mine", "_law_message"] spLTake)
    (c_l_told : Callee P w K mg base 6 "_law_told" ["_law_sources", "_law_source", "_law_message"] (spToldS C CH))
    (i_Sources : CalleeI P w K mg base 1 C ["self"] (spSInit C CH)) (m_Sources_heard : CalleeM P w K mg base 1 C "heard" ["self"] (spSHeard C CH)) (m_marks : CalleeM P w K mg base 2 C "marks" ["self"] (spSMarks C CH)) (m_lacks : CalleeM P w K mg base 3 C "lacks" ["self", "marks"] (spSLacks C CH)) :
    FnOk P w K mg base CX0 7 f fd ["_law_script"] (spLaw K) := by
  refine F.ok sc_law (fun vs H Q E h => ?_) (fun cdv A outer s0 H vs Q E hr h => ?_)
  · obtain ⟨a, ns, rfl, _⟩ := h; rfl
  · obtain ⟨a, ns, rfl, hS, hlen, q⟩ := h
    refine ⟨_, (pss_cons (ps_set (i := 1) sc_law.nd rfl (Or.inl rfl) (as_make0 i_Sources (hr.mono (by decide)) TC.mg_Sources))
      (pss_cons (ps_set (i := 2) sc_law.nd rfl (Or.inr rfl) pe_dnewK)
      (pss_cons (ps_set (i := 3) sc_law.nd rfl (Or.inl rfl) (as_lst as_nil))
      (pss_cons (ps_for PassesOwn.never rfl (pi_range1 (by rfl) T.b_range (pa_cons (as_callB (call_max2 rfl) (by rfl) T.b_max PyProof.Rows.boot_max (at_cons pe_int (as_cons (as_callB (call_min2 rfl) (by rfl) T.b_min PyProof.Rows.boot_min (at_cons pe_int (as_cons (as_callB (k_len_seq K) (by rfl) T.b_len PySem.boot_len (at_cons (pv 0) as_nil)) as_nil))) as_nil))) pa_nil)) (pg_name (i := 4) sc_law.nd rfl (Or.inl rfl)) (pss_cons (ps_set (i := 5) sc_law.nd rfl (Or.inl rfl) (pe_op op_add pe_int (pe_op op_mul pe_int (pv 4))))
      (pss_cons (ps_set (i := 6) sc_law.nd rfl (Or.inr rfl) (pe_ix (k_ix_list K) (as_lst (as_cons pe_str (as_cons pe_str (as_cons pe_str as_nil)))) (as_fn c_l_drawn (hr.mono (by decide)) (at_cons (pv 0) (as_cons (pv 5) (as_cons pe_int as_nil)))) (fun _ _ => rfl)))
      (pss_cons (ps_set (i := 7) sc_law.nd rfl (Or.inl rfl) (pe_op op_add pe_int (as_fn c_l_drawn (hr.mono (by decide)) (at_cons (pv 0) (as_cons (pe_op op_add (pv 5) pe_int) (as_cons pe_int as_nil))))))
      (pss_cons (ps_set (i := 8) sc_law.nd rfl (Or.inl rfl) (as_tup (as_cons (pv 7) (as_cons pe_str (as_cons (pe_ix (k_ix_list K) (as_lst (as_cons pe_str (as_cons pe_str (as_cons pe_str (as_cons pe_str (as_cons pe_str as_nil)))))) (as_fn c_l_drawn (hr.mono (by decide)) (at_cons (pv 0) (as_cons (pe_op op_add (pv 5) pe_int) (as_cons pe_int as_nil)))) (fun _ _ => rfl)) as_nil)))))
      (pss_cut (ps_if (pt_cmp (pc_dnotin (hu_of hr) (pv 6) (pv 2))) (pss_one (ps_dput (hu_of hr) (pv 2) (pv 6) (pe_fn0 c_l_hearer (hr.mono (by decide))) rfl)) pss_nil)
      (pss_cut (ps_set (i := 9) sc_law.nd rfl (Or.inl rfl) (as_fn c_l_takes (hr.mono (by decide)) (at_cons (pe_dget (hu_of hr) (pv 2) (pv 6) (fun _ _ => rfl)) (as_cons (pv 8) as_nil))))
      (pss_cut (ps_if (pt_cmpR (op_neD hr.units) (pv 9) (as_tup (as_cons pe_str (as_cons pe_int as_nil))) (nomark _)) (pss_cons (ps_set (i := 3) sc_law.nd rfl (Or.inl rfl) (pe_op op_cat (pv 3) (pe_comp (N' := ["_law_one", "_law_source"]) (ix := [none, some 6]) (own := [0]) rfl (cs_of (osc := defScope s_law) (ON := N_law) rfl rfl (by decide +kernel)) (by decide) (k_it_list K (pv 9)) (fun _ _ _ _ => (pg_name (i := 0) (show (["_law_one", "_law_source"] : List Str).Nodup by decide +kernel) rfl (Or.inl rfl))) own_name (fun _ _ _ _ => pifs_nil) (fun _ _ _ _ => (pe_op op_catU (as_tup (as_cons (pv 1) as_nil)) (pv 0))))))
      (pss_one (ps_set (i := 9) sc_law.nd rfl (Or.inl rfl) (as_callB (k_len_seq K) (by rfl) T.b_len PySem.boot_len (at_cons (pv 9) as_nil))))) pss_nil)
      (pss_cut (ps_if (PW.pt (pw_or (pt_cmpR (op_neD hr.units) (as_fn c_l_told (hr.mono (by decide)) (at_cons (pv 1) (as_cons (pv 6) (as_cons (pv 8) as_nil)))) (pv 9) (nomark _)) (pw_or1 (pt_cmpR (op_neD hr.units) (as_meth0 m_Sources_heard TC.cl_Sources (hr.mono (by decide)) (pv 1)) (pv 3) (nomark _))))) (pss_one (ps_ret pe_bl)) pss_nil)
      (pss_cons (ps_set (i := 10) sc_law.nd rfl (Or.inr rfl) (as_callTy (call_dictP rfl) (by rfl) T.b_dict PyProof.Rows.boot_dict (at_cons (pe_thaw (pe_comp (N' := ["_law_one", "_law_mine"]) (ix := [none, some 2]) (own := [0]) rfl (cs_of (osc := defScope s_law) (ON := N_law) rfl rfl (by decide +kernel)) (by decide) (pi_keys (pv 2)) (fun _ _ _ _ => (pg_name (i := 0) (show (["_law_one", "_law_mine"] : List Str).Nodup by decide +kernel) rfl (Or.inl rfl))) own_name (fun _ _ _ _ => pifs_nil) (fun _ _ _ _ => (as_tup (as_cons (pv 0) (as_cons (pe_op op_sub (as_fn c_l_expects (hr.mono (by decide)) (at_cons (pe_dget (hu_of hr) (pv 1) (pv 0) (fun _ _ => rfl)) as_nil)) pe_int) as_nil)))))) as_nil)))
      (pss_cons (ps_if (pt_cmpR (op_neI hr.units0) (as_meth0 m_marks TC.cl_Sources (hr.mono (by decide)) (pv 1)) (pv 10) (nomark _)) (pss_one (ps_ret pe_bl)) pss_nil)
      (pss_cons (ps_set (i := 11) sc_law.nd rfl (Or.inr rfl) pe_dnewK)
      (pss_cons (ps_for PassesOwn.never rfl (pi_enum K T.b_enumerate (as_lst (as_cons pe_str (as_cons pe_str (as_cons pe_str (as_cons pe_str as_nil)))))) (k_tup K rfl (pgs_cons (pg_name (i := 12) sc_law.nd rfl (Or.inl rfl)) (pgs_cons (pg_name (i := 13) sc_law.nd rfl (Or.inl rfl)) pgs_nil))) (pss_one (ps_if (pt_cmpR op_ne (as_fn c_l_drawn (hr.mono (by decide)) (at_cons (pv 0) (as_cons (pe_op op_add (pv 5) pe_int) (as_cons pe_int as_nil)))) (pv 12) (nomark _)) (pss_one (ps_dput (hu_of hr) (pv 11) (pv 13) (pe_op op_mod (pe_op op_mul (as_fn c_l_drawn (hr.mono (by decide)) (at_cons (pv 0) (as_cons (pe_op op_add (pv 5) pe_int) (as_cons pe_int as_nil)))) (pv 12)) pe_int) rfl)) pss_nil)))
      (pss_cons (ps_comp (i := 14) sc_law.nd rfl (Or.inl rfl) (N' := ["_law_one", "_law_marks", "_law_others"]) (ix := [none, some 10, some 11]) (own := [0]) rfl (cs_of (osc := defScope s_law) (ON := N_law) rfl rfl (by decide +kernel)) (by decide) (k_it_list K (as_callB (k_sortT K rfl) (by rfl) T.b_sorted PyProof.Rows.boot_sorted (at_cons (pv 11) as_nil))) (fun _ _ _ _ => (pg_name (i := 0) (show (["_law_one", "_law_marks", "_law_others"] : List Str).Nodup by decide +kernel) rfl (Or.inl rfl))) own_name (fun _ _ _ _ => (pifs_one (pt_cmpR op_lt (pe_dget2 (hu_of hr) (pv 1) (pv 0) pe_int ⟨rfl, rfl, rfl, rfl⟩) (pe_dget (hu_of hr) (pv 2) (pv 0) (fun _ _ => rfl)) (nomark _)))) (fun _ _ _ _ => (as_tup (as_cons (pv 0) (as_cons (pe_dget2 (hu_of hr) (pv 1) (pv 0) pe_int ⟨rfl, rfl, rfl, rfl⟩) as_nil)))))
      (pss_cons (ps_set (i := 15) sc_law.nd rfl (Or.inl rfl) (as_callTy call_dictD (by rfl) T.b_dict PyProof.Rows.boot_dict (at_cons (pv 11) as_nil)))
      (pss_cons (ps_if (PW.pt (pw_or (pt_cmpR (op_neD hr.units) (as_meth m_lacks TC.cl_Sources (hr.mono (by decide)) (pv 1) (at_cons (pv 11) as_nil)) (pv 14) (nomark _)) (pw_or1 (pt_cmpR (k_ne0 K hr.units0) (as_meth m_lacks TC.cl_Sources (hr.mono (by decide)) (pv 1) (at_cons (pv 10) as_nil)) (as_lst as_nil) (nomark _))))) (pss_one (ps_ret pe_bl)) pss_nil)
      (pss_one (ps_if (PW.pt (pw_or (pt_cmpR (op_neI hr.units0) (pv 11) (pv 15) (nomark _)) (pw_or1 (pt_cmpR (op_neI hr.units0) (as_meth0 m_marks TC.cl_Sources (hr.mono (by decide)) (pv 1)) (pv 10) (nomark _))))) (pss_one (ps_ret pe_bl)) pss_nil))))))))))))))))))
      (pss_cons (ps_expr (k_bm K PySem.F.plainAttrs_list PySem.F.slot_list_append PySem.F.type_list_append mt_append (as_meth0 m_Sources_heard TC.cl_Sources (hr.mono (by decide)) (pv 1)) (pa_cons pe_non pa_nil)))
      (pss_one (ps_ret (pe_and (pe_cmpR (op_eqD hr.units) (as_meth0 m_Sources_heard TC.cl_Sources (hr.mono (by decide)) (pv 1)) (pv 3) (nomark _)) (pe_one (pe_cmpR (op_eqI hr.units0) (as_meth0 m_marks TC.cl_Sources (hr.mono (by decide)) (as_make0 i_Sources (hr.mono (by decide)) TC.mg_Sources)) pe_dnewK (nomark _))))))))))), ?_⟩
    intro p1 dx1 np1 nd1 nx1
    have o1 := Stp.obj (o := .own p1) (o' := .ins C dx1 []) np1 nd1
    refine ⟨p1, dx1, rfl, upd_same, fun S H1 ep1 hS1 st1 => ⟨rfl, ?_⟩⟩
    subst ep1
    have mk1 : Stp [] H S.own H1 := o1.trans st1
    intro pm npm
    have g2 := Same.new (o := .dK []) npm
    refine ⟨Nat.zero_le _, fun pr npr => ?_⟩
    have g3 := g2.trans (Same.new (o := .lst []) npr)
    have X3 : I5 H (upd (upd H1 pm (.dK [])) pr (.lst [])) C CH S [] pm [] (fun _ => hs0) [] pr [] 0 := by
      have hS0 := hS1 (fun _ => hs0)
      have nps := hS0.free npm
      have npr1 := g2.free npr
      have nrs := hS0.free npr1
      have nmr : pr ≠ pm := fun z => by rw [z, upd_same] at npr; cases npr
      have eS : S.fp [] = S.own := by unfold SA.fp fpH; simp
      refine ⟨⟨hS0.same g3, (Same.new (o := .lst []) npr) _ _ upd_same, (fun x hx => absurd hx List.not_mem_nil), ⟨List.nodup_nil, .nil⟩, (by unfold fpL; simp), nps, (fun c hc => by unfold fpL at hc; simp at hc), ?_⟩, rfl, (fun n hn => absurd hn List.not_mem_nil), fun _ _ => rfl, fun _ => HG.start, upd_same, hasL_nil, ?_, (fun r hr => absurd hr List.not_mem_nil), Nat.zero_le _⟩
      · have s1 : Stp S.own H1 (S.own ++ [pm]) (upd (upd H1 pm (.dK [])) pr (.lst [])) := by
          refine ⟨fun c o ho _ => g3 _ _ ho, fun c xs ho => g3 _ _ ho, fun c hc => ?_⟩
          rcases List.mem_append.mp hc with y | y
          · exact .inl y
          · rw [List.mem_singleton] at y; rw [y]; exact .inr npm
        rw [eS]
        exact mk1.trans s1
      · rw [eS]
        intro z
        rcases List.mem_append.mp z with y | y
        · exact nrs (by rw [eS]; exact y)
        · rcases List.mem_cons.mp y with y | y
          · exact nmr y
          · unfold fpL at y; simp at y
    generalize upd (upd H1 pm (.dK [])) pr (.lst []) = H3 at g3 X3 ⊢
    clear g2 npm npr mk1 o1 st1 hS1
    -- the loop
    refine ⟨_, rfl, a, _, rfl, .inl (X3.w.w.same.seq hS), 12, _, rfl, 1, _, rfl, _, rfl, ?_⟩
    generalize hN : (if (if ((List.map V.int ns).length : Int) < 12 then ((List.map V.int ns).length : Int) else 12) > 1 then (if ((List.map V.int ns).length : Int) < 12 then ((List.map V.int ns).length : Int) else 12) else 1) = N
    have hb : 1 ≤ N ∧ N ≤ 12 := by
      rw [← hN]
      split <;> split <;> omega
    refine ⟨by omega, by omega, for_range (lo := 0) (n := N.toNat) (fun i σ H' => ∃ (o4 o5 o6 o7 o8 o9 o10 o11 o12 o13 o14 o15 : Option V) (l : HL) (ll : LL) (f : Str → HS) (story : List (Str × Msg)) (pr : Addr) (yr : List V), σ = [some (.ref a), some (.ref S.p), some (.ref pm), some (.ref pr), o4, o5, o6, o7, o8, o9, o10, o11, o12, o13, o14, o15] ∧ I5 H H' C CH S l pm ll f story pr yr i)
      ⟨_, _, _, _, _, _, _, _, _, _, _, _, [], [], _, [], pr, [], rfl, X3⟩ ?_ ?_⟩
    · clear X3 g3
      rintro i σ H4 hi ⟨o4, o5, o6, o7, o8, o9, o10, o11, o12, o13, o14, o15, l, ll, f, story, pr, yr, rfl, X⟩
      have hi12 : i < 12 := by omega
      have hsz := X.sz
      have hlen3 := X.len
      refine rd_name ?_
      refine ⟨_, rfl, _, _, rfl, rfl, .inl ⟨by decide, by decide⟩, _, _, rfl, rfl, ?_⟩
      obtain ⟨here, hhere⟩ : ∃ here : Int, here = 10 + 6 * (0 + (i : Int)) := ⟨_, rfl⟩
      have hh0 : 0 ≤ here := by omega
      show tSeq _ _ _ _ _
      refine ⟨(show 3 ≤ sizeLine by decide), fun lw nw => ?_⟩
      have s5 := Same.new (o := .lst [.str "s", .str "t", .str "uu"]) nw
      have X5 := X.same s5
      have e0 := drawn_nn ns (10 + 6 * (0 + (i : Int))) (m := 3) (by decide)
      have e1 := drawn_lt ns (10 + 6 * (0 + (i : Int))) (m := 3) (by decide)
      refine ⟨_, rfl, _, rfl, a, ns, _, 3, rfl, X5.w.w.same.seq hS, hlen, by omega, by decide, fun H6 s6 => ?_⟩
      obtain ⟨sn, hsn, hs3⟩ : ∃ sn : Str, atI [V.str "s", V.str "t", V.str "uu"] (drawnF ns (10 + 6 * (0 + (i : Int))) 3) = some (.str sn) ∧ sn ∈ N3 := by
        generalize drawnF ns (10 + 6 * (0 + (i : Int))) 3 = x at e0 e1
        have hc : x = 0 ∨ x = 1 ∨ x = 2 := by omega
        rcases hc with rfl | rfl | rfl
        · exact ⟨"s", rfl, by decide +kernel⟩
        · exact ⟨"t", rfl, by decide +kernel⟩
        · exact ⟨"uu", rfl, by decide +kernel⟩
      refine ⟨lw, _, _, _, rfl, rfl, SqL.ofL (s6 _ _ upd_same), hsn, ?_⟩
      have X6 := X5.same s6
      clear hsn X5 s5 nw
      -- number
      have n0 := drawn_nn ns (10 + 6 * (0 + (i : Int)) + 1) (m := 5) (by decide)
      have n1 := drawn_lt ns (10 + 6 * (0 + (i : Int)) + 1) (m := 5) (by decide)
      refine ⟨_, rfl, _, rfl, _, _, rfl, rfl, a, ns, _, 5, rfl, X6.w.w.same.seq hS, hlen, by omega, by decide, fun H7 s7 => ⟨_, _, rfl, rfl, ?_⟩⟩
      have X7 := X6.same s7
      generalize drawnF ns (10 + 6 * (0 + (i : Int)) + 1) 5 = nb at n0 n1 ⊢
      -- message
      refine ⟨_, rfl, (show 5 ≤ sizeLine by decide), fun lx nx => ?_⟩
      have s8 := Same.new (o := .lst [.str "x", .str "x", .str "x", .str "x", .str "y"]) nx
      have X8 := X7.same s8
      have f0 := drawn_nn ns (10 + 6 * (0 + (i : Int)) + 2) (m := 5) (by decide)
      have f1 := drawn_lt ns (10 + 6 * (0 + (i : Int)) + 2) (m := 5) (by decide)
      refine ⟨_, rfl, _, rfl, _, _, rfl, rfl, a, ns, _, 5, rfl, X8.w.w.same.seq hS, hlen, by omega, by decide, fun H9 s9 => ?_⟩
      obtain ⟨sd, hsd, hsd2⟩ : ∃ sd : Str, atI [V.str "x", V.str "x", V.str "x", V.str "x", V.str "y"] (drawnF ns (10 + 6 * (0 + (i : Int)) + 2) 5) = some (.str sd) ∧ PyData.strOk sd = true := by
        generalize drawnF ns (10 + 6 * (0 + (i : Int)) + 2) 5 = x at f0 f1
        have hc : x = 0 ∨ x = 1 ∨ x = 2 ∨ x = 3 ∨ x = 4 := by omega
        rcases hc with rfl | rfl | rfl | rfl | rfl
        · exact ⟨"x", rfl, tx_ok.2.1⟩
        · exact ⟨"x", rfl, tx_ok.2.1⟩
        · exact ⟨"x", rfl, tx_ok.2.1⟩
        · exact ⟨"x", rfl, tx_ok.2.1⟩
        · exact ⟨"y", rfl, tx_ok.2.2⟩
      refine ⟨lx, _, _, _, rfl, rfl, SqL.ofL (s9 _ _ upd_same), hsd, (show 3 ≤ sizeLine by decide), fun c nc => ?_⟩
      have s10 := Same.new (o := .tup [.int (1 + nb), .str "a", .str sd]) nc
      have X10 := (X8.same s9).same s10
      have hc : upd H9 c (.tup [.int (1 + nb), .str "a", .str sd]) c = some (mT ⟨1 + nb, "a", sd⟩) := upd_same
      generalize upd H9 c (.tup [.int (1 + nb), .str "a", .str sd]) = H10 at X10 hc ⊢
      have hm : mOk ⟨1 + nb, "a", sd⟩ := ⟨tx_ok.1, hsd2⟩
      have h9 : (⟨1 + nb, "a", sd⟩ : Msg).n ≤ 9 := by show 1 + nb ≤ 9; omega
      generalize hmm : (⟨1 + nb, "a", sd⟩ : Msg) = m at hc hm h9
      clear hsd s10 nc X8 X7 X6 s9 s8 nx s7 s6
      -- a hearer of the law's own
      refine ⟨fun σ H' => ∃ (ll' : LL) (L : LA), σ = [some (.ref a), some (.ref S.p), some (.ref pm), some (.ref pr), some (.int (0 + (i : Int))), some (.int (10 + 6 * (0 + (i : Int)))), some (.str sn), some (.int (1 + nb)), some (.ref c), o9, o10, o11, o12, o13, o14, o15] ∧ W5 H H' C CH S l pm ll' f f story ∧ H' pr = some (.lst yr) ∧ HasL H' yr (story.map rwD) ∧ pr ∉ S.fp l ++ (pm :: fpL ll') ∧ H' c = some (mT m) ∧ (sn, L) ∈ ll' ∧ ((sn ∈ l.map (·.1) ∧ ll' = ll) ∨ (sn ∉ l.map (·.1) ∧ ll' = ll ++ [(sn, L)])), ?_, ?_⟩
      case refine_2 =>
        refine ⟨_, rfl, _, rfl, pm, _, rfl, DGet.k (k := Sum.inr sn) X10.w.dm, _, rfl, ?_⟩
        by_cases hn : sn ∈ ll.map (·.1)
        · obtain ⟨x, hx, e⟩ := List.mem_map.mp hn
          have ev : valV (kvL ll) (Sum.inr sn) = some (.ref x.2.m) := by rw [← e]; exact kvL_val X10.w.dl hx
          rw [ev]
          exact iteF ⟨ll, x.2, rfl, X10.w, X10.er, X10.hr, X10.nr, hc, by rw [← e]; exact hx, .inl ⟨by rw [← X10.nm]; exact hn, rfl⟩⟩
        · rw [kvL_none hn]
          refine iteT ?_
          refine ⟨rfl, fun L H11 hL mk => ?_⟩
          have dm11 := mk.keep X10.w.dm List.not_mem_nil
          have hkl : (kvL ll).length < sizeLine := by rw [kvL_len, sizeLine_eq]; omega
          refine ⟨_, rfl, _, rfl, pm, _, rfl, DPut.k (k := Sum.inr sn) dm11 hkl, ?_⟩
          have hn' : sn ∉ l.map (·.1) := by rw [← X10.nm]; exact hn
          have W11 := X10.w.newL hn (X10.no sn hn') hL mk
          have z := Stp.put (ps := [pm]) (o := .dK (putK (kvL ll) (Sum.inr sn) (.ref L.m))) dm11 (fun _ z => by cases z) (by simp)
          have nrp : pr ≠ pm := fun y => X10.nr (by rw [y]; exact List.mem_append_right _ List.mem_cons_self)
          have er11 := z.keep (mk.keep X10.er List.not_mem_nil) (by simp [nrp])
          have hr11 := HasL.tups z.tup (noLst_rw story) (HasL.tups mk.tup (noLst_rw story) X10.hr)
          refine ⟨ll ++ [(sn, L)], L, rfl, W11, er11, hr11, ?_, z.tup _ _ (mk.tup _ _ hc), by simp, .inr ⟨hn', rfl⟩⟩
          rw [fpL_snoc]
          intro y
          rcases List.mem_append.mp y with y | y
          · exact X10.nr (List.mem_append_left _ y)
          · rcases List.mem_cons.mp y with y | y
            · exact nrp y
            · rcases List.mem_append.mp y with y | y
              · exact X10.nr (List.mem_append_right _ (List.mem_cons_of_mem _ y))
              · exact mk.out X10.er List.not_mem_nil y
      have hnm := X10.nm
      have hn3 := X10.n3
      have hno := X10.no
      have hhg := X10.hg
      have hok := X10.ok
      clear X10 hc
      rintro σ H11 ⟨ll', L, rfl, W, er, hr5, nr, hc, hLm, hcase⟩
      have hL := W.la _ hLm
      -- due
      have fin : ∀ {ll : LL} {c : Addr}, c ∉ S.fp l ++ (pm :: fpL ll) → (c ∉ S.fp l ∧ c ≠ pm ∧ c ∉ fpL ll) := fun {ll c} h => ⟨fun z => h (List.mem_append_left _ z), fun z => h (by rw [z]; exact List.mem_append_right _ List.mem_cons_self), fun z => h (List.mem_append_right _ (List.mem_cons_of_mem _ z))⟩
      have live : ∀ {H' : Hp} {g : Str → HS} {c : Addr}, W5 H H' C CH S l pm ll' f g story → H' c = none → c ∉ S.fp l ++ (pm :: fpL ll') := fun {H' g c} W h z => by
        rcases List.mem_append.mp z with y | y
        · exact W.sa.free h y
        · rcases List.mem_cons.mp y with y | y
          · rw [y, W.dm] at h; cases h
          · obtain ⟨o, ho⟩ := W.la.live c y
            rw [h] at ho; cases ho
      refine ⟨fun σ H' => ∃ dv : V, σ = [some (.ref a), some (.ref S.p), some (.ref pm), some (.ref pr), some (.int (0 + (i : Int))), some (.int (10 + 6 * (0 + (i : Int)))), some (.str sn), some (.int (1 + nb)), some (.ref c), some dv, o10, o11, o12, o13, o14, o15] ∧ H' pr = some (.lst yr) ∧ HasL H' yr (story.map rwD) ∧ H' c = some (mT m) ∧
        ((Fits (f sn) [m] ∧ ∃ lx ys found, dv = .ref lx ∧ H' lx = some (.lst ys) ∧ Ms H' ys found ∧ (takeS (f sn) [m]).heard = (f sn).heard ++ found ∧ W5 H H' C CH S l pm ll' f (updS f sn (takeS (f sn) [m])) story) ∨ (Clash (f sn) m ∧ Has H' dv r3D ∧ W5 H H' C CH S l pm ll' f f story)), ?_, ?_⟩
      case refine_2 =>
        refine ⟨_, rfl, _, rfl, pm, .ref L.m, rfl, .inl ⟨_, Sum.inr sn, .inl W.dm, rfl, (kvL_val W.dl hLm).symm⟩, _, rfl, L, f sn, c, m, rfl, hL, hhg sn, hc, hm, h9, ?_⟩
        rcases (hhg sn).fits_or m with hf | hcl
        · refine .inl ⟨hf, fun lx yx found H12 hL12 eh st nl ol el ml => ?_⟩
          have npL : pr ∉ L.fp := fun z => (fin nr).2.2 (mem_fpL.mpr ⟨_, hLm, z⟩)
          exact ⟨_, rfl, st.keep er npL, HasL.tups st.tup (noLst_rw story) hr5, st.tup _ _ hc, .inl ⟨hf, lx, yx, found, rfl, el, ml, eh, W.takeL hLm st.tl hL12⟩⟩
        · refine .inr ⟨hcl, fun v H12 s12 hv => ?_⟩
          exact ⟨_, rfl, s12 _ _ er, HasL.same s12 hr5, s12 _ _ hc, .inr ⟨hcl, hv, W.same s12⟩⟩
      clear W er hr5 hc hL
      rintro σ H12 ⟨dv, rfl, er, hr5, hc, hdue⟩
      -- rows
      refine ⟨fun σ H' => ∃ (dv : V) (pr : Addr) (yr : List V), σ = [some (.ref a), some (.ref S.p), some (.ref pm), some (.ref pr), some (.int (0 + (i : Int))), some (.int (10 + 6 * (0 + (i : Int)))), some (.str sn), some (.int (1 + nb)), some (.ref c), some dv, o10, o11, o12, o13, o14, o15] ∧ H' c = some (mT m) ∧ H' pr = some (.lst yr) ∧ pr ∉ S.fp l ++ (pm :: fpL ll') ∧
        ((Fits (f sn) [m] ∧ ∃ found : List Msg, dv = .int (found.length : Int) ∧ HasL H' yr ((story ++ found.map fun m => (sn, m)).map rwD) ∧ (takeS (f sn) [m]).heard = (f sn).heard ++ found ∧ W5 H H' C CH S l pm ll' f (updS f sn (takeS (f sn) [m])) story) ∨ (Clash (f sn) m ∧ Has H' dv r3D ∧ HasL H' yr (story.map rwD) ∧ W5 H H' C CH S l pm ll' f f story)), ?_, ?_⟩
      case refine_2 =>
        refine ⟨_, rfl, (show 2 ≤ sizeLine by decide), fun u nu => ?_⟩
        have wu := Same.new (o := .tup [.str "refused", .int 3]) nu
        have hu : Has (upd H12 u (.tup [.str "refused", .int 3])) (.ref u) r3D := r3D_has upd_same
        rcases hdue with ⟨hf, lx, yx, found, rfl, el, ml, eh, W⟩ | ⟨hcl, hv, W⟩
        · have hg' := (hhg sn).take hf hm h9
          have hsz' := hg'.toHG0.sizes hg'.toHG0.pos
          have hfl : found.length ≤ 9 := by
            have := congrArg List.length eh
            rw [List.length_append] at this
            omega
          have okf : ∀ x ∈ found, mOk x := fun x hx => (hg'.ok x (.inl (by rw [eh]; exact List.mem_append_right _ hx))).1
          refine ⟨.list (found.map mD), r3D, has_lst (wu _ _ el) (ml.same wu), hu, shaped_ms okf, by decide +kernel, _, rfl, iteT ?_⟩
          have el1 := wu _ _ el
          have ml1 := ml.same wu
          have W1 := W.same wu
          have er1 := wu _ _ er
          have hr1 := HasL.same wu hr5
          have hc1 := wu _ _ hc
          generalize upd H12 u (.tup [.str "refused", .int 3]) = H13 at el1 ml1 W1 er1 hr1 hc1 ⊢
          refine ⟨_, rfl, _, rfl, lx, rfl, ⟨_, SqL.ofL el1⟩, found.length, fun j ys H' => Same H13 H' ∧ HasL H' ys ((found.take j).map fun m => rwD (sn, m)), szl (by omega), ⟨Same.refl _, hasL_nil⟩, ?_, ?_⟩
          · rintro j ys H' hj ⟨sH, hy⟩
            obtain ⟨c1, ec, hc2⟩ := (ml1.same sH).get hj
            refine ⟨⟨yx, .ref c1, SqL.ofL (sH _ _ el1), ec⟩, ?_⟩
            rintro x H3 ⟨rfl, hx⟩
            have hx' := hx yx (SqL.ofL (sH _ _ el1))
            rw [ec] at hx'
            obtain rfl := Option.some.inj hx'
            refine rd_name (rd_yes (iteT ?_))
            refine ⟨_, rfl, (show 1 ≤ sizeLine by decide), fun u1 nu1 => ⟨_, rfl, ?_⟩⟩
            have w1 := Same.new (o := .tup [.str sn]) nu1
            refine ⟨u1, c1, _, _, rfl, rfl, upd_same, w1 _ _ hc2, (show 4 ≤ sizeLine by decide), fun u2 H4 s4 e4 => ⟨(sH.trans w1).trans s4, ?_⟩⟩
            rw [List.take_add_one, List.getElem?_eq_getElem hj, List.map_append]
            refine HasL.append (HasL.same (w1.trans s4) hy) (hasL_cons (has_tup e4 ?_) hasL_nil)
            exact hasL_cons (has_str _) (hasL_cons (has_int _) (hasL_cons (has_str _) (hasL_cons (has_str _) hasL_nil)))
          rintro ys H14 ⟨sH, hy⟩
          rw [List.take_length] at hy
          refine ⟨⟨yx, SqL.ofL (sH _ _ el1), by rw [ml1.len]; exact Nat.le_refl _⟩, fun lz nlz => ?_⟩
          have w2 := Same.new (o := .lst ys) nlz
          have lyr := HasL.length hr1
          have lys := HasL.length hy
          rw [List.length_map] at lyr lys
          refine ⟨pr, lz, yr, ys, rfl, rfl, (sH.trans w2) _ _ er1, upd_same, by rw [sizeLine_eq]; omega, fun p2 np2 => ?_⟩
          have w3 := Same.new (o := .lst (yr ++ ys)) np2
          have g14 := (sH.trans w2).trans w3
          have W2 := W1.same g14
          refine ⟨_, rfl, lx, _, rfl, .inl (SqL.ofL (g14 _ _ el1)), ?_⟩
          have ly := ml1.len
          rw [ly]
          refine ⟨_, p2, yr ++ ys, rfl, g14 _ _ hc1, upd_same, live (W1.same (sH.trans w2)) np2, .inl ⟨hf, found, rfl, ?_, eh, W2⟩⟩
          rw [List.map_append]
          have e3 : (found.map fun m => (sn, m)).map rwD = found.map fun m => rwD (sn, m) := by rw [List.map_map]; rfl
          rw [e3]
          exact HasL.append (HasL.same g14 hr1) (HasL.same (w2.trans w3) hy)
        · refine ne_D (hv.same wu) hu (by decide +kernel) ⟨_, rfl, iteF ?_⟩
          exact ⟨dv, pr, yr, rfl, wu _ _ hc, wu _ _ er, nr, .inr ⟨hcl, hv.same wu, HasL.same wu hr5, W.same wu⟩⟩
      clear hdue er hr5 hc nr
      rintro σ H13 ⟨dv, pr, yr, rfl, hc, er, nr, hdue⟩
      -- told, heard
      refine ⟨fun σ H' => ∃ (dv : V) (l : HL) (ll : LL) (f : Str → HS) (story : List (Str × Msg)), σ = [some (.ref a), some (.ref S.p), some (.ref pm), some (.ref pr), some (.int (0 + (i : Int))), some (.int (10 + 6 * (0 + (i : Int)))), some (.str sn), some (.int (1 + nb)), some (.ref c), some dv, o10, o11, o12, o13, o14, o15] ∧ I5 H H' C CH S l pm ll f story pr yr (i + 1), ?_, ?_⟩
      case refine_2 =>
        have l3 : l.length < 100 := by omega
        have st3 : story.length < 1000 := by omega
        rcases hdue with ⟨hf, found, rfl, hr5, eh, W⟩ | ⟨hcl, hv, hr5, W⟩
        · refine ⟨_, rfl, _, rfl, _, rfl, S, l, f, story, sn, c, m, rfl, W.sa, hc, hno sn, hm, hhg sn, h9, st3, l3, .inl ⟨hf, fun l2 found2 H14 sa2 eh2 st2 hcase2 => ?_⟩⟩
          have ef : found2 = found := List.append_cancel_left (eh2.symm.trans eh)
          subst ef
          refine ⟨_, rfl, ne_D (d := .int (found2.length : Int)) (has_int _) (has_int _) (shaped_int _) ⟨_, rfl, iteF ?_⟩⟩
          have W2 := W.takeS st2 sa2
          have nr2 := fin nr
          have er2 := st2.keep er nr2.1
          have hr6 := HasL.tups st2.tup (noLst_rw _) hr5
          have hg' := (hhg sn).take hf hm h9
          have hsz' := hg'.toHG0.sizes hg'.toHG0.pos
          have hfl : found2.length ≤ 9 := by
            have := congrArg List.length eh
            rw [List.length_append] at this
            omega
          have okf : ∀ x ∈ found2, mOk x := fun x hx => (hg'.ok x (.inl (by rw [eh]; exact List.mem_append_right _ hx))).1
          have ok2 : ∀ r ∈ story ++ found2.map (fun m => (sn, m)), r.1 ∈ N3 ∧ mOk r.2 := fun r hr => by
            rcases List.mem_append.mp hr with y | y
            · exact hok r y
            · obtain ⟨x, hx, rfl⟩ := List.mem_map.mp y
              exact ⟨hs3, okf x hx⟩
          have nm2 : ll'.map (·.1) = l2.map (·.1) := by
            rcases hcase with ⟨y, rfl⟩ | ⟨y, rfl⟩
            · rcases hcase2 with ⟨_, rfl⟩ | ⟨z, _⟩
              · exact hnm
              · exact absurd y z
            · rcases hcase2 with ⟨z, _⟩ | ⟨_, b, rfl⟩
              · exact absurd z y
              · rw [List.map_append, List.map_append, hnm]; rfl
          have mem2 : ∀ n, n ∈ l2.map (·.1) ↔ n ∈ l.map (·.1) ∨ n = sn := fun n => by
            rcases hcase2 with ⟨z, rfl⟩ | ⟨_, b, rfl⟩
            · exact ⟨.inl, fun y => y.elim id fun e => by rw [e]; exact z⟩
            · rw [List.map_append, List.mem_append]; simp
          obtain ⟨dxS, obS⟩ := sa2.ob
          have X14 : I5 H H14 C CH S l2 pm ll' (updS f sn (takeS (f sn) [m])) (story ++ found2.map fun m => (sn, m)) pr yr (i + 1) := by
            refine ⟨W2, nm2, fun n hn => ?_, fun n hn => ?_, fun n => ?_, er2, hr6, fun z => ?_, ok2, by rw [List.length_append, List.length_map]; omega⟩
            · rcases (mem2 n).mp hn with y | y
              · exact hn3 n y
              · rw [y]; exact hs3
            · have h1 : ¬ (n ∈ l.map (·.1) ∨ n = sn) := fun y => hn ((mem2 n).mpr y)
              rw [updS_ne (fun y => h1 (.inr y))]
              exact hno n fun y => h1 (.inl y)
            · by_cases e : n = sn
              · rw [e, updS_same]; exact hg'
              · rw [updS_ne e]; exact hhg n
            · rcases List.mem_append.mp z with y | y
              · exact st2.out er nr2.1 y
              · rcases List.mem_cons.mp y with y | y
                · exact nr2.2.1 y
                · exact nr2.2.2 y
          refine ⟨_, rfl, S.p, dxS, _, rfl, obS, no_sr (.inr (.inl rfl)), S, l2, _, _, rfl, sa2, fun q1 y1 nq1 hy1 => ?_⟩
          have w1 := Same.new (o := .lst y1) nq1
          refine ⟨_, rfl, ne_D (has_lst upd_same hy1) (has_lst (w1 _ _ er2) (HasL.same w1 hr6)) (rw_shaped ok2) ⟨_, rfl, iteF ?_⟩⟩
          exact ⟨_, l2, ll', _, _, rfl, X14.same w1⟩
        · have hin : sn ∈ l.map (·.1) := by
            refine Classical.byContradiction fun y => ?_
            rw [hno sn y] at hcl
            obtain ⟨x, hx, _⟩ := hcl
            rcases hx with z | z <;> exact absurd z List.not_mem_nil
          have ell : ll' = ll := by
            rcases hcase with ⟨_, e⟩ | ⟨y, _⟩
            · exact e
            · exact absurd hin y
          subst ell
          refine ⟨_, rfl, _, rfl, _, rfl, S, l, f, story, sn, c, m, rfl, W.sa, hc, hno sn, hm, hhg sn, h9, st3, l3, .inr ⟨hcl, fun v H14 s14 hv14 => ?_⟩⟩
          refine ⟨_, rfl, ne_D hv14 (hv.same s14) (by decide +kernel) ⟨_, rfl, iteF ?_⟩⟩
          have X14 : I5 H H14 C CH S l pm ll' f story pr yr (i + 1) := ⟨W.same s14, hnm, hn3, hno, hhg, s14 _ _ er, HasL.same s14 hr5, nr, hok, by omega⟩
          obtain ⟨dxS, obS⟩ := X14.w.sa.ob
          refine ⟨_, rfl, S.p, dxS, _, rfl, obS, no_sr (.inr (.inl rfl)), S, l, _, _, rfl, X14.w.sa, fun q1 y1 nq1 hy1 => ?_⟩
          have w1 := Same.new (o := .lst y1) nq1
          refine ⟨_, rfl, ne_D (has_lst upd_same hy1) (has_lst (w1 _ _ X14.er) (HasL.same w1 X14.hr)) (rw_shaped hok) ⟨_, rfl, iteF ?_⟩⟩
          exact ⟨_, l, ll', f, story, rfl, X14.same w1⟩
      clear hdue er nr hc hcase hLm live fin hhg hok hno hn3 hnm hlen3 X hsz
      rintro σ H14 ⟨dv, l, ll, f, story, rfl, X⟩
      -- marks
      have hlen3 := X.len
      have h0m : H pm = none := by
        rcases X.w.w.3 pm (List.mem_append_right _ List.mem_cons_self) with z | z
        · exact absurd z List.not_mem_nil
        · exact z
      have hfz : ∀ (o : Obj) (u : HO), H pm = some (.frz o u) → False := fun o u e => by rw [h0m] at e; cases e
      refine ⟨_, rfl, pm, _, rfl, X.w.dm, hfz, fun ob => ?_⟩
      have z1 := Stp.put (ps := [pm]) (o := .frz ob (.dK (kvL ll))) X.w.dm (fun _ z => by cases z) (by simp)
      have em1 := upd_same (H := H14) (a := pm) (o := .frz ob (.dK (kvL ll)))
      have la1 := X.w.la.step z1 fun c hc z => X.w.pml (by rw [List.mem_singleton] at z; rw [← z]; exact hc)
      generalize hHf : upd H14 pm (.frz ob (.dK (kvL ll))) = Hf at z1 em1 la1 ⊢
      refine ⟨ll.length, fun j ys H' => ∃ cs : List Addr, ys = cs.map V.ref ∧ Same Hf H' ∧ PairsAt H' cs ((ll.take j).map fun x => ((Sum.inr x.1 : Key), V.int ((f x.1).next - 1))), szl (by omega), ⟨[], rfl, Same.refl _, ⟨rfl, fun j c p h => absurd h (by simp)⟩⟩, ?_, ?_⟩
      · rintro j ys H' hj ⟨cs, rfl, sH, hp⟩
        have em' := sH _ _ em1
        refine ⟨⟨em', by rw [kvL_len]; exact hj⟩, ?_⟩
        rintro x H2 ⟨rfl, kv, hkv, rfl⟩
        have hkv' : kv = (Sum.inr ll[j].1, V.ref ll[j].2.m) := by
          unfold kvL at hkv
          rw [List.getElem?_map, List.getElem?_eq_getElem hj] at hkv
          exact (Option.some.inj hkv).symm
        subst hkv'
        have hx := List.getElem_mem hj
        refine rd_name (rd_yes (iteT ?_))
        refine ⟨_, rfl, _, rfl, _, rfl, pm, .ref ll[j].2.m, rfl, .inl ⟨_, Sum.inr ll[j].1, .inr ⟨ob, em'⟩, rfl, (kvL_val X.w.dl hx).symm⟩, ll[j].2, f ll[j].1, rfl, (la1 _ hx).same sH, _, _, rfl, rfl, (show 2 ≤ sizeLine by decide), fun u nu => ?_⟩
        refine ⟨cs ++ [u], by rw [List.map_append]; rfl, sH.trans (Same.new nu), ?_⟩
        rw [List.take_add_one, List.getElem?_eq_getElem hj, List.map_append]
        exact PairsAt.more (hp.same (Same.new nu)) upd_same
      rintro ys H' ⟨cs, rfl, sH, hp⟩
      rw [List.take_length] at hp
      have em' := sH _ _ em1
      refine ⟨⟨em', by rw [kvL_len]; exact Nat.le_refl _⟩, fun q1 nq1 => ?_⟩
      have g2 := Same.new (o := .lst (cs.map V.ref)) nq1
      have nq1m : q1 ≠ pm := fun z => by rw [z, em'] at nq1; cases nq1
      refine ⟨pm, ob, _, g2 _ _ em', hfz, ?_⟩
      have z2 := Stp.put (ps := [pm]) (o := .dK (kvL ll)) (g2 _ _ em') (fun _ z => by cases z) (by simp)
      have eq1 := z2.keep (upd_same (H := H') (a := q1) (o := .lst (cs.map V.ref))) (by simp [nq1m])
      have sm : Same H14 (upd (upd H' q1 (.lst (cs.map V.ref))) pm (.dK (kvL ll))) := fun c o ho => by
        by_cases hc : c = pm
        · subst hc
          rw [upd_same, ← X.w.dm]; exact ho
        · refine z2.keep (g2 _ _ (sH _ _ ?_)) (by simp [hc])
          rw [← hHf, upd_ne hc]; exact ho
      have hp2 : PairsAt (upd (upd H' q1 (.lst (cs.map V.ref))) pm (.dK (kvL ll))) cs (ll.map fun x => ((Sum.inr x.1 : Key), V.int ((f x.1).next - 1))) := ⟨hp.1, fun j c p h1 h2 => z2.tup _ _ (g2 _ _ (hp.2 j c p h1 h2))⟩
      have X15 := X.same sm
      generalize upd (upd H' q1 (.lst (cs.map V.ref))) pm (.dK (kvL ll)) = H15 at eq1 sm hp2 X15 ⊢
      clear z1 z2 g2 em1 em' la1 hHf hp sH nq1 nq1m sm X hfz
      have emk : (ll.map fun x => ((Sum.inr x.1 : Key), V.int ((f x.1).next - 1))) = intsK (mkM f l) := by
        have e1 : (ll.map fun x => ((Sum.inr x.1 : Key), V.int ((f x.1).next - 1))) = (ll.map (·.1)).map fun n => ((Sum.inr n : Key), V.int ((f n).next - 1)) := by rw [List.map_map]; rfl
        rw [e1, X15.nm]
        unfold intsK mkM
        rw [List.map_map, List.map_map]; rfl
      have mnd : ((mkM f l).map (·.1)).Nodup := marks_nd X15.w.sa.dis (fun n => (f n).next - 1)
      have mlen : (mkM f l).length ≤ 3 := by unfold mkM; rw [List.length_map]; exact hlen3.1
      rw [emk] at hp2
      refine ⟨q1, cs, intsK (mkM f l), rfl, eq1, hp2, by unfold intsK; rw [List.length_map]; omega, fun pk npk => ?_⟩
      have epk : putsP (intsK (mkM f l)) = intsK (mkM f l) := by
        have := putsP_new (intsK (mkM f l)) [] (by unfold intsK; rw [List.map_map]; exact List.Pairwise.map _ (fun _ _ h z => h (Sum.inr.inj z)) (List.pairwise_map.mp mnd)) (fun k _ => rfl)
        rw [List.nil_append] at this
        exact this
      rw [epk]
      have w16 := Same.new (o := .dK (intsK (mkM f l))) npk
      have X16 := X15.same w16
      have ek16 := upd_same (H := H15) (a := pk) (o := .dK (intsK (mkM f l)))
      generalize upd H15 pk (.dK (intsK (mkM f l))) = H16 at w16 X16 ek16 ⊢
      clear w16 npk eq1 hp2 X15 emk
      -- marks compared
      obtain ⟨dxS, obS⟩ := X16.w.sa.ob
      refine ⟨_, rfl, S.p, dxS, _, rfl, obS, no_sr (.inr (.inr (.inl rfl))), S, l, f, story, rfl, X16.w.sa, by omega, fun q2 H17 s17 nq2 eq2 => ?_⟩
      rw [marks_eq] at eq2
      refine ⟨_, rfl, q2, pk, mkM f l, rfl, rfl, eq2, s17 _ _ ek16, mnd, _, rfl, iteF ?_⟩
      have X17 := X16.same s17
      have ek17 := s17 _ _ ek16
      clear X16 ek16 s17 eq2 nq2 obS
      -- others
      intro po npo
      have w18 := Same.new (o := .dK []) npo
      have X18 := X17.same w18
      have npf := X17.free npo
      have nprO : pr ≠ po := fun z => by rw [← z, X17.er] at npo; cases npo
      have npk' : pk ≠ po := fun z => by rw [← z, ek17] at npo; cases npo
      have h0o : H po = none := X17.w.w.same.free npo
      have ek18 := w18 _ _ ek17
      have eo18 := upd_same (H := H17) (a := po) (o := .dK [])
      generalize upd H17 po (.dK []) = H18 at w18 X18 ek18 eo18 ⊢
      clear w18 npo X17 ek17
      refine ⟨(show 4 ≤ sizeLine by decide), fun le nle => ?_⟩
      have w19 := Same.new (o := .lst [.str "s", .str "t", .str "uu", .str "v"]) nle
      have X19 := X18.same w19
      have ek19 := w19 _ _ ek18
      have eo19 := w19 _ _ eo18
      have nlo : le ≠ po := fun z => by rw [z, eo18] at nle; cases nle
      have ele : upd H18 le (.lst [.str "s", .str "t", .str "uu", .str "v"]) le = some (.lst (N4.map V.str)) := upd_same
      generalize upd H18 le (.lst [.str "s", .str "t", .str "uu", .str "v"]) = H19 at w19 X19 ek19 eo19 ele ⊢
      clear w19 nle X18 ek18 eo18
      refine ⟨le, rfl, ⟨_, SqL.ofL ele⟩, for_enum (K := K) (a := le) (xs := N4.map V.str) (fun j σ H' => ∃ (o12 o13 : Option V) (es : List (Str × Int)), σ = [some (.ref a), some (.ref S.p), some (.ref pm), some (.ref pr), some (.int (0 + (i : Int))), some (.int (10 + 6 * (0 + (i : Int)))), some (.str sn), some (.int (1 + nb)), some (.ref c), some dv, some (.ref pk), some (.ref po), o12, o13, o14, o15] ∧ I5 H H' C CH S l pm ll f story pr yr (i + 1) ∧ H' pk = some (.dK (intsK (mkM f l))) ∧ H' le = some (.lst (N4.map V.str)) ∧ H' po = some (.dK (intsK es)) ∧ (es.map (·.1)).Sublist (N4.take j))
        ⟨_, _, [], rfl, X19, ek19, ele, eo19, List.Sublist.refl _⟩ (fun j σ H' _ ⟨_, _, _, _, _, _, h, _⟩ => SqL.ofL h) ?_ ?_⟩
      · rintro j x T σ H20 hj ⟨o12, o13, es, rfl, X20, ek20, el20, eo20, hsub⟩ nT
        have hjl : j < N4.length := by have := (List.getElem?_eq_some_iff.mp hj).1; rwa [List.length_map] at this
        have hj4 : j < 4 := hjl
        rw [List.getElem?_map, List.getElem?_eq_getElem hjl] at hj
        obtain rfl := Option.some.inj hj
        have wT := Same.new (o := .tup [.int j, .str N4[j]]) nT
        refine ⟨T, _, rfl, SqT.ofT upd_same, rfl, _, _, rfl, _, _, rfl, rfl, ?_⟩
        have X21 := X20.same wT
        have ek21 := wT _ _ ek20
        have el21 := wT _ _ el20
        have eo21 := wT _ _ eo20
        generalize upd H20 T (.tup [.int j, .str N4[j]]) = H21 at X21 ek21 el21 eo21 ⊢
        clear wT nT X20 ek20 el20 eo20
        have htake : N4.take (j + 1) = N4.take j ++ [N4[j]] := by rw [List.take_add_one, List.getElem?_eq_getElem hjl]; rfl
        have hnew : N4[j] ∉ es.map (·.1) := fun z => by
          have h1 := hsub.subset z
          obtain ⟨k, hk, e⟩ := List.getElem_of_mem h1
          rw [List.length_take] at hk
          rw [List.getElem_take] at e
          have := (List.getElem_inj (h₀ := by omega) (h₁ := hjl) n4_nd).mp e
          omega
        refine ⟨_, rfl, _, rfl, _, _, rfl, rfl, a, ns, _, 4, rfl, X21.w.w.same.seq hS, hlen, by omega, by decide, fun H22 s22 => ⟨_, rfl, rfl, _, rfl, ite2 (fun _ => ?_) (fun _ => ?_)⟩⟩
        · have X22 := X21.same s22
          refine ⟨_, rfl, _, rfl, _, _, rfl, rfl, a, ns, _, 5, rfl, X22.w.w.same.seq hS, hlen, by omega, by decide, fun H23 s23 => ?_⟩
          have X23 := X22.same s23
          have g0 := drawn_nn ns (10 + 6 * (0 + (i : Int)) + 4) (m := 5) (by decide)
          have g1 := drawn_lt ns (10 + 6 * (0 + (i : Int)) + 4) (m := 5) (by decide)
          generalize drawnF ns (10 + 6 * (0 + (i : Int)) + 4) 5 = d4 at g0 g1 ⊢
          have eo23 := s23 _ _ (s22 _ _ eo21)
          have hel : es.length ≤ 4 := by
            have := hsub.length_le
            rw [List.length_map, List.length_take] at this
            omega
          have hkl : (intsK es).length < sizeLine := by unfold intsK; rw [List.length_map, sizeLine_eq]; omega
          refine ⟨_, rfl, _, _, rfl, rfl, ?_, _, _, rfl, rfl, (by decide : (0 : Int) < 5), _, rfl, _, rfl, po, _, rfl, DPut.k (k := Sum.inr N4[j]) eo23 hkl, ?_⟩
          · exact .inl ⟨by omega, by omega⟩
          have z3 := Stp.put (ps := [po]) (o := .dK (putK (intsK es) (Sum.inr N4[j]) (V.int (d4 * (j : Int) % 5)))) eo23 (fun _ z => by cases z) (by simp)
          have X24 := X23.stp z3 h0o npf nprO
          have eput : putK (intsK es) (Sum.inr N4[j]) (V.int (d4 * (j : Int) % 5)) = intsK (es ++ [(N4[j], d4 * (j : Int) % 5)]) := by
            rw [putK_new]
            · unfold intsK; rw [List.map_append]; rfl
            · exact ints_none hnew
          refine ⟨_, _, es ++ [(N4[j], d4 * (j : Int) % 5)], rfl, X24, z3.keep (s23 _ _ (s22 _ _ ek21)) (by simp [npk']), z3.keep (s23 _ _ (s22 _ _ el21)) (by simp [nlo]), by rw [upd_same, eput], ?_⟩
          rw [List.map_append, htake]
          exact hsub.append (List.Sublist.refl _)
        · refine ⟨_, _, es, rfl, X21.same s22, s22 _ _ ek21, s22 _ _ el21, s22 _ _ eo21, ?_⟩
          rw [htake]
          exact hsub.trans (List.sublist_append_left _ _)
      rintro σ H20 ⟨o12, o13, es, rfl, X20, ek20, el20, eo20, hsub⟩
      rw [List.length_map, List.take_length] at hsub
      have hel : es.length ≤ 4 := by
        have := hsub.length_le
        rw [List.length_map] at this
        exact this
      have hrise : (es.map (·.1)).Pairwise (fun x y => x.cps.toList < y.cps.toList) := List.Pairwise.sublist hsub n4_rise
      have hnd : (es.map (·.1)).Nodup := List.Nodup.sublist hsub n4_nd
      have hle : (es.map (·.1)).Pairwise leT := hrise.imp fun {x y} h => leT_lt.mpr fun z => List.lt_irrefl _ (List.lt_trans h z)
      have hlr : (lackF f l es).Pairwise (fun x y => x.1.cps.toList < y.1.cps.toList) := by
        unfold lackF
        rw [List.pairwise_map]
        have hp0 : es.Pairwise (fun x y => x.1.cps.toList < y.1.cps.toList) := (List.pairwise_map (f := fun x : Str × Int => x.1) (R := fun x y : Str => x.cps.toList < y.cps.toList)).mp hrise
        exact List.Pairwise.filter _ hp0
      have hl4 : ∀ r ∈ lackF f l es, r.1 ∈ N4 := fun r hr => by
        unfold lackF at hr
        obtain ⟨e, he, rfl⟩ := List.mem_map.mp hr
        have he1 : e.1 ∈ es.map (·.1) := List.mem_map_of_mem (List.mem_filter.mp he).1
        exact hsub.subset he1
      have hll4 : (lackF f l es).length ≤ es.length := by unfold lackF; rw [List.length_map]; exact List.length_filter_le _ _
      have ekD : H20 pk = some (.dK (mkD l f)) := by rw [marks_eq]; exact ek20
      -- lacks, by the law
      refine ⟨_, rfl, .ref po, es.map (·.1), rfl, .inr ⟨po, _, rfl, eo20, by unfold intsK; rw [List.map_map, List.map_map]; rfl⟩, by rw [List.length_map]; omega, fun pt ts npt hts => ?_⟩
      obtain rfl : ts = es.map (·.1) := hts.eq (List.Perm.refl _) hle
      have w21 := Same.new (o := .lst ((es.map (·.1)).map V.str)) npt
      have X21 := X20.same w21
      have ek21 := w21 _ _ ekD
      have eo21 := w21 _ _ eo20
      have et21 := upd_same (H := H20) (a := pt) (o := .lst ((es.map (·.1)).map V.str))
      generalize upd H20 pt (.lst ((es.map (·.1)).map V.str)) = H21 at w21 X21 ek21 eo21 et21 ⊢
      refine ⟨pt, rfl, ⟨_, SqL.ofL et21⟩, es.length, fun j ys H' => Same H21 H' ∧ HasL H' ys ((lackF f l (es.take j)).map prD), szl (by omega), ⟨Same.refl _, hasL_nil⟩, ?_, ?_⟩
      · rintro j ys H' hj ⟨sH, hy⟩
        have et' := sH _ _ et21
        have ej : ((es.map (·.1)).map V.str)[j]? = some (.str es[j].1) := by rw [List.getElem?_map, List.getElem?_map, List.getElem?_eq_getElem hj]; rfl
        refine ⟨⟨_, .str es[j].1, SqL.ofL et', ej⟩, ?_⟩
        rintro x H2 ⟨rfl, hx⟩
        have hx' := hx _ (SqL.ofL et')
        rw [ej] at hx'
        obtain rfl := Option.some.inj hx'
        have hv : valV (intsK es) (Sum.inr es[j].1) = some (V.int es[j].2) := ints_val hnd (List.getElem_mem hj)
        have ek' := sH _ _ ek21
        have eo' := sH _ _ eo21
        have etk : es.take (j + 1) = es.take j ++ [es[j]] := by rw [List.take_add_one, List.getElem?_eq_getElem hj]; rfl
        refine rd_name ⟨_, rfl, pk, rfl, .inl ⟨_, .inl ek'⟩, _, rfl, _, DGet.k (k := Sum.inr es[j].1) ek', _, rfl, _, rfl, po, _, rfl, .inl ⟨_, Sum.inr es[j].1, .inl eo', rfl, hv.symm⟩, ?_⟩
        rw [mkD_val]
        refine ⟨_, _, rfl, rfl, _, rfl, ite2 (fun z => ?_) (fun z => ?_)⟩
        · refine ⟨_, rfl, _, rfl, pk, rfl, .inl ⟨_, .inl ek'⟩, _, rfl, _, DGet.k (k := Sum.inr es[j].1) ek', ?_⟩
          rw [mkD_val]
          refine ⟨(show 2 ≤ sizeLine by decide), fun u nu => ⟨sH.trans (Same.new nu), ?_⟩⟩
          have e1 : lackF f l (es.take (j + 1)) = lackF f l (es.take j) ++ [(es[j].1, markF f l es[j].1)] := by
            unfold lackF
            rw [etk, List.filter_append, List.map_append, List.filter_cons_of_pos (p := fun e : Str × Int => decide (markF f l e.1 < e.2)) z]; rfl
          rw [e1, List.map_append]
          exact HasL.append (HasL.same (Same.new nu) hy) (hasL_cons (has_tup upd_same (hasL_cons (has_str _) (hasL_cons (has_int _) hasL_nil))) hasL_nil)
        · refine ⟨sH, ?_⟩
          have e1 : lackF f l (es.take (j + 1)) = lackF f l (es.take j) := by
            unfold lackF
            rw [etk, List.filter_append, List.map_append, List.filter_cons_of_neg (p := fun e : Str × Int => decide (markF f l e.1 < e.2)) z]; simp
          rw [e1]
          exact hy
      rintro ys H22 ⟨s22, hy⟩
      rw [List.take_length] at hy
      refine ⟨⟨_, SqL.ofL (s22 _ _ et21), by rw [List.length_map, List.length_map]; exact Nat.le_refl _⟩, fun pl npl => ?_⟩
      have w23 := Same.new (o := .lst ys) npl
      have X23 := (X21.same s22).same w23
      have ek23 := w23 _ _ (s22 _ _ ek21)
      have eo23 := w23 _ _ (s22 _ _ eo21)
      have el23 := upd_same (H := H22) (a := pl) (o := .lst ys)
      have hy23 := HasL.same w23 hy
      generalize upd H22 pl (.lst ys) = H23 at X23 ek23 eo23 el23 hy23 ⊢
      clear w21 w23 npl npt et21 X21 ek21 eo21 s22 hy X20 ek20 ekD eo20 el20 hts
      -- held
      refine ⟨_, rfl, po, _, rfl, eo23, fun ph nph => ?_⟩
      have w24 := Same.new (o := .dK (intsK es)) nph
      have X24 := X23.same w24
      have ek24 := w24 _ _ ek23
      have eo24 := w24 _ _ eo23
      have el24 := w24 _ _ el23
      have hy24 := HasL.same w24 hy23
      have eh24 := upd_same (H := H23) (a := ph) (o := .dK (intsK es))
      generalize upd H23 ph (.dK (intsK es)) = H24 at X24 ek24 eo24 el24 hy24 eh24 ⊢
      clear w24 nph X23 ek23 eo23 el23 hy23
      -- lacks
      obtain ⟨dxS, obS⟩ := X24.w.sa.ob
      refine ⟨_, rfl, S.p, dxS, _, rfl, obS, no_sr (.inr (.inr (.inr rfl))), _, rfl, S, l, f, story, po, es, rfl, X24.w.sa, by omega, eo24, hnd, by omega, fun q3 y3 rs H25 s25 nq3 eq3 hy3 hpm hrs => ?_⟩
      obtain rfl : rs = lackF f l es := pr_uniq hpm hrs hlr
      refine ⟨_, rfl, ne_D (has_lst eq3 hy3) (has_lst (s25 _ _ el24) (HasL.same s25 hy24)) (pr_shaped hl4) ⟨_, rfl, iteF ?_⟩⟩
      have X25 := X24.same s25
      have ek25 : H25 pk = some (.dK (intsK (mkM f l))) := by rw [← marks_eq]; exact s25 _ _ ek24
      have eo25 := s25 _ _ eo24
      have eh25 := s25 _ _ eh24
      clear X24 ek24 eo24 el24 hy24 eh24 obS eq3 hy3 s25 nq3
      obtain ⟨dxS, obS⟩ := X25.w.sa.ob
      refine ⟨_, rfl, S.p, dxS, _, rfl, obS, no_sr (.inr (.inr (.inr rfl))), _, rfl, S, l, f, story, pk, mkM f l, rfl, X25.w.sa, by omega, ek25, mnd, by omega, fun q4 y4 rs H26 s26 nq4 eq4 hy4 hpm4 _ => ?_⟩
      rw [lackM] at hpm4
      obtain rfl := List.perm_nil.mp hpm4
      obtain rfl : y4 = [] := List.eq_nil_of_length_eq_zero (HasL.length hy4)
      refine ⟨Nat.zero_le _, fun lz nlz => ?_⟩
      have w27 := Same.new (o := .lst []) nlz
      refine ⟨q4, lz, _, rfl, rfl, SqL.ofL (w27 _ _ eq4), SqL.ofL upd_same, _, rfl, iteF ?_⟩
      have X27 := X25.same (s26.trans w27)
      have ek27 := (s26.trans w27) _ _ ek25
      have eo27 := (s26.trans w27) _ _ eo25
      have eh27 := (s26.trans w27) _ _ eh25
      generalize upd H26 lz (.lst []) = H27 at X27 ek27 eo27 eh27 ⊢
      -- nothing changed
      refine ⟨_, rfl, _, rfl, po, ph, es, rfl, rfl, eo27, eh27, hnd, _, rfl, iteF ?_⟩
      obtain ⟨dxS, obS⟩ := X27.w.sa.ob
      refine ⟨_, rfl, S.p, dxS, _, rfl, obS, no_sr (.inr (.inr (.inl rfl))), S, l, f, story, rfl, X27.w.sa, by omega, fun q5 H28 s28 nq5 eq5 => ?_⟩
      rw [marks_eq] at eq5
      refine ⟨_, rfl, q5, pk, mkM f l, rfl, rfl, eq5, s28 _ _ ek27, mnd, _, rfl, iteF ?_⟩
      exact ⟨_, _, _, _, _, _, _, _, _, _, _, _, l, ll, f, story, pr, yr, rfl, X27.same s28⟩
    · rintro σ H4 ⟨o4, o5, o6, o7, o8, o9, o10, o11, o12, o13, o14, o15, l, ll, f, story, pr, yr, rfl, X⟩
      have hsz := X.sz
      obtain ⟨dxS, obS⟩ := X.w.sa.ob
      refine ⟨_, rfl, S.p, dxS, _, rfl, obS, no_sr (.inr (.inl rfl)), S, l, f, story, rfl, X.w.sa, fun q1 y1 nq1 hy1 => ?_⟩
      have ly := HasL.length hy1
      rw [List.length_map] at ly
      refine ⟨.inl ⟨rfl, _, SqL.ofL upd_same⟩, q1, y1, _, rfl, rfl, upd_same, by rw [sizeLine_eq]; omega, ?_⟩
      rw [upd_upd]
      have w1 := Same.new (o := .lst (y1 ++ [V.non])) nq1
      have X1 := X.same w1
      generalize upd H4 q1 (.lst (y1 ++ [V.non])) = H5 at w1 X1 ⊢
      obtain ⟨dxS, obS⟩ := X1.w.sa.ob
      refine ⟨_, rfl, S.p, dxS, _, rfl, obS, no_sr (.inr (.inl rfl)), S, l, f, story, rfl, X1.w.sa, fun q2 y2 nq2 hy2 => ?_⟩
      have w2 := Same.new (o := .lst y2) nq2
      refine ⟨_, rfl, eq_D (has_lst upd_same hy2) (has_lst (w2 _ _ X1.er) (HasL.same w2 X1.hr)) (rw_shaped X1.ok) ⟨_, rfl, iteT ?_⟩⟩
      intro p2 dx2 np2 nd2 nx2
      refine ⟨p2, dx2, rfl, upd_same, fun S2 H6 ep2 hS2 st2 => ⟨rfl, ?_⟩⟩
      subst ep2
      obtain ⟨dx3, ob3⟩ := (hS2 fun _ => hs0).ob
      refine ⟨S2.p, dx3, _, rfl, ob3, no_sr (.inr (.inr (.inl rfl))), S2, [], fun _ => hs0, [], rfl, hS2 _, by decide, fun q3 H7 s7 nq3 eq3 => ?_⟩
      intro pd npd
      have w3 := Same.new (o := .dK []) npd
      exact ⟨q3, pd, [], rfl, rfl, w3 _ _ eq3, upd_same, List.nodup_nil, q _⟩
end
end K52


namespace K52
open PySem L2
theorem all_mk {l : PySem.W.OpenLaw} {w : World} {K : PySem.W.Frag} {h : Heap} {mg : Str → Option Value} {fa f0 f1 f2 f3 f4 f5 f6 f7 f8 f9 f10 f11 f12 f13 f14 f15 f16 f17 f18 f19 f20 f21 f22 C_Sources C_Hearer CT CN CR CK CO : Addr} (X : K.In h) (G : h.Ns mainGlobals mg) (hfa : mg "law" = some (.ref fa))
    {od0 an0 od1 an1 od2 an2 od3 an3 od4 an4 od5 an5 od6 an6 od7 an7 od8 an8 od9 an9 od10 an10 od11 an11 od12 an12 od13 an13 od14 an14 od15 an15 od16 an16 od17 an17 od18 an18 od19 an19 od20 an20 od21 an21 od22 an22 : Option Addr} {sl0 sl1 sl2 sl3 sl4 sl5 sl6 sl7 sl8 sl9 sl10 sl11 sl12 sl13 sl14 sl15 sl16 sl17 sl18 sl19 sl20 sl21 sl22 : Array (Option Value)} {oc0 kV0 dc0 pm0 cd0 ct0 oc1 kV1 dc1 pm1 cd1 ct1 oc2 kV2 dc2 pm2 cd2 ct2 oc3 kV3 dc3 pm3 cd3 ct3 oc4 kV4 dc4 pm4 cd4 ct4 oc5 kV5 dc5 pm5 cd5 ct5 oc6 kV6 dc6 pm6 cd6 ct6 oc7 kV7 dc7 pm7 cd7 ct7 oc8 kV8 dc8 pm8 cd8 ct8 oc9 kV9 dc9 pm9 cd9 ct9 oc10 kV10 dc10 pm10 cd10 ct10 oc11 kV11 dc11 pm11 cd11 ct11 oc12 kV12 dc12 pm12 cd12 ct12 oc13 kV13 dc13 pm13 cd13 ct13 oc14 kV14 dc14 pm14 cd14 ct14 oc15 kV15 dc15 pm15 cd15 ct15 oc16 kV16 dc16 pm16 cd16 ct16 oc17 kV17 dc17 pm17 cd17 ct17 oc18 kV18 dc18 pm18 cd18 ct18 oc19 kV19 dc19 pm19 cd19 ct19 oc20 kV20 dc20 pm20 cd20 ct20 oc21 kV21 dc21 pm21 cd21 ct21 oc22 kV22 dc22 pm22 cd22 ct22 : Value}
    (aX_TellError : PySem.W.nsIn K mainGlobals "TellError" = some (some (.ref CT)))
    (aX_NoNumber : PySem.W.nsIn K mainGlobals "NoNumber" = some (some (.ref CN)))
    (aX_NoRoad : PySem.W.nsIn K mainGlobals "NoRoad" = some (some (.ref CR)))
    (aX_Taken : PySem.W.nsIn K mainGlobals "Taken" = some (some (.ref CK)))
    (aX_Other : PySem.W.nsIn K mainGlobals "Other" = some (some (.ref CO)))
    (xe_Other : PySem.W.excIn K CO [.type "ValueError", .type "Exception", .type "BaseException", .type "object"] "ValueError.__new__" = true)
    (xga_z : PySem.W.findIn K (.ref CO) "__getattribute__" = some (some (.builtin "BaseException.__getattribute__")))
    (xcl_z : PySem.W.findIn K (.ref CO) "__class__" = some (some (.builtin "object.__class__")))
    (xno_z : PySem.W.findIn K (.ref CO) "__getattr__" = some none)
    (xob_z : PySem.W.mroIn K CO (.type "object") = some true)
    (xbe_z : PySem.W.mroIn K CO (.type "BaseException") = some true)
    (xhd_z : PySem.W.hasDictIn K CO = true)
    (x_iN : PySem.W.kitOne K (.ref CO) (.ref CN) = some false)
    (x_iR : PySem.W.kitOne K (.ref CO) (.ref CR) = some false)
    (x_iK : PySem.W.kitOne K (.ref CO) (.ref CK) = some false)
    (x_iO : PySem.W.kitOne K (.ref CO) (.ref CO) = some true)
    (x_iV : PySem.W.kitOne K (.ref CO) (.type "ValueError") = some true)
    (x_em : PySem.W.exmOne K (.ref CO) (.ref CT) = some true)
    (aC_Sources : PySem.W.nsIn K mainGlobals "Sources" = some (some (.ref C_Sources)))
    (pg_Sources : PySem.W.plainGet K C_Sources Str.empty = true)
    (hd_Sources : PySem.W.hasDictIn K C_Sources = true)
    (po_Sources : PySem.W.plainOver K C_Sources = true)
    (sa_Sources : PySem.W.findIn K (.ref C_Sources) "__setattr__" = some (some (.builtin "object.__setattr__")))
    (mk_Sources : PySem.W.makesIn K C_Sources = true)
    (kc_Sources : PySem.W.keepIn K (.ref C_Sources) = true)
    (n_Sources_hearers : PySem.W.findIn K (.ref C_Sources) "hearers" = some none)
    (n_Sources_story : PySem.W.findIn K (.ref C_Sources) "story" = some none)
    (aC_Hearer : PySem.W.nsIn K mainGlobals "Hearer" = some (some (.ref C_Hearer)))
    (pg_Hearer : PySem.W.plainGet K C_Hearer Str.empty = true)
    (hd_Hearer : PySem.W.hasDictIn K C_Hearer = true)
    (po_Hearer : PySem.W.plainOver K C_Hearer = true)
    (sa_Hearer : PySem.W.findIn K (.ref C_Hearer) "__setattr__" = some (some (.builtin "object.__setattr__")))
    (mk_Hearer : PySem.W.makesIn K C_Hearer = true)
    (kc_Hearer : PySem.W.keepIn K (.ref C_Hearer) = true)
    (n_Hearer_next_number : PySem.W.findIn K (.ref C_Hearer) "next_number" = some none)
    (n_Hearer_past : PySem.W.findIn K (.ref C_Hearer) "past" = some none)
    (n_Hearer_held : PySem.W.findIn K (.ref C_Hearer) "held" = some none)
    (n_Hearer_known : PySem.W.findIn K (.ref C_Hearer) "known" = some none)
    (n_Hearer_given_up : PySem.W.findIn K (.ref C_Hearer) "given_up" = some none)
    (a0 : PySem.W.nsIn K mainGlobals "number_of" = some (some (.ref f0)))
    (l0 : K.lookup f0 = some ⟨oc0, od0, .func (PySem.W.fnOf "number_of" "number_of" (defArgs s_number_of) (defBody s_number_of) (defScope s_number_of) .none kV0 dc0 pm0 an0 cd0 ct0), sl0⟩)
    (c0 : PySem.W.codeIn K cd0 "number_of" = true)
    (k0 : PySem.W.keepIn K (.ref f0) = true)
    (a1 : PySem.W.nsIn K mainGlobals "topic_of" = some (some (.ref f1)))
    (l1 : K.lookup f1 = some ⟨oc1, od1, .func (PySem.W.fnOf "topic_of" "topic_of" (defArgs s_topic_of) (defBody s_topic_of) (defScope s_topic_of) .none kV1 dc1 pm1 an1 cd1 ct1), sl1⟩)
    (c1 : PySem.W.codeIn K cd1 "topic_of" = true)
    (k1 : PySem.W.keepIn K (.ref f1) = true)
    (a2 : PySem.W.nsIn K mainGlobals "text_of" = some (some (.ref f2)))
    (l2 : K.lookup f2 = some ⟨oc2, od2, .func (PySem.W.fnOf "text_of" "text_of" (defArgs s_text_of) (defBody s_text_of) (defScope s_text_of) .none kV2 dc2 pm2 an2 cd2 ct2), sl2⟩)
    (c2 : PySem.W.codeIn K cd2 "text_of" = true)
    (k2 : PySem.W.keepIn K (.ref f2) = true)
    (a3 : PySem.W.findIn K (.ref C_Hearer) "__init__" = some (some (.ref f3)))
    (i3 : PySem.W.isFn K (.ref f3) = true)
    (l3 : K.lookup f3 = some ⟨oc3, od3, .func (PySem.W.fnOf "__init__" "Hearer.__init__" (defArgs s_Hearer___init__) (defBody s_Hearer___init__) (defScope s_Hearer___init__) .none kV3 dc3 pm3 an3 cd3 ct3), sl3⟩)
    (c3 : PySem.W.codeIn K cd3 "Hearer.__init__" = true)
    (k3 : PySem.W.keepIn K (.ref f3) = true)
    (a4 : PySem.W.findIn K (.ref C_Hearer) "expects" = some (some (.ref f4)))
    (i4 : PySem.W.isFn K (.ref f4) = true)
    (l4 : K.lookup f4 = some ⟨oc4, od4, .func (PySem.W.fnOf "expects" "Hearer.expects" (defArgs s_Hearer_expects) (defBody s_Hearer_expects) (defScope s_Hearer_expects) .none kV4 dc4 pm4 an4 cd4 ct4), sl4⟩)
    (c4 : PySem.W.codeIn K cd4 "Hearer.expects" = true)
    (k4 : PySem.W.keepIn K (.ref f4) = true)
    (a5 : PySem.W.findIn K (.ref C_Hearer) "hear_held" = some (some (.ref f5)))
    (i5 : PySem.W.isFn K (.ref f5) = true)
    (l5 : K.lookup f5 = some ⟨oc5, od5, .func (PySem.W.fnOf "hear_held" "Hearer.hear_held" (defArgs s_Hearer_hear_held) (defBody s_Hearer_hear_held) (defScope s_Hearer_hear_held) .none kV5 dc5 pm5 an5 cd5 ct5), sl5⟩)
    (c5 : PySem.W.codeIn K cd5 "Hearer.hear_held" = true)
    (k5 : PySem.W.keepIn K (.ref f5) = true)
    (a6 : PySem.W.findIn K (.ref C_Hearer) "refuse_others" = some (some (.ref f6)))
    (i6 : PySem.W.isFn K (.ref f6) = true)
    (l6 : K.lookup f6 = some ⟨oc6, od6, .func (PySem.W.fnOf "refuse_others" "Hearer.refuse_others" (defArgs s_Hearer_refuse_others) (defBody s_Hearer_refuse_others) (defScope s_Hearer_refuse_others) .none kV6 dc6 pm6 an6 cd6 ct6), sl6⟩)
    (c6 : PySem.W.codeIn K cd6 "Hearer.refuse_others" = true)
    (k6 : PySem.W.keepIn K (.ref f6) = true)
    (a7 : PySem.W.findIn K (.ref C_Hearer) "take_all" = some (some (.ref f7)))
    (i7 : PySem.W.isFn K (.ref f7) = true)
    (l7 : K.lookup f7 = some ⟨oc7, od7, .func (PySem.W.fnOf "take_all" "Hearer.take_all" (defArgs s_Hearer_take_all) (defBody s_Hearer_take_all) (defScope s_Hearer_take_all) .none kV7 dc7 pm7 an7 cd7 ct7), sl7⟩)
    (c7 : PySem.W.codeIn K cd7 "Hearer.take_all" = true)
    (k7 : PySem.W.keepIn K (.ref f7) = true)
    (a8 : PySem.W.findIn K (.ref C_Hearer) "take" = some (some (.ref f8)))
    (i8 : PySem.W.isFn K (.ref f8) = true)
    (l8 : K.lookup f8 = some ⟨oc8, od8, .func (PySem.W.fnOf "take" "Hearer.take" (defArgs s_Hearer_take) (defBody s_Hearer_take) (defScope s_Hearer_take) .none kV8 dc8 pm8 an8 cd8 ct8), sl8⟩)
    (c8 : PySem.W.codeIn K cd8 "Hearer.take" = true)
    (k8 : PySem.W.keepIn K (.ref f8) = true)
    (a9 : PySem.W.findIn K (.ref C_Sources) "__init__" = some (some (.ref f9)))
    (i9 : PySem.W.isFn K (.ref f9) = true)
    (l9 : K.lookup f9 = some ⟨oc9, od9, .func (PySem.W.fnOf "__init__" "Sources.__init__" (defArgs s_Sources___init__) (defBody s_Sources___init__) (defScope s_Sources___init__) .none kV9 dc9 pm9 an9 cd9 ct9), sl9⟩)
    (c9 : PySem.W.codeIn K cd9 "Sources.__init__" = true)
    (k9 : PySem.W.keepIn K (.ref f9) = true)
    (a10 : PySem.W.findIn K (.ref C_Sources) "take" = some (some (.ref f10)))
    (i10 : PySem.W.isFn K (.ref f10) = true)
    (l10 : K.lookup f10 = some ⟨oc10, od10, .func (PySem.W.fnOf "take" "Sources.take" (defArgs s_Sources_take) (defBody s_Sources_take) (defScope s_Sources_take) .none kV10 dc10 pm10 an10 cd10 ct10), sl10⟩)
    (c10 : PySem.W.codeIn K cd10 "Sources.take" = true)
    (k10 : PySem.W.keepIn K (.ref f10) = true)
    (a11 : PySem.W.findIn K (.ref C_Sources) "heard" = some (some (.ref f11)))
    (i11 : PySem.W.isFn K (.ref f11) = true)
    (l11 : K.lookup f11 = some ⟨oc11, od11, .func (PySem.W.fnOf "heard" "Sources.heard" (defArgs s_Sources_heard) (defBody s_Sources_heard) (defScope s_Sources_heard) .none kV11 dc11 pm11 an11 cd11 ct11), sl11⟩)
    (c11 : PySem.W.codeIn K cd11 "Sources.heard" = true)
    (k11 : PySem.W.keepIn K (.ref f11) = true)
    (a12 : PySem.W.findIn K (.ref C_Sources) "marks" = some (some (.ref f12)))
    (i12 : PySem.W.isFn K (.ref f12) = true)
    (l12 : K.lookup f12 = some ⟨oc12, od12, .func (PySem.W.fnOf "marks" "Sources.marks" (defArgs s_Sources_marks) (defBody s_Sources_marks) (defScope s_Sources_marks) .none kV12 dc12 pm12 an12 cd12 ct12), sl12⟩)
    (c12 : PySem.W.codeIn K cd12 "Sources.marks" = true)
    (k12 : PySem.W.keepIn K (.ref f12) = true)
    (a13 : PySem.W.findIn K (.ref C_Sources) "lacks" = some (some (.ref f13)))
    (i13 : PySem.W.isFn K (.ref f13) = true)
    (l13 : K.lookup f13 = some ⟨oc13, od13, .func (PySem.W.fnOf "lacks" "Sources.lacks" (defArgs s_Sources_lacks) (defBody s_Sources_lacks) (defScope s_Sources_lacks) .none kV13 dc13 pm13 an13 cd13 ct13), sl13⟩)
    (c13 : PySem.W.codeIn K cd13 "Sources.lacks" = true)
    (k13 : PySem.W.keepIn K (.ref f13) = true)
    (a14 : PySem.W.nsIn K mainGlobals "_law_cell" = some (some (.ref f14)))
    (l14 : K.lookup f14 = some ⟨oc14, od14, .func (PySem.W.fnOf "_law_cell" "_law_cell" (defArgs s_l_cell) (defBody s_l_cell) (defScope s_l_cell) .none kV14 dc14 pm14 an14 cd14 ct14), sl14⟩)
    (c14 : PySem.W.codeIn K cd14 "_law_cell" = true)
    (k14 : PySem.W.keepIn K (.ref f14) = true)
    (a15 : PySem.W.nsIn K mainGlobals "_law_drawn" = some (some (.ref f15)))
    (l15 : K.lookup f15 = some ⟨oc15, od15, .func (PySem.W.fnOf "_law_drawn" "_law_drawn" (defArgs s_l_drawn) (defBody s_l_drawn) (defScope s_l_drawn) .none kV15 dc15 pm15 an15 cd15 ct15), sl15⟩)
    (c15 : PySem.W.codeIn K cd15 "_law_drawn" = true)
    (k15 : PySem.W.keepIn K (.ref f15) = true)
    (a16 : PySem.W.nsIn K mainGlobals "_law_hearer" = some (some (.ref f16)))
    (l16 : K.lookup f16 = some ⟨oc16, od16, .func (PySem.W.fnOf "_law_hearer" "_law_hearer" (defArgs s_l_hearer) (defBody s_l_hearer) (defScope s_l_hearer) .none kV16 dc16 pm16 an16 cd16 ct16), sl16⟩)
    (c16 : PySem.W.codeIn K cd16 "_law_hearer" = true)
    (k16 : PySem.W.keepIn K (.ref f16) = true)
    (a17 : PySem.W.nsIn K mainGlobals "_law_expects" = some (some (.ref f17)))
    (l17 : K.lookup f17 = some ⟨oc17, od17, .func (PySem.W.fnOf "_law_expects" "_law_expects" (defArgs s_l_expects) (defBody s_l_expects) (defScope s_l_expects) .none kV17 dc17 pm17 an17 cd17 ct17), sl17⟩)
    (c17 : PySem.W.codeIn K cd17 "_law_expects" = true)
    (k17 : PySem.W.keepIn K (.ref f17) = true)
    (a18 : PySem.W.nsIn K mainGlobals "_law_goes_on" = some (some (.ref f18)))
    (l18 : K.lookup f18 = some ⟨oc18, od18, .func (PySem.W.fnOf "_law_goes_on" "_law_goes_on" (defArgs s_l_goes_on) (defBody s_l_goes_on) (defScope s_l_goes_on) .none kV18 dc18 pm18 an18 cd18 ct18), sl18⟩)
    (c18 : PySem.W.codeIn K cd18 "_law_goes_on" = true)
    (k18 : PySem.W.keepIn K (.ref f18) = true)
    (a19 : PySem.W.nsIn K mainGlobals "_law_takes" = some (some (.ref f19)))
    (l19 : K.lookup f19 = some ⟨oc19, od19, .func (PySem.W.fnOf "_law_takes" "_law_takes" (defArgs s_l_takes) (defBody s_l_takes) (defScope s_l_takes) .none kV19 dc19 pm19 an19 cd19 ct19), sl19⟩)
    (c19 : PySem.W.codeIn K cd19 "_law_takes" = true)
    (k19 : PySem.W.keepIn K (.ref f19) = true)
    (a20 : PySem.W.nsIn K mainGlobals "_law_refused" = some (some (.ref f20)))
    (l20 : K.lookup f20 = some ⟨oc20, od20, .func (PySem.W.fnOf "_law_refused" "_law_refused" (defArgs s_l_refused) (defBody s_l_refused) (defScope s_l_refused) .none kV20 dc20 pm20 an20 cd20 ct20), sl20⟩)
    (c20 : PySem.W.codeIn K cd20 "_law_refused" = true)
    (k20 : PySem.W.keepIn K (.ref f20) = true)
    (a21 : PySem.W.nsIn K mainGlobals "_law_told" = some (some (.ref f21)))
    (l21 : K.lookup f21 = some ⟨oc21, od21, .func (PySem.W.fnOf "_law_told" "_law_told" (defArgs s_l_told) (defBody s_l_told) (defScope s_l_told) .none kV21 dc21 pm21 an21 cd21 ct21), sl21⟩)
    (c21 : PySem.W.codeIn K cd21 "_law_told" = true)
    (k21 : PySem.W.keepIn K (.ref f21) = true)
    (a22 : PySem.W.nsIn K mainGlobals "law" = some (some (.ref f22)))
    (l22 : K.lookup f22 = some ⟨oc22, od22, .func (PySem.W.fnOf "law" "law" (defArgs s_law) (defBody s_law) (defScope s_law) .none kV22 dc22 pm22 an22 cd22 ct22), sl22⟩)
    (c22 : PySem.W.codeIn K cd22 "law" = true)
    (k22 : PySem.W.keepIn K (.ref f22) = true)
    (z0 : PySem.W.nsIn K mainGlobals "len" = some none)
    (z1 : PySem.W.nsIn K mainGlobals "range" = some none)
    (z2 : PySem.W.nsIn K mainGlobals "list" = some none)
    (z3 : PySem.W.nsIn K mainGlobals "max" = some none)
    (z4 : PySem.W.nsIn K mainGlobals "min" = some none)
    (z5 : PySem.W.nsIn K mainGlobals "sorted" = some none)
    (z6 : PySem.W.nsIn K mainGlobals "dict" = some none)
    (z7 : PySem.W.nsIn K mainGlobals "enumerate" = some none)
    (z8 : PySem.W.nsIn K mainGlobals "isinstance" = some none)
    (z9 : PySem.W.nsIn K mainGlobals "ValueError" = some none)
    : ∃ fd : FuncData, (∀ (s : Shared) (v : Value), BindsTo s fd ⟨[v], []⟩ [("_law_script", v)]) ∧ ∀ base : Heap, K.In base → base.Ns mainGlobals mg → FnOk l.prog w K mg base CX0 7 fa fd ["_law_script"] (spLaw K) := by
  have e := hfa.symm.trans (PySem.W.mg_of X G a22)
  cases e
  have T : Txt mg := { b_len := PySem.W.mg_none_of X G z0, b_range := PySem.W.mg_none_of X G z1, b_list := PySem.W.mg_none_of X G z2, b_max := PySem.W.mg_none_of X G z3, b_min := PySem.W.mg_none_of X G z4, b_sorted := PySem.W.mg_none_of X G z5, b_dict := PySem.W.mg_none_of X G z6, b_enumerate := PySem.W.mg_none_of X G z7, b_isinstance := PySem.W.mg_none_of X G z8, b_ValueError := PySem.W.mg_none_of X G z9 }
  have R_Sources : SourcesC K mg C_Sources := { cl_Sources := ⟨pg_Sources, hd_Sources, po_Sources, sa_Sources⟩, mg_Sources := PySem.W.mg_of X G aC_Sources, n_hearers := n_Sources_hearers, n_story := n_Sources_story }
  have R_Hearer : HearK K mg C_Hearer := { cl_Hearer := ⟨pg_Hearer, hd_Hearer, po_Hearer, sa_Hearer⟩, mg_Hearer := PySem.W.mg_of X G aC_Hearer, n_next_number := n_Hearer_next_number, n_past := n_Hearer_past, n_held := n_Hearer_held, n_known := n_Hearer_known, n_given_up := n_Hearer_given_up }
  have TC : TxtC K mg C_Sources C_Hearer := ⟨R_Sources, R_Hearer⟩
  have TX : TxtX K mg CT CN CR CK CO := { a_TellError := PySem.W.mg_of X G aX_TellError, a_NoNumber := PySem.W.mg_of X G aX_NoNumber, a_NoRoad := PySem.W.mg_of X G aX_NoRoad, a_Taken := PySem.W.mg_of X G aX_Taken, a_Other := PySem.W.mg_of X G aX_Other, z := ⟨xga_z, xcl_z, xno_z, xob_z, xbe_z, xhd_z⟩, iN := x_iN, iR := x_iR, iK := x_iK, iO := x_iO, iV := x_iV, em := x_em }
  have xc_Other : Exc K mg "Other" CO := ⟨PySem.W.mg_of X G aX_Other, xe_Other⟩
  have F0 := fun_mk (st := s_number_of) l0 c0 k0
  have b0 := F0.binds (ps := ["message"]) fun _ _ _ _ _ _ us hl => match us, hl with | [_], _ => rfl
  have F1 := fun_mk (st := s_topic_of) l1 c1 k1
  have b1 := F1.binds (ps := ["message"]) fun _ _ _ _ _ _ us hl => match us, hl with | [_], _ => rfl
  have F2 := fun_mk (st := s_text_of) l2 c2 k2
  have b2 := F2.binds (ps := ["message"]) fun _ _ _ _ _ _ us hl => match us, hl with | [_], _ => rfl
  have F3 := fun_mk (st := s_Hearer___init__) l3 c3 k3
  have b3 := F3.binds (ps := ["self"]) fun _ _ _ _ _ _ us hl => match us, hl with | [_], _ => rfl
  have F4 := fun_mk (st := s_Hearer_expects) l4 c4 k4
  have b4 := F4.binds (ps := ["self"]) fun _ _ _ _ _ _ us hl => match us, hl with | [_], _ => rfl
  have F5 := fun_mk (st := s_Hearer_hear_held) l5 c5 k5
  have b5 := F5.binds (ps := ["self"]) fun _ _ _ _ _ _ us hl => match us, hl with | [_], _ => rfl
  have F6 := fun_mk (st := s_Hearer_refuse_others) l6 c6 k6
  have b6 := F6.binds (ps := ["self", "messages"]) fun _ _ _ _ _ _ us hl => match us, hl with | [_, _], _ => rfl
  have F7 := fun_mk (st := s_Hearer_take_all) l7 c7 k7
  have b7 := F7.binds (ps := ["self", "messages"]) fun _ _ _ _ _ _ us hl => match us, hl with | [_, _], _ => rfl
  have F8 := fun_mk (st := s_Hearer_take) l8 c8 k8
  have b8 := F8.binds (ps := ["self", "message"]) fun _ _ _ _ _ _ us hl => match us, hl with | [_, _], _ => rfl
  have F9 := fun_mk (st := s_Sources___init__) l9 c9 k9
  have b9 := F9.binds (ps := ["self"]) fun _ _ _ _ _ _ us hl => match us, hl with | [_], _ => rfl
  have F10 := fun_mk (st := s_Sources_take) l10 c10 k10
  have b10 := F10.binds (ps := ["self", "source", "message"]) fun _ _ _ _ _ _ us hl => match us, hl with | [_, _, _], _ => rfl
  have F11 := fun_mk (st := s_Sources_heard) l11 c11 k11
  have b11 := F11.binds (ps := ["self"]) fun _ _ _ _ _ _ us hl => match us, hl with | [_], _ => rfl
  have F12 := fun_mk (st := s_Sources_marks) l12 c12 k12
  have b12 := F12.binds (ps := ["self"]) fun _ _ _ _ _ _ us hl => match us, hl with | [_], _ => rfl
  have F13 := fun_mk (st := s_Sources_lacks) l13 c13 k13
  have b13 := F13.binds (ps := ["self", "marks"]) fun _ _ _ _ _ _ us hl => match us, hl with | [_, _], _ => rfl
  have F14 := fun_mk (st := s_l_cell) l14 c14 k14
  have b14 := F14.binds (ps := ["_law_script", "_law_k"]) fun _ _ _ _ _ _ us hl => match us, hl with | [_, _], _ => rfl
  have F15 := fun_mk (st := s_l_drawn) l15 c15 k15
  have b15 := F15.binds (ps := ["_law_script", "_law_k", "_law_many"]) fun _ _ _ _ _ _ us hl => match us, hl with | [_, _, _], _ => rfl
  have F16 := fun_mk (st := s_l_hearer) l16 c16 k16
  have b16 := F16.binds (ps := []) fun _ _ _ _ _ _ us hl => match us, hl with | [], _ => rfl
  have F17 := fun_mk (st := s_l_expects) l17 c17 k17
  have b17 := F17.binds (ps := ["_law_mine"]) fun _ _ _ _ _ _ us hl => match us, hl with | [_], _ => rfl
  have F18 := fun_mk (st := s_l_goes_on) l18 c18 k18
  have b18 := F18.binds (ps := ["_law_mine"]) fun _ _ _ _ _ _ us hl => match us, hl with | [_], _ => rfl
  have F19 := fun_mk (st := s_l_takes) l19 c19 k19
  have b19 := F19.binds (ps := ["_law_mine", "_law_message"]) fun _ _ _ _ _ _ us hl => match us, hl with | [_, _], _ => rfl
  have F20 := fun_mk (st := s_l_refused) l20 c20 k20
  have b20 := F20.binds (ps := ["_law_e"]) fun _ _ _ _ _ _ us hl => match us, hl with | [_], _ => rfl
  have F21 := fun_mk (st := s_l_told) l21 c21 k21
  have b21 := F21.binds (ps := ["_law_sources", "_law_source", "_law_message"]) fun _ _ _ _ _ _ us hl => match us, hl with | [_, _, _], _ => rfl
  have F22 := fun_mk (st := s_law) l22 c22 k22
  refine ⟨PySem.W.fnOf "law" "law" (defArgs s_law) (defBody s_law) (defScope s_law) .none kV22 dc22 pm22 an22 cd22 ct22, fun s v => .of_eq rfl, fun base _ _ => ?_⟩
  have C0 : Callee l.prog w K mg base 1 "number_of" ["message"] (spItem 0) := ⟨_, _, ok_number_of F0 , PySem.W.mg_of X G a0, k0, b0⟩
  have C1 : Callee l.prog w K mg base 1 "topic_of" ["message"] (spItem 1) := ⟨_, _, ok_topic_of F1 , PySem.W.mg_of X G a1, k1, b1⟩
  have C2 : Callee l.prog w K mg base 1 "text_of" ["message"] (spItem 2) := ⟨_, _, ok_text_of F2 , PySem.W.mg_of X G a2, k2, b2⟩
  have C3 : CalleeI l.prog w K mg base 1 C_Hearer ["self"] (spInitH C_Hearer) := ⟨_, _, ok_Hearer_init F3 R_Hearer.toHearC, ⟨mk_Hearer, a3, i3, kc_Hearer⟩, b3⟩
  have C4 : CalleeM l.prog w K mg base 1 C_Hearer "expects" ["self"] (spExpects C_Hearer) := ⟨_, _, ok_Hearer_expects F4 R_Hearer.toHearC, ⟨a4, i4, k4⟩, b4⟩
  have C5 : CalleeM l.prog w K mg base 1 C_Hearer "hear_held" ["self"] (spHear C_Hearer) := ⟨_, _, ok_Hearer_hear_held F5 R_Hearer.toHearC, ⟨a5, i5, k5⟩, b5⟩
  have C6 : CalleeMX l.prog w K mg base 2 C_Hearer "refuse_others" ["self", "messages"] (spRefuseX C_Hearer CO) := ⟨_, _, okx_Hearer_refuse_others F6 R_Hearer.toHearC xc_Other C0, ⟨a6, i6, k6⟩, b6⟩
  have C7 : CalleeMX l.prog w K mg base 3 C_Hearer "take_all" ["self", "messages"] (spTakeAllX C_Hearer CO) := ⟨_, _, okx_Hearer_take_all F7 R_Hearer.toHearC C0 C6 C5, ⟨a7, i7, k7⟩, b7⟩
  have C8 : CalleeMX l.prog w K mg base 4 C_Hearer "take" ["self", "message"] (spTakeX C_Hearer CO) := ⟨_, _, okx_Hearer_take F8 R_Hearer.toHearC C7, ⟨a8, i8, k8⟩, b8⟩
  have C9 : CalleeI l.prog w K mg base 1 C_Sources ["self"] (spSInit C_Sources C_Hearer) := ⟨_, _, ok_Sources_init F9 R_Sources, ⟨mk_Sources, a9, i9, kc_Sources⟩, b9⟩
  have C10 : CalleeMX l.prog w K mg base 5 C_Sources "take" ["self", "source", "message"] (spSTakeX C_Sources C_Hearer CO) := ⟨_, _, okx_Sources_take F10 T TC C0 C1 C2 C3 C8, ⟨a10, i10, k10⟩, b10⟩
  have C11 : CalleeM l.prog w K mg base 1 C_Sources "heard" ["self"] (spSHeard C_Sources C_Hearer) := ⟨_, _, ok_Sources_heard F11 T R_Sources, ⟨a11, i11, k11⟩, b11⟩
  have C12 : CalleeM l.prog w K mg base 2 C_Sources "marks" ["self"] (spSMarks C_Sources C_Hearer) := ⟨_, _, ok_Sources_marks F12 TC C4, ⟨a12, i12, k12⟩, b12⟩
  have C13 : CalleeM l.prog w K mg base 3 C_Sources "lacks" ["self", "marks"] (spSLacks C_Sources C_Hearer) := ⟨_, _, ok_Sources_lacks F13 T R_Sources C12, ⟨a13, i13, k13⟩, b13⟩
  have C14 : Callee l.prog w K mg base 1 "_law_cell" ["_law_script", "_law_k"] (spCell K) := ⟨_, _, ok_l_cell F14 T, PySem.W.mg_of X G a14, k14, b14⟩
  have C15 : Callee l.prog w K mg base 2 "_law_drawn" ["_law_script", "_law_k", "_law_many"] (spDrawn K) := ⟨_, _, ok_l_drawn F15 T C14, PySem.W.mg_of X G a15, k15, b15⟩
  have C16 : Callee l.prog w K mg base 1 "_law_hearer" [] (spLNew) := ⟨_, _, ok_l_hearer F16 , PySem.W.mg_of X G a16, k16, b16⟩
  have C17 : Callee l.prog w K mg base 1 "_law_expects" ["_law_mine"] (spLExp) := ⟨_, _, ok_l_expects F17 T, PySem.W.mg_of X G a17, k17, b17⟩
  have C18 : Callee l.prog w K mg base 2 "_law_goes_on" ["_law_mine"] (spLGo) := ⟨_, _, ok_l_goes_on F18 T C17, PySem.W.mg_of X G a18, k18, b18⟩
  have C19 : Callee l.prog w K mg base 3 "_law_takes" ["_law_mine", "_law_message"] (spLTake) := ⟨_, _, ok_l_takes F19 T C17 C18, PySem.W.mg_of X G a19, k19, b19⟩
  have C20 : CalleeH l.prog w K mg base 1 "_law_refused" ["_law_e"] (spRefused CO) := ⟨_, _, ok_l_refused F20 T TX, PySem.W.mg_of X G a20, k20, b20⟩
  have C21 : Callee l.prog w K mg base 6 "_law_told" ["_law_sources", "_law_source", "_law_message"] (spToldS C_Sources C_Hearer) := ⟨_, _, ok_l_told F21 TC TX C20 C10, PySem.W.mg_of X G a21, k21, b21⟩
  exact ok_law F22 T TC C15 C16 C17 C19 C21 C9 C11 C12 C13
theorem walk {l : PySem.W.OpenLaw} {q : Program} {loose : List Str} {XP : (Str → Option Value) → Heap → Prop} {YP : World → Heap → Prop} {d : DefRec} {K : Params → PySem.W.Frag} (hn : l.most = some 63) (hdf : d.params.defaults = [])
    (hY : ∀ (w : World) (h : Heap), YP w h → (K w.params).In h)
    (F : ∀ (w : World) (mg : Str → Option Value) (fa : Addr) (h : Heap), (K w.params).In h → h.Ns mainGlobals mg → mg d.name = some (.ref fa) →
      ∃ fd : FuncData, (∀ (s : Shared) (u : Value), BindsTo s fd ⟨[u], []⟩ [("_law_script", u)]) ∧ ∀ base : Heap, (K w.params).In base → base.Ns mainGlobals mg → FnOk l.prog w (K w.params) mg base CX0 7 fa fd ["_law_script"] (spLaw (K w.params))) :
    PySem.W.WalkO q loose XP YP l.row.toRowW d [] (fun f vs => PySem.call f vs) :=
  L2.walk_of (n := 63) (k := 7) (x := "_law_script") (CX := fun _ => CX0) (sp := fun w => spLaw (K w.params)) hn (by decide) hdf ⟨rfl, by decide, by decide⟩ hY F (fun _ _ a ns hl _ hS => ⟨a, ns, rfl, hS, hl, fun _ => rfl⟩) fun _ _ _ _ _ z => z
end K52
def PySem.W.Fast.tw11087250010304353508 : Unit := ()
def PySem.W.Fast.tw7715710351678876676 : Unit := ()
def PySem.W.Fast.tw3058378581932479767 : Unit := ()
def PySem.W.Fast.tw1994808942409751414 : Unit := ()
def PySem.W.Fast.tw17089402480524443227 : Unit := ()
def PySem.W.Fast.tw18307968756730325161 : Unit := ()
def PySem.W.Fast.tw15412303402558402299 : Unit := ()
def PySem.W.Fast.tw17045610954994894875 : Unit := ()
open PySem PySem.W PyProof.Rows
set_option maxRecDepth 100000 in
set_option maxHeartbeats 0 in
theorem PySem.Challenge.cw_tellroads_k52_sources_holds : PySem.Challenge.rw_tellroads_k52_sources.Holds := by
  w_on; o_law; k_head; (case hw => w_witness2)
  k_fill
  refine K52.walk (l := PySem.Challenge.rw_tellroads_k52_sources) rfl rfl (fun w h Y => PySem.W.kIn_of Y) ?F
  case F =>
    intro w mg fa h KX G hmg
    refine' K52.all_mk KX G hmg ?aX_TellError ?aX_NoNumber ?aX_NoRoad ?aX_Taken ?aX_Other ?xe_Other ?xga_z ?xcl_z ?xno_z ?xob_z ?xbe_z ?xhd_z ?x_iN ?x_iR ?x_iK ?x_iO ?x_iV ?x_em ?aC_Sources ?pg_Sources ?hd_Sources ?po_Sources ?sa_Sources ?mk_Sources ?kc_Sources ?n_Sources_hearers ?n_Sources_story ?aC_Hearer ?pg_Hearer ?hd_Hearer ?po_Hearer ?sa_Hearer ?mk_Hearer ?kc_Hearer ?n_Hearer_next_number ?n_Hearer_past ?n_Hearer_held ?n_Hearer_known ?n_Hearer_given_up ?a0 ?l0 ?c0 ?k0 ?a1 ?l1 ?c1 ?k1 ?a2 ?l2 ?c2 ?k2 ?a3 ?i3 ?l3 ?c3 ?k3 ?a4 ?i4 ?l4 ?c4 ?k4 ?a5 ?i5 ?l5 ?c5 ?k5 ?a6 ?i6 ?l6 ?c6 ?k6 ?a7 ?i7 ?l7 ?c7 ?k7 ?a8 ?i8 ?l8 ?c8 ?k8 ?a9 ?i9 ?l9 ?c9 ?k9 ?a10 ?i10 ?l10 ?c10 ?k10 ?a11 ?i11 ?l11 ?c11 ?k11 ?a12 ?i12 ?l12 ?c12 ?k12 ?a13 ?i13 ?l13 ?c13 ?k13 ?a14 ?l14 ?c14 ?k14 ?a15 ?l15 ?c15 ?k15 ?a16 ?l16 ?c16 ?k16 ?a17 ?l17 ?c17 ?k17 ?a18 ?l18 ?c18 ?k18 ?a19 ?l19 ?c19 ?k19 ?a20 ?l20 ?c20 ?k20 ?a21 ?l21 ?c21 ?k21 ?a22 ?l22 ?c22 ?k22 ?z0 ?z1 ?z2 ?z3 ?z4 ?z5 ?z6 ?z7 ?z8 ?z9
    (case aX_TellError => k_is)
    (case aX_NoNumber => k_is)
    (case aX_NoRoad => k_is)
    (case aX_Taken => k_is)
    (case aX_Other => k_is)
    (case xe_Other => k_exc)
    (case xga_z => k_is)
    (case xcl_z => k_is)
    (case xno_z => k_is)
    (case xob_z => k_is)
    (case xbe_z => k_is)
    (case xhd_z => k_is)
    (case x_iN => kit_is)
    (case x_iR => kit_is)
    (case x_iK => kit_is)
    (case x_iO => kit_is)
    (case x_iV => kit_is)
    (case x_em => kts_exm)
    (case aC_Sources => k_is)
    (case pg_Sources => k_is)
    (case hd_Sources => k_is)
    (case po_Sources => k_is)
    (case sa_Sources => k_is)
    (case mk_Sources => k_is)
    (case kc_Sources => k_is)
    (case n_Sources_hearers => k_is)
    (case n_Sources_story => k_is)
    (case aC_Hearer => k_is)
    (case pg_Hearer => k_is)
    (case hd_Hearer => k_is)
    (case po_Hearer => k_is)
    (case sa_Hearer => k_is)
    (case mk_Hearer => k_is)
    (case kc_Hearer => k_is)
    (case n_Hearer_next_number => k_is)
    (case n_Hearer_past => k_is)
    (case n_Hearer_held => k_is)
    (case n_Hearer_known => k_is)
    (case n_Hearer_given_up => k_is)
    (case a0 => k_is)
    (case l0 => k_is)
    (case c0 => k_is)
    (case k0 => k_is)
    (case a1 => k_is)
    (case l1 => k_is)
    (case c1 => k_is)
    (case k1 => k_is)
    (case a2 => k_is)
    (case l2 => k_is)
    (case c2 => k_is)
    (case k2 => k_is)
    (case a3 => k_is)
    (case i3 => k_is)
    (case l3 => k_is)
    (case c3 => k_is)
    (case k3 => k_is)
    (case a4 => k_is)
    (case i4 => k_is)
    (case l4 => k_is)
    (case c4 => k_is)
    (case k4 => k_is)
    (case a5 => k_is)
    (case i5 => k_is)
    (case l5 => k_is)
    (case c5 => k_is)
    (case k5 => k_is)
    (case a6 => k_is)
    (case i6 => k_is)
    (case l6 => k_is)
    (case c6 => k_is)
    (case k6 => k_is)
    (case a7 => k_is)
    (case i7 => k_is)
    (case l7 => k_is)
    (case c7 => k_is)
    (case k7 => k_is)
    (case a8 => k_is)
    (case i8 => k_is)
    (case l8 => k_is)
    (case c8 => k_is)
    (case k8 => k_is)
    (case a9 => k_is)
    (case i9 => k_is)
    (case l9 => k_is)
    (case c9 => k_is)
    (case k9 => k_is)
    (case a10 => k_is)
    (case i10 => k_is)
    (case l10 => k_is)
    (case c10 => k_is)
    (case k10 => k_is)
    (case a11 => k_is)
    (case i11 => k_is)
    (case l11 => k_is)
    (case c11 => k_is)
    (case k11 => k_is)
    (case a12 => k_is)
    (case i12 => k_is)
    (case l12 => k_is)
    (case c12 => k_is)
    (case k12 => k_is)
    (case a13 => k_is)
    (case i13 => k_is)
    (case l13 => k_is)
    (case c13 => k_is)
    (case k13 => k_is)
    (case a14 => k_is)
    (case l14 => k_is)
    (case c14 => k_is)
    (case k14 => k_is)
    (case a15 => k_is)
    (case l15 => k_is)
    (case c15 => k_is)
    (case k15 => k_is)
    (case a16 => k_is)
    (case l16 => k_is)
    (case c16 => k_is)
    (case k16 => k_is)
    (case a17 => k_is)
    (case l17 => k_is)
    (case c17 => k_is)
    (case k17 => k_is)
    (case a18 => k_is)
    (case l18 => k_is)
    (case c18 => k_is)
    (case k18 => k_is)
    (case a19 => k_is)
    (case l19 => k_is)
    (case c19 => k_is)
    (case k19 => k_is)
    (case a20 => k_is)
    (case l20 => k_is)
    (case c20 => k_is)
    (case k20 => k_is)
    (case a21 => k_is)
    (case l21 => k_is)
    (case c21 => k_is)
    (case k21 => k_is)
    (case a22 => k_is)
    (case l22 => k_is)
    (case c22 => k_is)
    (case k22 => k_is)
    (case z0 => k_is)
    (case z1 => k_is)
    (case z2 => k_is)
    (case z3 => k_is)
    (case z4 => k_is)
    (case z5 => k_is)
    (case z6 => k_is)
    (case z7 => k_is)
    (case z8 => k_is)
    (case z9 => k_is)

