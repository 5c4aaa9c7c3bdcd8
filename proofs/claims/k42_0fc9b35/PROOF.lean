import PyProof.Rows.All
import Wide.All
import OpenK.AllK
import Wide.FinOn
import Lean
import PyProof.EqAt
import PyProof.EqKinds
import PyProof.TupleCall
import PySem.Challenge.RW_tellroads_k42_whole_roads_apart
set_option Elab.async false
set_option linter.all false
set_option maxRecDepth 100000
/-! THE HAND LAYER, for ints, bools, texts, own classes, LISTS and tuples (index, slices, in, append, pop ..), calls, loops. Paste it whole ahead of your own text; what your proof does not reach may be deleted. -/
namespace L2
open PySem PySem.Spec PyProof.Rows

/-- a key: an int or a str -/
abbrev Key := Sum Int Str
def keyIs : Key → Value → Bool
  | .inl k, v => Value.isInt k v
  | .inr x, v => Value.isStrOf x v
def keyH (w : World) : Key → Int
  | .inl k => hashInt k
  | .inr x => hashStr w x
theorem keyIs_shape : ∀ {k : Key} {v : Value}, keyIs k v = true → (∃ i t, k = Sum.inl i ∧ v = Value.int i t) ∨ (∃ x t, k = Sum.inr x ∧ v = Value.str x t)
  | .inl i, v, h => by
    obtain ⟨t, e⟩ := Value.isInt_shape (k := i) (v := v) h
    exact .inl ⟨i, t, rfl, e⟩
  | .inr x, v, h => by
    obtain ⟨t, e⟩ := Value.isStrOf_shape (x := x) (v := v) h
    exact .inr ⟨x, t, rfl, e⟩
theorem keyIs_int (i : Int) (t : Tok) : keyIs (.inl i) (.int i t) = true := by simp [keyIs, Value.isInt]
theorem keyIs_str (x : Str) (t : Tok) : keyIs (.inr x) (.str x t) = true := by simp [keyIs, Value.isStrOf]
theorem key_ll (a b : Int) : decide ((Sum.inl a : Key) = Sum.inl b) = (a == b) := by
  by_cases e : a = b
  · subst e; simp
  · have h : ¬ (Sum.inl a : Key) = Sum.inl b := fun q => e (Sum.inl.inj q)
    rw [decide_eq_false h]
    exact (beq_eq_false_iff_ne.mpr e).symm
theorem key_rr (a b : Str) : decide ((Sum.inr a : Key) = Sum.inr b) = decide (a = b) := by
  by_cases e : a = b
  · subst e; simp
  · have h : ¬ (Sum.inr a : Key) = Sum.inr b := fun q => e (Sum.inr.inj q)
    rw [decide_eq_false h, decide_eq_false e]
theorem key_lr (a : Int) (b : Str) : decide ((Sum.inl a : Key) = Sum.inr b) = false := decide_eq_false (fun q => nomatch q)
theorem key_rl (a : Str) (b : Int) : decide ((Sum.inr a : Key) = Sum.inl b) = false := decide_eq_false (fun q => nomatch q)

def mixKind (prog : Program) (w : World) : PySem.KeyKind prog w Key where
  is := keyIs
  hash := keyH w
  inj := fun v a b ha hb => by
    rcases keyIs_shape ha with ⟨i, t, rfl, rfl⟩ | ⟨x, t, rfl, rfl⟩
    · rcases keyIs_shape hb with ⟨j, u, rfl, e⟩ | ⟨y, u, rfl, e⟩
      · injection e with e1 _; rw [e1]
      · exact nomatch e
    · rcases keyIs_shape hb with ⟨j, u, rfl, e⟩ | ⟨y, u, rfl, e⟩
      · exact nomatch e
      · injection e with e1 _; rw [e1]
  byValue := fun k v h => by
    rcases keyIs_shape h with ⟨i, t, rfl, rfl⟩ | ⟨x, t, rfl, rfl⟩ <;> rfl
  pyHash := fun hv h => by
    rcases keyIs_shape hv with ⟨i, t, rfl, rfl⟩ | ⟨x, t, rfl, rfl⟩
    · exact wpAny_pyHash_int h
    · exact wpAny_pyHash_str h
  eqBool := fun hu hv h => by
    rcases keyIs_shape hu with ⟨i, t, rfl, rfl⟩ | ⟨x, t, rfl, rfl⟩
    · rcases keyIs_shape hv with ⟨j, u, rfl, rfl⟩ | ⟨y, u, rfl, rfl⟩
      · rw [key_ll] at h; exact wpAny_eqBool_int h
      · rw [key_lr] at h; exact SeqAt.EqAt.int_str i t y u _ _ _ _ h
    · rcases keyIs_shape hv with ⟨j, u, rfl, rfl⟩ | ⟨y, u, rfl, rfl⟩
      · rw [key_rl] at h; exact SeqAt.EqAt.str_int x t j u _ _ _ _ h
      · rw [key_rr] at h; exact wpAny_eqBool_str h
  «strs» := fun k x t v h => by
    rcases keyIs_shape h with ⟨i, u, rfl, e⟩ | ⟨y, u, rfl, e⟩
    · exact nomatch e
    · injection e with e1 _
      subst e1
      cases v <;> rfl

theorem mixKind_int (prog : Program) (w : World) (i : Int) (t : Tok) : (mixKind prog w).is (.inl i) (.int i t) = true := keyIs_int i t
theorem mixKind_str (prog : Program) (w : World) (x : Str) (t : Tok) : (mixKind prog w).is (.inr x) (.str x t) = true := keyIs_str x t
end L2

namespace L2
open PySem PySem.Spec PyProof.Rows

/-- a value, without the heap -/
inductive V where
  | non | bl (b : Bool) | int (i : Int) | str (x : Str) | byt (b : Array UInt8) | flt (b : UInt64) | ref (a : Addr) | ty (n : String)
  deriving DecidableEq

def RelV : V → Value → Prop
  | .non, u => u = Value.none
  | .bl b, u => u = Value.bool b
  | .int i, u => ∃ t, u = Value.int i t
  | .str x, u => ∃ t, u = Value.str x t
  | .byt b, u => ∃ t, u = Value.bytes b t
  | .flt b, u => ∃ t, u = Value.float b t
  | .ref a, u => u = Value.ref a
  | .ty n, u => u = Value.type n

abbrev Vals : List V → List Value → Prop := Paired RelV
theorem Vals.length {xs : List V} {us : List Value} (r : Vals xs us) : xs.length = us.length := Paired.length r
theorem Vals.get : ∀ {xs : List V} {us : List Value} {i : Nat} {x : V}, Vals xs us → xs[i]? = some x → ∃ u, us[i]? = some u ∧ RelV x u
  | _, _, _, _, .nil, e => by simp at e
  | _, _, 0, _, .cons r _, e => by simp at e; subst e; exact ⟨_, rfl, r⟩
  | _, _, i + 1, x, .cons _ t, e => by
    obtain ⟨u, h1, h2⟩ := Vals.get (i := i) (x := x) t (by simpa using e)
    exact ⟨u, by simpa using h1, h2⟩
theorem Vals.set {x : V} {u : Value} (r : RelV x u) : ∀ {xs : List V} {us : List Value} (i : Nat), Vals xs us → Vals (xs.set i x) (us.set i u)
  | _, _, _, .nil => .nil
  | _, _, 0, .cons _ t => .cons r t
  | _, _, i + 1, .cons q t => .cons q (Vals.set r i t)
theorem Vals.append : ∀ {xs ys : List V} {us ws : List Value}, Vals xs us → Vals ys ws → Vals (xs ++ ys) (us ++ ws)
  | _, _, _, _, .nil, s => s
  | _, _, _, _, .cons r t, s => .cons r (Vals.append t s)
theorem Vals.take : ∀ {xs : List V} {us : List Value} (n : Nat), Vals xs us → Vals (xs.take n) (us.take n)
  | _, _, 0, _ => .nil
  | _, _, _ + 1, .nil => .nil
  | _, _, n + 1, .cons r t => .cons r (Vals.take n t)
theorem Vals.drop : ∀ {xs : List V} {us : List Value} (n : Nat), Vals xs us → Vals (xs.drop n) (us.drop n)
  | _, _, 0, r => r
  | _, _, _ + 1, .nil => .nil
  | _, _, n + 1, .cons _ t => Vals.drop n t
theorem Vals.none_of : ∀ {xs : List V} {us : List Value} {i : Nat}, Vals xs us → xs[i]? = none → us[i]? = none := fun {xs us i} r e => by
  have h1 := r.length
  have h2 : xs.length ≤ i := List.getElem?_eq_none_iff.mp e
  exact List.getElem?_eq_none_iff.mpr (by omega)

def RelO : Option V → Option Value → Prop
  | some v, some u => RelV v u
  | none, none => True
  | _, _ => False
def KV {κ : Type} : List (κ × V) → List (κ × Value) → Prop := Paired fun (p : κ × V) (q : κ × Value) => p.1 = q.1 ∧ RelV p.2 q.2

/-- a key of a dict (00_mix): an int or a text -/
def kV : Key → V
  | .inl i => .int i
  | .inr x => .str x

/-- what stands at a tracked address -/
inductive HO where
  /-- a list -/
  | lst (xs : List V)
  /-- a tuple (never changes) -/
  | tup (xs : List V)
  /-- a dict whose keys are ints and texts; one whose keys are tuples of ints and texts (the empty one is both) -/
  | dK (kvs : List (Key × V)) | dT (kvs : List (List Key × V))
  /-- a set of ints: its members, its size -/
  | set (S : Int → Bool) (n : Nat)
  /-- an instance of the class at C, its dict at dx, its attributes -/
  | ins (C dx : Addr) (fs : List (Str × V))
  /-- the dict of the instance at x -/
  | own (x : Addr)
  /-- the dict of an exception -/
  | xd (fs : List (Str × V))
  /-- a bound method, f of x -/
  | met (f x : Addr)
  /-- a range object lo, lo + 1, .. below hi -/
  | rng (lo hi : Int)
  /-- a thing that is known to the object (the script; a dict while a loop walks it): read, never written while it is so -/
  | frz (o : Obj) (u : HO)
  /-- a code object's table -/
  | tbl (ps : Array Value)
  /-- any other thing, by what is true of its one object (a def of one's own: SetO a S n := HO.ext fun h => ..) -/
  | ext (φ : Heap → Prop)

abbrev Hp := Addr → Option HO
def upd (H : Hp) (a : Addr) (o : HO) : Hp := fun b => if b = a then some o else H b
theorem upd_same {H : Hp} {a : Addr} {o : HO} : upd H a o a = some o := by unfold upd; rw [if_pos rfl]
theorem upd_ne {H : Hp} {a b : Addr} {o : HO} (h : b ≠ a) : upd H a o b = H b := by unfold upd; rw [if_neg h]
theorem upd_upd {H : Hp} {a : Addr} {o u : HO} : upd (upd H a o) a u = upd H a u := by
  funext b; unfold upd; split <;> rfl
/-- two objects of different content stand apart -/
theorem ne_of {H : Hp} {a b : Addr} {o u : HO} (h : H a = some o) (h' : H b = some u) (d : o ≠ u) : a ≠ b := by
  intro e; subst e; rw [h] at h'; exact d (Option.some.inj h')
theorem ne_of_none {H : Hp} {a b : Addr} {o : HO} (h : H a = some o) (h' : H b = none) : a ≠ b := by
  intro e; subst e; rw [h] at h'; cases h'

section
variable (P : Program) (w : World)
def ObjOk (H : Hp) (h : Heap) (a : Addr) : HO → Prop
  | .lst xs => xs.length ≤ sizeLine ∧ ∃ (its : List Value) (n : Nat), Vals xs its ∧ h.get? a = some { cls := .type "list", data := .seq its.toArray n }
  | .tup xs => xs.length ≤ sizeLine ∧ ∃ its : List Value, Vals xs its ∧ IsTup h a its.toArray
  | .dK kvs => kvs.length ≤ sizeLine ∧ (a == sysModules) = false ∧ ∃ vs, KV kvs vs ∧ h.DictOf (mixKind P w) a vs
  | .dT kvs => kvs.length ≤ sizeLine ∧ (a == sysModules) = false ∧ ∃ xs : List (List Key × Addr × Value),
      Paired (fun (p : List Key × V) (q : List Key × Addr × Value) => p.1 = q.1 ∧ H q.2.1 = some (.tup (p.1.map kV)) ∧ RelV p.2 q.2.2) kvs xs ∧
      ∃ o es ep, h.get? a = some o ∧ o.ExactDict ∧ o.data = .dict es ep ∧ es.toList = xs.map (entryOfKey (tupleKind (mixKind P w))) ∧ (xs.map (·.1)).Nodup
  | .set S n => h.SetOf (intKind P w) a S n
  | .ins C dx fs => H dx = some (.own a) ∧ fs.length ≤ 1000 ∧ dx ≠ a ∧ h.get? a = some (PySem.W.instObj C dx) ∧
      ∃ mA, h.Ns1 dx mA ∧ (∀ f, RelO (fs.lookup f) (mA f)) ∧ PySem.Within mA (fs.map (·.1))
  | .own _ => ∃ o, h.get? a = some o
  | .xd fs => ∃ mA, h.Ns1 a mA ∧ ∀ f, RelO (fs.lookup f) (mA f)
  | .rng lo hi => ∃ t u v, h.get? a = some { cls := .type "range", data := .fields #[.int lo t, .int hi u, .int 1 v] }
  | .frz o u => h.get? a = some o ∧ ObjOk H h a u
  | .tbl ps => h.get? a = some { cls := .none, data := .fields ps }
  | .met f x => h.get? a = some (PySem.W.methodObj (.ref f) (.ref x))
  | .ext φ => φ h ∧ (∃ o, h.get? a = some o) ∧ ∀ h1 h2 : Heap, φ h1 → (∀ o, h1.get? a = some o → h2.get? a = some o) → φ h2
/-- the abstract heap is held -/
def HOk (H : Hp) (h : Heap) : Prop := ∀ a o, H a = some o → ObjOk P w H h a o
end

section
variable {P : Program} {w : World} {H H' : Hp} {h h' : Heap} {a : Addr} {o : HO}
theorem ObjOk.lt (x : ObjOk P w H h a o) : a < h.objs.size := by
  cases o with
  | lst xs => obtain ⟨_, _, _, _, e⟩ := x; exact Heap.lt_size e
  | tup xs => obtain ⟨_, _, _, p⟩ := x; exact p.lt
  | dK kvs => obtain ⟨_, _, _, _, o, _, _, e, _⟩ := x; exact Heap.lt_size e
  | dT kvs => obtain ⟨_, _, _, _, o, _, _, e, _⟩ := x; exact Heap.lt_size e
  | set S n => obtain ⟨o, _, _, _, e, _⟩ := x; exact Heap.lt_size e
  | ins C dx fs => obtain ⟨_, _, _, e, _⟩ := x; exact Heap.lt_size e
  | own y => obtain ⟨_, e⟩ := x; exact Heap.lt_size e
  | xd fs => obtain ⟨_, ⟨_, _, _, e, _⟩, _⟩ := x; exact Heap.lt_size e
  | rng lo hi => obtain ⟨_, _, _, e⟩ := x; exact Heap.lt_size e
  | frz ob u => obtain ⟨e, _⟩ := x; exact Heap.lt_size e
  | tbl ps => exact Heap.lt_size (show h.get? a = some _ from x)
  | met f y => exact Heap.lt_size (show h.get? a = some _ from x)
  | ext φ => obtain ⟨_, ⟨_, e⟩, _⟩ := x; exact Heap.lt_size e
theorem Paired.mapP {α β : Type} {F G : α → β → Prop} : ∀ {l₁ : List α} {l₂ : List β}, Paired F l₁ l₂ → (∀ a b, F a b → G a b) → Paired G l₁ l₂
  | _, _, .nil, _ => .nil
  | _, _, .cons r t, f => .cons (f _ _ r) (Paired.mapP t f)
/-- what an object's description leans on: its own object, its own dict, the tuples -/
theorem ObjOk.stay (x : ObjOk P w H h a o) (k : ∀ b u, (b = a ∨ H b = some (.own a)) → h.get? b = some u → h'.get? b = some u)
    (ho : ∀ b, H b = some (.own a) → H' b = some (.own a)) (ht : ∀ b xs, H b = some (.tup xs) → H' b = some (.tup xs)) : ObjOk P w H' h' a o := by
  induction o with
  | lst xs => obtain ⟨z, its, n, r, e⟩ := x; exact ⟨z, its, n, r, k _ _ (.inl rfl) e⟩
  | tup xs => obtain ⟨z, its, r, ob, e, c⟩ := x; exact ⟨z, its, r, ob, k _ _ (.inl rfl) e, c⟩
  | dK kvs => obtain ⟨z, y, vs, r, ob, es, ep, e, c⟩ := x; exact ⟨z, y, vs, r, ob, es, ep, k _ _ (.inl rfl) e, c⟩
  | dT kvs =>
    obtain ⟨z, y, xs, r, ob, es, ep, e, c⟩ := x
    exact ⟨z, y, xs, Paired.mapP r fun p q z => ⟨z.1, ht _ _ z.2.1, z.2.2⟩, ob, es, ep, k _ _ (.inl rfl) e, c⟩
  | set S n => obtain ⟨ob, es, ep, t, e, c⟩ := x; exact ⟨ob, es, ep, t, k _ _ (.inl rfl) e, c⟩
  | ins C dx fs =>
    obtain ⟨d, z, ne, e, mA, ⟨od, es, ep, e2, c⟩, r⟩ := x
    exact ⟨ho _ d, z, ne, k _ _ (.inl rfl) e, mA, ⟨od, es, ep, k _ _ (.inr d) e2, c⟩, r⟩
  | own y => obtain ⟨ob, e⟩ := x; exact ⟨ob, k _ _ (.inl rfl) e⟩
  | xd fs => obtain ⟨mA, ⟨od, es, ep, e, c⟩, r⟩ := x; exact ⟨mA, ⟨od, es, ep, k _ _ (.inl rfl) e, c⟩, r⟩
  | rng lo hi => obtain ⟨t, u, v, e⟩ := x; exact ⟨t, u, v, k _ _ (.inl rfl) e⟩
  | frz ob u ih => obtain ⟨e, q⟩ := x; exact ⟨k _ _ (.inl rfl) e, ih q⟩
  | tbl ps =>
    have e : h.get? a = some { cls := .none, data := .fields ps } := x
    show h'.get? a = some { cls := .none, data := .fields ps }
    exact k a _ (.inl rfl) e
  | met f y =>
    have e : h.get? a = some (PySem.W.methodObj (.ref f) (.ref y)) := x
    show h'.get? a = some (PySem.W.methodObj (.ref f) (.ref y))
    exact k a _ (.inl rfl) e
  | ext φ => obtain ⟨p, ⟨o, e⟩, st⟩ := x; exact ⟨st _ _ p fun o q => k _ _ (.inl rfl) q, ⟨o, k _ _ (.inl rfl) e⟩, st⟩
theorem HOk.lt (x : HOk P w H h) (e : H a = some o) : a < h.objs.size := (x a o e).lt
theorem HOk.fresh (x : HOk P w H h) (e : h.objs.size ≤ a) : H a = none := by
  cases q : H a with
  | none => rfl
  | some u => exact absurd (Nat.lt_of_lt_of_le (x.lt q) e) (Nat.lt_irrefl _)
/-- every object of the heap is kept -/
theorem HOk.kept (x : HOk P w H h) (k : ∀ b u, h.get? b = some u → h'.get? b = some u) : HOk P w H h' := fun a o e =>
  (x a o e).stay (fun b u _ q => k b u q) (fun _ q => q) fun _ _ q => q
/-- a new object is laid and tracked -/
theorem HOk.laid (x : HOk P w H h) (k : ∀ b u, h.get? b = some u → h'.get? b = some u) (hp : h.objs.size ≤ a) (new : ObjOk P w (upd H a o) h' a o) : HOk P w (upd H a o) h' := fun b u e => by
  have hn := x.fresh hp
  by_cases hb : b = a
  · subst hb; rw [upd_same] at e; cases e; exact new
  · rw [upd_ne hb] at e
    exact (x b u e).stay (fun c v _ q => k c v q) (fun c q => by rw [upd_ne (ne_of_none q hn)]; exact q) fun c xs q => by rw [upd_ne (ne_of_none q hn)]; exact q
end

/-- what may be read as u: it is u, or a known u -/
def Rd (H : Hp) (a : Addr) (u : HO) : Prop := H a = some u ∨ ∃ o, H a = some (.frz o u)
theorem Rd.of {H : Hp} {a : Addr} {u : HO} (h : H a = some u) : Rd H a u := .inl h
theorem Rd.ok {P : Program} {w : World} {H : Hp} {h : Heap} {a : Addr} {u : HO} (r : Rd H a u) (x : HOk P w H h) : ObjOk P w H h a u := by
  rcases r with r | ⟨o, r⟩
  · exact x a u r
  · obtain ⟨_, q⟩ := x a _ r
    exact q
/-- what may be written -/
def Mut : Option HO → Prop
  | some (.lst _) => True
  | some (.dK _) => True
  | some (.dT _) => True
  | some (.set _ _) => True
  | some (.ins _ _ _) => True
  | some (.ext _) => True
  | _ => False
section
variable {P : Program} {w : World} {H : Hp} {h h' : Heap} {x e : Addr} {o' : HO}
/-- the object at e is changed: x itself, or the dict of the instance x -/
theorem HOk.write (ok : HOk P w H h) (mu : Mut (H x)) (he : e = x ∨ H e = some (.own x)) (k : ∀ b u, b ≠ e → h.get? b = some u → h'.get? b = some u) (heo : ∃ u, h'.get? e = some u)
    (new : ObjOk P w (upd H x o') h' x o') : HOk P w (upd H x o') h' := fun b u q => by
  have nown : ∀ c y, H c = some (.own y) → c ≠ x := fun c y r z => by subst z; rw [r] at mu; exact mu
  have ntup : ∀ c xs, H c = some (.tup xs) → c ≠ x := fun c xs r z => by subst z; rw [r] at mu; exact mu
  by_cases hb : b = x
  · subst hb; rw [upd_same] at q; cases q; exact new
  · rw [upd_ne hb] at q
    by_cases hbe : b = e
    · have q' : H b = some (.own x) := by
        rcases he with z | z
        · exact absurd (hbe.trans z) hb
        · rw [hbe]; exact z
      rw [q] at q'; cases q'
      obtain ⟨v, hv⟩ := heo
      exact ⟨v, by rw [hbe]; exact hv⟩
    · refine (ok b u q).stay (fun c v hc r => k c v ?_ r) (fun c r => by rw [upd_ne (nown c b r)]; exact r) fun c xs r => by rw [upd_ne (ntup c xs r)]; exact r
      rcases hc with rfl | hc
      · exact hbe
      · rintro rfl
        rcases he with z | z
        · exact nown c b hc z
        · rw [hc] at z; cases z; exact hb rfl
end

/-! ### kept unless tracked; of the frames at fs (the callers') the slots may change (an exception that passes writes there); of the records at ex (iterators) nothing is said -/
structure Un (fs ex : List Addr) (H H' : Hp) (h h' : Heap) : Prop where
  keep : ∀ b o, h.get? b = some o → H b = none → b ∉ fs → b ∉ ex → h'.get? b = some o
  slot : ∀ b o, h.get? b = some o → H b = none → b ∈ fs → b ∉ ex → ∃ sl, h'.get? b = some { o with slots := sl }
  free : ∀ b o, h.get? b = some o → H b = none → b ∉ ex → H' b = none
  there : ∀ b o, h.get? b = some o → b ∉ ex → ∃ o', h'.get? b = some o'
  tups : ∀ b xs, H b = some (.tup xs) → H' b = some (.tup xs)
  frzs : ∀ b o u, H b = some (.frz o u) → H' b = some (.frz o u)
  tbls : ∀ b ps, H b = some (.tbl ps) → ∃ more, H' b = some (.tbl (ps ++ more))
section
variable {fs fs' ex ex' : List Addr} {H H1 H2 : Hp} {h h1 h2 h' : Heap} {a x e : Addr} {o : HO}
theorem Un.any (u : Un fs ex H H1 h h1) {b : Addr} {ob : Obj} (q : h.get? b = some ob) (n : H b = none) (hx : b ∉ ex) : ∃ sl, h1.get? b = some { ob with slots := sl } := by
  by_cases hb : b ∈ fs
  · exact u.slot b ob q n hb hx
  · exact ⟨ob.slots, u.keep b ob q n hb hx⟩
theorem Un.trans (a : Un fs ex H H1 h h1) (b : Un fs ex H1 H2 h1 h2) : Un fs ex H H2 h h2 where
  keep := fun c ob q n hc hx => b.keep c ob (a.keep c ob q n hc hx) (a.free c ob q n hx) hc hx
  slot := fun c ob q n hc hx => by
    obtain ⟨sl, e1⟩ := a.slot c ob q n hc hx
    obtain ⟨sl', e2⟩ := b.slot c _ e1 (a.free c ob q n hx) hc hx
    exact ⟨sl', e2⟩
  free := fun c ob q n hx => by
    obtain ⟨o', e1⟩ := a.there c ob q hx
    exact b.free c o' e1 (a.free c ob q n hx) hx
  there := fun c ob q hx => by
    obtain ⟨o', e1⟩ := a.there c ob q hx
    exact b.there c o' e1 hx
  tups := fun c xs q => b.tups c xs (a.tups c xs q)
  frzs := fun c ob xs q => b.frzs c ob xs (a.frzs c ob xs q)
  tbls := fun c ps q => by
    obtain ⟨m1, e1⟩ := a.tbls c ps q
    obtain ⟨m2, e2⟩ := b.tbls c _ e1
    exact ⟨m1 ++ m2, by rw [e2, Array.append_assoc]⟩
theorem Un.kept (k : ∀ b u, h.get? b = some u → h'.get? b = some u) : Un fs ex H H h h' :=
  ⟨fun b ob q _ _ _ => k b ob q, fun b ob q _ _ _ => ⟨ob.slots, k b ob q⟩, fun _ _ _ n _ => n, fun b ob q _ => ⟨ob, k b ob q⟩, fun _ _ q => q, fun _ _ _ q => q, fun _ ps q => ⟨#[], by rw [q]; simp⟩⟩
theorem Un.refl : Un fs ex H H h h := Un.kept fun _ _ q => q
theorem Un.laid (k : ∀ b u, h.get? b = some u → h'.get? b = some u) (hp : h.objs.size ≤ a) (hn : H a = none) : Un fs ex H (upd H a o) h h' where
  keep := fun b u q _ _ _ => k b u q
  slot := fun b u q _ _ _ => ⟨u.slots, k b u q⟩
  free := fun b u q n _ => by rw [upd_ne (Nat.ne_of_lt (Nat.lt_of_lt_of_le (Heap.lt_size q) hp))]; exact n
  there := fun b u q _ => ⟨u, k b u q⟩
  tups := fun b xs q => by rw [upd_ne (ne_of_none q hn)]; exact q
  frzs := fun b u xs q => by rw [upd_ne (ne_of_none q hn)]; exact q
  tbls := fun b ps q => ⟨#[], by rw [upd_ne (ne_of_none q hn), q]; simp⟩
theorem Un.write (mu : Mut (H x)) (he : e = x ∨ H e = some (.own x)) (k : ∀ b u, b ≠ e → h.get? b = some u → h'.get? b = some u) (heo : ∃ u, h'.get? e = some u) : Un fs ex H (upd H x o) h h' := by
  have hx : ∀ b, H b = none → b ≠ x := fun b n z => by subst z; rw [n] at mu; exact mu
  have hb : ∀ b, H b = none → b ≠ e := fun b n z => by
    subst z
    rcases he with r | r
    · exact hx b n r
    · rw [n] at r; cases r
  have hm : ∀ b u, H b = some u → ¬ Mut (some u) → b ≠ x := fun b u q nm z => by subst z; rw [q] at mu; exact nm mu
  refine ⟨fun b u q n _ _ => k b u (hb b n) q, fun b u q n _ _ => ⟨u.slots, k b u (hb b n) q⟩, fun b u q n _ => by rw [upd_ne (hx b n)]; exact n, fun b u q _ => ?_,
    fun b xs q => by rw [upd_ne (hm b _ q fun z => z)]; exact q, fun b u xs q => by rw [upd_ne (hm b _ q fun z => z)]; exact q, fun b ps q => ⟨#[], by rw [upd_ne (hm b _ q fun z => z), q]; simp⟩⟩
  by_cases hbe : b = e
  · subst hbe; exact heo
  · exact ⟨u, k b u hbe q⟩
theorem Un.mono (u : Un fs ex H H1 h h1) (hs : ∀ b ∈ fs, b ∈ fs') (hx : ∀ b ∈ ex, b ∈ ex') : Un fs' ex' H H1 h h1 :=
  ⟨fun b ob q n hb he => u.keep b ob q n (fun z => hb (hs b z)) fun z => he (hx b z), fun _ _ q n _ he => u.any q n fun z => he (hx _ z), fun b ob q n he => u.free b ob q n fun z => he (hx b z), fun b ob q he => u.there b ob q fun z => he (hx b z), u.tups, u.frzs, u.tbls⟩
end

/-! ### the heap without what is tracked -/
def trk (h : Heap) (H : Hp) : List Addr := (List.range h.objs.size).filter fun a => (H a).isSome
def hidT (h : Heap) (H : Hp) : Heap := PySem.W.hideAll h (trk h H)
theorem hidT_size (h : Heap) (H : Hp) : (hidT h H).objs.size = h.objs.size := PySem.W.hideAll_size _ _
theorem hidT_get {h : Heap} {H : Hp} {b : Addr} {o : Obj} (e : h.get? b = some o) (n : H b = none) : (hidT h H).get? b = some o :=
  PySem.W.hideAll_get _ e fun hm => by
    have q : (H b).isSome = true := (List.mem_filter.mp hm).2
    rw [n] at q; simp at q
theorem of_hidT {h : Heap} {H : Hp} {b : Addr} {o : Obj} (e : (hidT h H).get? b = some o) : h.get? b = some o ∧ H b = none := by
  have e' : h.get? b = some o := PySem.W.of_hideAll (trk h H) e
  refine ⟨e', ?_⟩
  cases q : H b with
  | none => rfl
  | some x =>
    have hm : b ∈ trk h H := List.mem_filter.mpr ⟨List.mem_range.mpr (Heap.lt_size e'), by simp [q]⟩
    have z : (hidT h H).get? b = none := PySem.W.hideAll_none (trk h H) hm
    rw [z] at e; cases e

/-! ### OpenK's ledger, filled with every new object but one -/
def allNews (g h : Heap) (L : Addr) : List (Addr × Obj) := (List.range h.objs.size).filterMap fun a => if a = L ∨ (g.get? a).isSome = true then none else (h.get? a).map fun o => (a, o)
def rest (g h : Heap) (L d : Addr) : List (Addr × Obj) := (allNews g h L).filter fun p => decide (p.1 ≠ d)
end L2

namespace L2
open PySem PySem.Spec PyProof.Rows

/-- the module's facts, over the base: the heap at the law's entry without what is tracked there -/
structure Mod (K : PySem.W.Frag) (mg : Str → Option Value) (base : Heap) : Prop where
  kin : K.In base
  glob : base.Ns mainGlobals mg
  blt : ∃ mb, base.Ns builtinsNs mb ∧ ∀ x : Str, x ≠ "__name__" → mb x = bootBuiltins x
  nolimit : base.NoLimit

/-- the context: a def's body (or a comprehension's block) running. base: fixed through the whole law; s₀, H₀: the entry; outer: the frames whose slots others may change (a def's callers); stack: all frames that run;
   ex: iterators that were made ahead of the entry and are walked here (a comprehension's); fn: the names whose cells were made at the entry (a def: all; a comprehension's block: its own); calm: not within an except suite; pn: pins that every state bears; xe: what is wanted of an exception that leaves the code -/
structure Cx where
  prog : Program
  w : World
  K : PySem.W.Frag
  mg : Str → Option Value
  base : Heap
  A : Around
  N : List Str
  s₀ : Shared
  H₀ : Hp
  env : Env
  outer : List Env
  stack : List Env
  ex : List Addr
  fn : Str → Bool
  calm : Bool
  pn : List (Addr × Obj)
  xe : Value → Shared → Prop
/-- the callers' frames -/
def frs (l : List Env) : List Addr := l.filterMap (·.frame)
abbrev Cx.fs (X : Cx) : List Addr := frs X.outer

def Vis (sc : Scope) (x : Str) : Prop := sc.names.lookup x = some .local ∨ sc.names.lookup x = some .cell ∨ sc.names.lookup x = some .free
def Loc (sc : Scope) (x : Str) : Prop := sc.names.lookup x = some .local ∨ sc.names.lookup x = some .cell
def Look (env : Env) (h : Heap) (m : Str → Option Value) (x : Str) (u : Value) : Prop :=
  (env.kindOf x = some .local ∧ m x = some u) ∨ ((env.kindOf x = some .cell ∨ env.kindOf x = some .free) ∧ ∃ c, env.cells.lookup x = some c ∧ h.IsCell c (some u))

structure Cx.Ok (X : Cx) : Prop where
  mod : Mod X.K X.mg X.base
  kind : X.env.scope.kind = .function
  glob : X.env.globals = mainGlobals
  blt : X.env.builtins = builtinsNs
  above : X.s₀.heap.objs.size ≤ X.env.locals
  inj : ∀ x y c, X.env.cells.lookup x = some c → X.env.cells.lookup y = some c → x = y
  has : ∀ x, (X.env.kindOf x = some .cell ∨ X.env.kindOf x = some .free) → ∃ c, X.env.cells.lookup x = some c
  cab : ∀ x c, X.fn x = true → X.env.cells.lookup x = some c → X.s₀.heap.objs.size ≤ c
  hd : X.calm = true → X.A.handled = none
  frames : X.A.frames = some X.stack
  stk : X.stack = X.outer ∨ (X.stack = X.env :: X.outer ∧ X.env.frame = some X.env.locals)
  exf : ∀ b ∈ X.ex, b ≠ X.env.locals ∧ ∀ x c, X.env.cells.lookup x = some c → c ≠ b
  bs : ∀ b o, X.base.get? b = some o → X.s₀.heap.get? b = some o ∧ X.H₀ b = none
  bsz : X.base.objs.size ≤ X.s₀.heap.objs.size
  noex : ∀ b o, X.base.get? b = some o → b ∉ X.ex
  exfs : ∀ b ∈ X.ex, b ∉ X.fs
  funs : X.s₀.heap.FunFrames X.base X.outer
  frf : ∀ b ∈ X.fs, X.H₀ b = none

structure Inv (X : Cx) (pins : List (Addr × Obj)) (σ : List (Option V)) (H : Hp) (s : Shared) : Prop where
  ok : X.Ok
  os : s.os = X.s₀.os
  bare : AllBare s.gens
  base : Un X.fs X.ex X.H₀ H X.s₀.heap s.heap
  loc : ∃ m, s.heap.Ns X.env.locals m ∧ ∀ (i : Nat) (x : Str) (v : V), X.N[i]? = some x → σ[i]? = some (some v) → Vis X.env.scope x → ∃ u, RelV v u ∧ Look X.env s.heap m x u
  cell : ∀ x c, X.env.cells.lookup x = some c → ∃ v, s.heap.IsCell c v
  free : H X.env.locals = none
  freeC : ∀ x c, X.env.cells.lookup x = some c → H c = none
  pin : ∀ p ∈ X.pn ++ pins, s.heap.get? p.1 = some p.2 ∧ H p.1 = none ∧ p.1 ≠ X.env.locals ∧ p.1 ∉ X.fs ∧ ∀ v, p.2.data ≠ .cell v
  hok : HOk X.prog X.w H s.heap
  len : σ.length = X.N.length

section
variable {X : Cx} {pins : List (Addr × Obj)} {σ : List (Option V)} {H H' : Hp} {s : Shared} {h' : Heap}

theorem Cx.Ok.nofr (ok : X.Ok) {b : Addr} {o : Obj} (e : X.base.get? b = some o) : b ∉ X.fs := fun hb => by
  have := (ok.funs.mem hb).1
  rw [e] at this; cases this
theorem Inv.bs (I : Inv X pins σ H s) : ∀ b o, X.base.get? b = some o → s.heap.get? b = some o ∧ H b = none := fun b o e =>
  ⟨I.base.keep b o (I.ok.bs b o e).1 (I.ok.bs b o e).2 (I.ok.nofr e) (I.ok.noex b o e), I.base.free b o (I.ok.bs b o e).1 (I.ok.bs b o e).2 (I.ok.noex b o e)⟩
theorem Inv.bk (I : Inv X pins σ H s) : ∀ b o, X.base.get? b = some o → s.heap.get? b = some o := fun b o e => (I.bs b o e).1
theorem Inv.mod (I : Inv X pins σ H s) : Mod X.K X.mg X.base := I.ok.mod
theorem Inv.kIn (I : Inv X pins σ H s) : X.K.In s.heap := I.ok.mod.kin.keeps I.bk
theorem Inv.nolimit (I : Inv X pins σ H s) : s.heap.NoLimit := I.ok.mod.nolimit.keeps I.bk
/-- the frame over the base: for OpenK's rules (K.In X.base is I.mod.kin) -/
theorem Inv.fr (I : Inv X pins σ H s) : ∃ m, Fr X.base X.env.locals s.heap m :=
  let ⟨m, hn, _⟩ := I.loc
  ⟨m, hn, I.bk, Nat.le_trans I.ok.bsz I.ok.above⟩
theorem Inv.lt (I : Inv X pins σ H s) : X.env.locals < s.heap.objs.size := let ⟨_, hn, _⟩ := I.loc; hn.lt
theorem Inv.sz (I : Inv X pins σ H s) : X.s₀.heap.objs.size ≤ s.heap.objs.size := Nat.le_trans I.ok.above (Nat.le_of_lt I.lt)
theorem Inv.nofs (I : Inv X pins σ H s) {a : Addr} (h : s.heap.objs.size ≤ a) : a ∉ X.fs := fun hb => by
  obtain ⟨_, o, ho, _⟩ := I.ok.funs.mem hb
  exact absurd (Nat.lt_of_lt_of_le (Heap.lt_size ho) (Nat.le_trans I.sz h)) (Nat.lt_irrefl _)
theorem Inv.cne (I : Inv X pins σ H s) : ∀ x c, X.env.cells.lookup x = some c → c ≠ X.env.locals := fun x c e z => by
  obtain ⟨v, o, ho, hd⟩ := I.cell x c e
  obtain ⟨m, ⟨o', es, ep, ho', hd', _⟩, _⟩ := I.loc
  rw [z, ho'] at ho; cases ho; rw [hd'] at hd; cases hd
theorem Inv.funs (I : Inv X pins σ H s) : s.heap.FunFrames X.base X.outer := by
  have all : ∀ (l : List Env), (∀ b ∈ frs l, b ∈ X.fs) → X.s₀.heap.FunFrames X.base l → s.heap.FunFrames X.base l := by
    intro l
    induction l with
    | nil => intro _ _; trivial
    | cons env r ih =>
      intro hs hl
      obtain ⟨hk, ⟨L, o, hf, hn, ho, hd⟩, hr⟩ := hl
      have hL : L ∈ X.fs := hs L (by unfold frs; rw [List.filterMap_cons, hf]; exact List.mem_cons_self)
      obtain ⟨sl, e⟩ := I.base.slot L o ho (I.ok.frf L hL) hL fun z => I.ok.exfs L z hL
      exact ⟨hk, ⟨L, _, hf, hn, e, hd⟩, ih (fun b hb => hs b (by unfold frs; rw [List.filterMap_cons, hf]; exact List.mem_cons_of_mem _ hb)) hr⟩
  exact all X.outer (fun _ hb => hb) I.ok.funs

/-- the frames that run, for a call -/
theorem Inv.stack (I : Inv X pins σ H s) : s.heap.FunFrames X.base X.stack := by
  rcases I.ok.stk with e | ⟨e, hf⟩
  · rw [e]; exact I.funs
  · rw [e]
    obtain ⟨m, hn, _⟩ := I.loc
    refine .cons (by rw [I.ok.kind]; decide) hf hn ?_ I.funs
    exact Heap.get?_none_of_le (Nat.le_trans I.ok.bsz I.ok.above)
theorem Inv.stkSub (I : Inv X pins σ H s) : ∀ b ∈ frs X.stack, b ∈ X.env.locals :: X.fs := fun b hb => by
  rcases I.ok.stk with e | ⟨e, hf⟩
  · rw [e] at hb; exact List.mem_cons_of_mem _ hb
  · rw [e] at hb
    unfold frs at hb
    rw [List.filterMap_cons, hf] at hb
    exact hb
theorem Inv.stkFree (I : Inv X pins σ H s) : ∀ b ∈ frs X.stack, H b = none := fun b hb => by
  rcases List.mem_cons.mp (I.stkSub b hb) with e | hb
  · rw [e]; exact I.free
  · obtain ⟨_, o, ho, _⟩ := I.ok.funs.mem hb
    exact I.base.free b o ho (I.ok.frf b hb) fun z => I.ok.exfs b z hb

/-- THE STEP: the untracked objects but the frame and the records at ch are kept (the callers' frames up to slots), the frame's map is kept, the new abstract heap is held -/
theorem Inv.step {g' : Array GenState} {t' : Nat} {d' : Drawn} {ch : List Addr} (I : Inv X pins σ H s)
    (hch : ∀ b ∈ ch, (b ∈ X.ex ∨ X.s₀.heap.objs.size ≤ b) ∧ b ≠ X.env.locals ∧ (∀ x c, X.env.cells.lookup x = some c → c ≠ b) ∧ ∀ p ∈ X.pn ++ pins, p.1 ≠ b)
    (keep : ∀ b o, b ≠ X.env.locals → b ∉ X.fs → b ∉ ch → s.heap.get? b = some o → H b = none → h'.get? b = some o)
    (slot : ∀ b o, b ≠ X.env.locals → b ∈ X.fs → b ∉ ch → s.heap.get? b = some o → H b = none → ∃ sl, h'.get? b = some { o with slots := sl }) (free : ∀ b o, b ∉ ch → s.heap.get? b = some o → H b = none → H' b = none)
    (there : ∀ b o, b ∉ ch → s.heap.get? b = some o → ∃ o', h'.get? b = some o')
    (tups : ∀ b xs, H b = some (.tup xs) → H' b = some (.tup xs)) (frzs : ∀ b o u, H b = some (.frz o u) → H' b = some (.frz o u)) (tbls : ∀ b ps, H b = some (.tbl ps) → ∃ more, H' b = some (.tbl (ps ++ more)))
    (ns : ∀ m, s.heap.Ns X.env.locals m → h'.Ns X.env.locals m) (hok : HOk X.prog X.w H' h') (hg : AllBare g') :
    Inv X pins σ H' { s with heap := h', gens := g', drawn := d', toks := t' } := by
  have neL : ∀ b o, X.s₀.heap.get? b = some o → b ≠ X.env.locals := fun b o e => Nat.ne_of_lt (Nat.lt_of_lt_of_le (Heap.lt_size e) I.ok.above)
  have neC : ∀ b o, X.s₀.heap.get? b = some o → b ∉ X.ex → b ∉ ch := fun b o e hx hb => by
    rcases (hch b hb).1 with z | z
    · exact hx z
    · exact absurd (Nat.lt_of_lt_of_le (Heap.lt_size e) z) (Nat.lt_irrefl _)
  have cellK : ∀ x c, X.env.cells.lookup x = some c → ∀ v, s.heap.IsCell c v → h'.IsCell c v := fun x c e v ⟨o, ho, hd⟩ => by
    have nch : c ∉ ch := fun z => (hch c z).2.2.1 x c e rfl
    by_cases hc : c ∈ X.fs
    · obtain ⟨sl, q⟩ := slot c o (I.cne x c e) hc nch ho (I.freeC x c e)
      exact ⟨_, q, hd⟩
    · exact ⟨o, keep c o (I.cne x c e) hc nch ho (I.freeC x c e), hd⟩
  refine ⟨I.ok, I.os, hg, ⟨fun b o e n hb hx => ?_, fun b o e n hb hx => ?_, fun b o e n hx => ?_, fun b o e hx => ?_, fun b xs e => tups b xs (I.base.tups b xs e), fun b o xs e => frzs b o xs (I.base.frzs b o xs e), fun b ps e => ?_⟩, ?_, fun x c e => ?_, ?_, fun x c e => ?_, fun p hp => ?_, hok, I.len⟩
  · exact keep b o (neL b o e) hb (neC b o e hx) (I.base.keep b o e n hb hx) (I.base.free b o e n hx)
  · obtain ⟨sl, e1⟩ := I.base.slot b o e n hb hx
    obtain ⟨sl', e2⟩ := slot b _ (neL b o e) hb (neC b o e hx) e1 (I.base.free b o e n hx)
    exact ⟨sl', e2⟩
  · obtain ⟨o', e1⟩ := I.base.there b o e hx
    exact free b o' (neC b o e hx) e1 (I.base.free b o e n hx)
  · obtain ⟨o', e1⟩ := I.base.there b o e hx
    exact there b o' (neC b o e hx) e1
  · obtain ⟨m1, e1⟩ := I.base.tbls b ps e
    obtain ⟨m2, e2⟩ := tbls b _ e1
    exact ⟨m1 ++ m2, by rw [e2, Array.append_assoc]⟩
  · obtain ⟨m, hn, hl⟩ := I.loc
    refine ⟨m, ns m hn, fun i x v e1 e2 e3 => ?_⟩
    obtain ⟨u, r, l⟩ := hl i x v e1 e2 e3
    refine ⟨u, r, ?_⟩
    rcases l with l | ⟨k, c, e, z⟩
    · exact .inl l
    · exact .inr ⟨k, c, e, cellK x c e _ z⟩
  · obtain ⟨v, z⟩ := I.cell x c e
    exact ⟨v, cellK x c e v z⟩
  · obtain ⟨m, ⟨o, _, _, ho, _⟩, _⟩ := I.loc
    exact free _ o (fun z => (hch _ z).2.1 rfl) ho I.free
  · obtain ⟨v, o, ho, hd⟩ := I.cell x c e
    exact free c o (fun z => (hch c z).2.2.1 x c e rfl) ho (I.freeC x c e)
  · obtain ⟨e, n, ne, nf, d⟩ := I.pin p hp
    have nch : p.1 ∉ ch := fun z => (hch p.1 z).2.2.2 p hp rfl
    exact ⟨keep p.1 p.2 ne nf nch e n, free p.1 p.2 nch e n, ne, nf, d⟩
/-- .. where the frame's own object is kept too -/
theorem Inv.un {t' : Nat} (I : Inv X pins σ H s) (u : Un X.fs [] H H' s.heap h') (hok : HOk X.prog X.w H' h') : Inv X pins σ H' { s with heap := h', toks := t' } := by
  obtain ⟨m, ⟨o, es, ep, ho, r⟩, _⟩ := id I.loc
  obtain ⟨sl, hL⟩ := u.any ho I.free (by simp)
  exact I.step (g' := s.gens) (d' := s.drawn) (ch := []) (fun _ z => nomatch z) (fun b o _ hb _ e n => u.keep b o e n hb (by simp)) (fun b o _ hb _ e n => u.slot b o e n hb (by simp)) (fun b o _ e n => u.free b o e n (by simp)) (fun b o _ e => u.there b o e (by simp)) u.tups u.frzs u.tbls (fun m' hm => by
    obtain ⟨o', es', ep', ho', r'⟩ := hm
    rw [ho] at ho'; cases ho'
    exact ⟨_, es', ep', hL, r'⟩) hok I.bare
/-- behind a call (or a comprehension's block): the slots of this frame may have changed too, the records at ch may have turned -/
theorem Inv.call {g' : Array GenState} {t' : Nat} {d' : Drawn} {ch : List Addr} (I : Inv X pins σ H s) (u : Un (frs X.stack) ch H H' s.heap h') (hok : HOk X.prog X.w H' h') (hg : AllBare g')
    (hch : ∀ b ∈ ch, (b ∈ X.ex ∨ X.s₀.heap.objs.size ≤ b) ∧ b ≠ X.env.locals ∧ (∀ x c, X.env.cells.lookup x = some c → c ≠ b) ∧ ∀ p ∈ X.pn ++ pins, p.1 ≠ b) :
    Inv X pins σ H' { s with heap := h', gens := g', drawn := d', toks := t' } := by
  obtain ⟨m, ⟨o, es, ep, ho, r⟩, _⟩ := id I.loc
  obtain ⟨sl, hL⟩ := u.any ho I.free fun z => (hch _ z).2.1 rfl
  exact I.step (ch := ch) hch (fun b o hL hb hc e n => u.keep b o e n (fun z => (List.mem_cons.mp (I.stkSub b z)).elim hL hb) hc) (fun b o _ _ hc e n => u.any e n hc) (fun b o hc e n => u.free b o e n hc) (fun b o hc e => u.there b o e hc) u.tups u.frzs u.tbls (fun m' hm => by
    obtain ⟨o', es', ep', ho', r'⟩ := hm
    rw [ho] at ho'; cases ho'
    exact ⟨_, es', ep', hL, r'⟩) hok hg
/-- an untracked record of ours (an iterator) has turned -/
theorem Inv.turned {t' : Nat} {it : Addr} (I : Inv X pins σ H s) (k : ∀ b o, b ≠ it → s.heap.get? b = some o → h'.get? b = some o) (hn : H it = none) (hL : it ≠ X.env.locals)
    (h1 : it ∈ X.ex ∨ X.s₀.heap.objs.size ≤ it) (h2 : ∀ x c, X.env.cells.lookup x = some c → c ≠ it) (h3 : ∀ p ∈ X.pn ++ pins, p.1 ≠ it) : Inv X pins σ H { s with heap := h', toks := t' } := by
  have nit : ∀ b u, H b = some u → b ≠ it := fun b u e z => by rw [z, hn] at e; cases e
  refine I.step (g' := s.gens) (d' := s.drawn) (ch := [it]) (fun b hb => ?_) (fun b o _ _ hc e _ => k b o (fun z => hc (by simp [z])) e) (fun b o _ _ hc e _ => ⟨o.slots, k b o (fun z => hc (by simp [z])) e⟩) (fun _ _ _ _ n => n)
    (fun b o hc e => ⟨o, k b o (fun z => hc (by simp [z])) e⟩) (fun _ _ e => e) (fun _ _ _ e => e) (fun b ps e => ⟨#[], by rw [e]; simp⟩) (fun m hm => ?_) (fun b u e => ?_) I.bare
  · have e : b = it := by simpa using hb
    subst e
    exact ⟨h1, hL, h2, h3⟩
  · obtain ⟨o, es, ep, ho, r⟩ := hm
    exact ⟨o, es, ep, k _ o (Ne.symm hL) ho, r⟩
  · refine (I.hok b u e).stay (fun c v hc q => k c v ?_ q) (fun _ q => q) fun _ _ q => q
    rcases hc with z | z
    · rw [z]; exact nit b u e
    · exact nit c _ z
theorem Inv.tok (I : Inv X pins σ H s) (t : Nat) : Inv X pins σ H { s with toks := t } := I.un (h' := s.heap) (t' := t) Un.refl I.hok
/-- all objects kept -/
theorem Inv.kept {t' : Nat} (I : Inv X pins σ H s) (k : ∀ b u, s.heap.get? b = some u → h'.get? b = some u) : Inv X pins σ H { s with heap := h', toks := t' } := I.un (Un.kept k) (I.hok.kept k)
/-- a new object laid and tracked -/
theorem Inv.laid {a : Addr} {o : HO} {t' : Nat} (I : Inv X pins σ H s) (k : ∀ b u, s.heap.get? b = some u → h'.get? b = some u) (hp : s.heap.objs.size ≤ a) (new : ObjOk X.prog X.w (upd H a o) h' a o) :
    Inv X pins σ (upd H a o) { s with heap := h', toks := t' } := I.un (Un.laid k hp (I.hok.fresh hp)) (I.hok.laid k hp new)
/-- an object written -/
theorem Inv.write {x e : Addr} {o : HO} {t' : Nat} (I : Inv X pins σ H s) (mu : Mut (H x)) (he : e = x ∨ H e = some (.own x)) (k : ∀ b u, b ≠ e → s.heap.get? b = some u → h'.get? b = some u) (heo : ∃ u, h'.get? e = some u)
    (new : ObjOk X.prog X.w (upd H x o) h' x o) : Inv X pins σ (upd H x o) { s with heap := h', toks := t' } := I.un (Un.write mu he k heo) (I.hok.write mu he k heo new)
/-- forgetting slots, pins -/
theorem Inv.weak {σ' : List (Option V)} (I : Inv X pins σ H s) (hl : σ'.length = σ.length) (w : ∀ (i : Nat) v, σ'[i]? = some (some v) → σ[i]? = some (some v)) : Inv X pins σ' H s :=
  ⟨I.ok, I.os, I.bare, I.base, let ⟨m, hn, hl'⟩ := I.loc; ⟨m, hn, fun i x v e1 e2 e3 => hl' i x v e1 (w i v e2) e3⟩, I.cell, I.free, I.freeC, I.pin, I.hok, hl.trans I.len⟩
theorem Inv.pins_of {pins' : List (Addr × Obj)} (I : Inv X pins σ H s) (h : ∀ p ∈ pins', s.heap.get? p.1 = some p.2 ∧ H p.1 = none ∧ p.1 ≠ X.env.locals ∧ p.1 ∉ X.fs ∧ ∀ v, p.2.data ≠ .cell v) : Inv X pins' σ H s :=
  ⟨I.ok, I.os, I.bare, I.base, I.loc, I.cell, I.free, I.freeC, fun p hp => (List.mem_append.mp hp).elim (fun z => I.pin p (List.mem_append_left _ z)) (h p), I.hok, I.len⟩

theorem nodup_ix {N : List Str} (hN : N.Nodup) {i j : Nat} {x : Str} (a : N[i]? = some x) (b : N[j]? = some x) : i = j := by
  obtain ⟨h1, e1⟩ := List.getElem?_eq_some_iff.mp a
  obtain ⟨h2, e2⟩ := List.getElem?_eq_some_iff.mp b
  exact (List.getElem_inj hN).mp (e1.trans e2.symm)

/-- a name is stored; what changed -/
theorem store_ok2 {M : Model} {A : Around} {E : Value → Shared → Prop} {i : Nat} {x : Str} {v : V} {u : Value} {Q : Unit → Shared → Prop} (I : Inv X pins σ H s) (hN : X.N.Nodup) (hi : X.N[i]? = some x) (hx : Loc X.env.scope x) (r : RelV v u)
    (h : ∀ s', Inv X pins (σ.set i (some v)) H s' → (∃ a, Heap.SameBut a s.heap s'.heap ∧ (a = X.env.locals ∨ X.env.cells.lookup x = some a)) → Q () s') (hf : X.fn x = true ∨ X.env.scope.names.lookup x = some .local := by first | exact .inl rfl | exact .inr rfl | assumption) : wpAny M A (storeName X.env x u) Q E s := by
  obtain ⟨m, hn, hl⟩ := id I.loc
  have hcls : (X.env.scope.kind == .class || (X.env.scope.kind == .module && X.env.locals != X.env.globals)) = false := by rw [I.ok.kind]; rfl
  have hiσ : i < σ.length := by rw [I.len]; exact (List.getElem?_eq_some_iff.mp hi).1
  have cne := I.cne
  have tracked : ∀ {a : Addr} {h' : Heap}, (∃ o, s.heap.get? a = some o ∧ H a = none) → Heap.SameBut a s.heap h' → HOk X.prog X.w H h' := fun {a h'} ha hs b ob e => by
    obtain ⟨_, _, hfree⟩ := ha
    refine (I.hok b ob e).stay (fun c w' hc q => (hs.2 c ?_).trans q) (fun _ q => q) fun _ _ q => q
    rintro rfl
    rcases hc with rfl | hc
    · rw [hfree] at e; cases e
    · rw [hfree] at hc; cases hc
  rcases hx with hk | hk
  · refine wpAny_storeName_local hk hn (fun h' hn' hs => ?_) hcls
    obtain ⟨oL, _, _, hoL, _⟩ := id hn
    refine h _ ⟨I.ok, I.os, I.bare, ⟨fun b o e n hb hx => ?_, fun b o e n hb hx => ?_, I.base.free, fun b o e hx => ?_, I.base.tups, I.base.frzs, I.base.tbls⟩, ⟨_, hn', fun j y v' e1 e2 e3 => ?_⟩, fun y c e => ?_, I.free, I.freeC, fun p hp => ?_, tracked ⟨oL, hoL, I.free⟩ hs, by simpa using I.len⟩ ⟨_, hs, .inl rfl⟩
    · exact (hs.2 b (Nat.ne_of_lt (Nat.lt_of_lt_of_le (Heap.lt_size e) I.ok.above))).trans (I.base.keep b o e n hb hx)
    · obtain ⟨sl, e1⟩ := I.base.slot b o e n hb hx
      exact ⟨sl, (hs.2 b (Nat.ne_of_lt (Nat.lt_of_lt_of_le (Heap.lt_size e) I.ok.above))).trans e1⟩
    · obtain ⟨o', e1⟩ := I.base.there b o e hx
      exact ⟨o', (hs.2 b (Nat.ne_of_lt (Nat.lt_of_lt_of_le (Heap.lt_size e) I.ok.above))).trans e1⟩
    · by_cases hj : j = i
      · subst hj
        rw [hi] at e1; cases e1
        rw [List.getElem?_set_self hiσ] at e2
        cases e2
        exact ⟨u, r, .inl ⟨hk, by simp⟩⟩
      · rw [List.getElem?_set_ne (Ne.symm hj)] at e2
        obtain ⟨u', r', q⟩ := hl j y v' e1 e2 e3
        refine ⟨u', r', ?_⟩
        rcases q with ⟨k, e⟩ | ⟨k, c, e, z⟩
        · refine .inl ⟨k, ?_⟩
          have : y ≠ x := fun e => hj (nodup_ix hN e1 (e ▸ hi))
          simp [this, e]
        · exact .inr ⟨k, c, e, z.sameBut hs (cne y c e)⟩
    · obtain ⟨w', z⟩ := I.cell y c e
      exact ⟨w', z.sameBut hs (cne y c e)⟩
    · obtain ⟨e, n, ne, nf, d⟩ := I.pin p hp
      exact ⟨(hs.2 p.1 ne).trans e, n, ne, nf, d⟩
  · have hfn : X.fn x = true := by
      rcases hf with z | z
      · exact z
      · rw [z] at hk; cases hk
    obtain ⟨c, hc⟩ := I.ok.has x (.inl hk)
    obtain ⟨w', z⟩ := I.cell x c hc
    refine wpAny_storeName_cell I.ok.kind hk hc z (fun h' hc' hs => ?_)
    obtain ⟨oc, hoc, hocd⟩ := id z
    refine h { s with heap := h' } ⟨I.ok, I.os, I.bare, ⟨fun b o e n hb hx => ?_, fun b o e n hb hx => ?_, I.base.free, fun b o e hx => ?_, I.base.tups, I.base.frzs, I.base.tbls⟩, ⟨m, hn.sameBut hs (Ne.symm (cne x c hc)), fun j y v' e1 e2 e3 => ?_⟩, fun y c' e => ?_, I.free, I.freeC, fun p hp => ?_, tracked ⟨oc, hoc, I.freeC x c hc⟩ hs, by simpa using I.len⟩ ⟨c, hs, .inr hc⟩
    · exact (hs.2 b (Nat.ne_of_lt (Nat.lt_of_lt_of_le (Heap.lt_size e) (I.ok.cab x c hfn hc)))).trans (I.base.keep b o e n hb hx)
    · obtain ⟨sl, e1⟩ := I.base.slot b o e n hb hx
      exact ⟨sl, (hs.2 b (Nat.ne_of_lt (Nat.lt_of_lt_of_le (Heap.lt_size e) (I.ok.cab x c hfn hc)))).trans e1⟩
    · obtain ⟨o', e1⟩ := I.base.there b o e hx
      exact ⟨o', (hs.2 b (Nat.ne_of_lt (Nat.lt_of_lt_of_le (Heap.lt_size e) (I.ok.cab x c hfn hc)))).trans e1⟩
    · by_cases hj : j = i
      · subst hj
        rw [hi] at e1; cases e1
        rw [List.getElem?_set_self hiσ] at e2
        cases e2
        exact ⟨u, r, .inr ⟨.inl hk, c, hc, hc'⟩⟩
      · rw [List.getElem?_set_ne (Ne.symm hj)] at e2
        obtain ⟨u', r', q⟩ := hl j y v' e1 e2 e3
        refine ⟨u', r', ?_⟩
        rcases q with q | ⟨k, c', e, z'⟩
        · exact .inl q
        · refine .inr ⟨k, c', e, z'.sameBut hs ?_⟩
          rintro rfl
          exact hj (nodup_ix hN e1 (I.ok.inj _ _ _ e hc ▸ hi))
    · by_cases hcc : c' = c
      · subst hcc; exact ⟨_, hc'⟩
      · obtain ⟨w2, z2⟩ := I.cell y c' e
        exact ⟨w2, z2.sameBut hs hcc⟩
    · obtain ⟨e, n, ne, nf, d⟩ := I.pin p hp
      refine ⟨(hs.2 p.1 ?_).trans e, n, ne, nf, d⟩
      intro q
      rw [q, hoc] at e
      have q' : oc = p.2 := Option.some.inj e
      exact d w' (by rw [← q']; exact hocd)
theorem store_ok {M : Model} {A : Around} {E : Value → Shared → Prop} {i : Nat} {x : Str} {v : V} {u : Value} {Q : Unit → Shared → Prop} (I : Inv X pins σ H s) (hN : X.N.Nodup) (hi : X.N[i]? = some x) (hx : Loc X.env.scope x) (r : RelV v u)
    (h : ∀ s', Inv X pins (σ.set i (some v)) H s' → Q () s') (hf : X.fn x = true ∨ X.env.scope.names.lookup x = some .local := by first | exact .inl rfl | exact .inr rfl | assumption) : wpAny M A (storeName X.env x u) Q E s :=
  store_ok2 I hN hi hx r (fun s' I' _ => h s' I') hf
/-- behind a call or a block, the state as it is -/
theorem Inv.call' {s' : Shared} {ch : List Addr} (I : Inv X pins σ H s) (ho : s'.os = s.os) (u : Un (frs X.stack) ch H H' s.heap s'.heap) (hok : HOk X.prog X.w H' s'.heap) (hg : AllBare s'.gens)
    (hch : ∀ b ∈ ch, (b ∈ X.ex ∨ X.s₀.heap.objs.size ≤ b) ∧ b ≠ X.env.locals ∧ (∀ x c, X.env.cells.lookup x = some c → c ≠ b) ∧ ∀ p ∈ X.pn ++ pins, p.1 ≠ b) : Inv X pins σ H' s' := by
  obtain ⟨h', g', d', t', o'⟩ := s'
  have e : o' = s.os := ho
  subst e
  exact I.call (g' := g') (t' := t') (d' := d') u hok hg hch
end

/-! ### the judgements -/
/-- an exception: its class, its own dict's address (where it has one), the abstract heap behind it -/
abbrev XK := Value → Option Addr → Hp → Prop
abbrev St := List (Option V)
abbrev VK := V → Hp → Prop
/-- an expression's reading; a test's; an argument list's -/
abbrev TE := St → Hp → VK → Prop
abbrev TT := St → Hp → (Bool → Hp → Prop) → Prop
abbrev TA := St → Hp → (List V → Hp → Prop) → Prop
/-- what is wanted behind a statement -/
structure Ends where
  nx : St → Hp → Prop
  rt : VK
  bk : St → Hp → Prop := fun _ _ => False
  ct : St → Hp → Prop := fun _ _ => False
abbrev TS := Ends → St → Hp → Prop

def EP (X : Cx) (pins : List (Addr × Obj)) (σ : St) (Q : VK) (u : Value) (s' : Shared) : Prop := ∃ v H', Inv X pins σ H' s' ∧ RelV v u ∧ Q v H'
def TP (X : Cx) (pins : List (Addr × Obj)) (σ : St) (Q : Bool → Hp → Prop) (b : Bool) (s' : Shared) : Prop := ∃ H', Inv X pins σ H' s' ∧ Q b H'
def AP (X : Cx) (pins : List (Addr × Obj)) (σ : St) (Q : List V → Hp → Prop) (us : List Value) (s' : Shared) : Prop := ∃ vs H', Inv X pins σ H' s' ∧ Vals vs us ∧ Q vs H'
def SP (X : Cx) (pins : List (Addr × Obj)) (D : Ends) (f : Flow) (s' : Shared) : Prop :=
  match f with
  | .next => ∃ σ' H', Inv X pins σ' H' s' ∧ D.nx σ' H'
  | .brk => ∃ σ' H', Inv X pins σ' H' s' ∧ D.bk σ' H'
  | .cont => ∃ σ' H', Inv X pins σ' H' s' ∧ D.ct σ' H'
  | .ret u => ∃ v σ' H', Inv X pins σ' H' s' ∧ RelV v u ∧ D.rt v H'

def PE (X : Cx) (e : Expr) (t : TE) : Prop :=
  ∀ (pins : List (Addr × Obj)) (s : Shared) (σ : St) (H : Hp) (Q : VK), Inv X pins σ H s → t σ H Q → wpAny (model X.prog X.w) X.A (eval e X.env) (EP X pins σ Q) X.xe s
def PT (X : Cx) (e : Expr) (t : TT) : Prop :=
  ∀ (pins : List (Addr × Obj)) (s : Shared) (σ : St) (H : Hp) (Q : Bool → Hp → Prop), Inv X pins σ H s → t σ H Q → wpAny (model X.prog X.w) X.A (isTrue e X.env (eval e X.env)) (TP X pins σ Q) X.xe s
/-- a test whatever its 'whole' is (and, or) -/
def PW (X : Cx) (e : Expr) (t : TT) : Prop :=
  ∀ (whole : Sem Value) (pins : List (Addr × Obj)) (s : Shared) (σ : St) (H : Hp) (Q : Bool → Hp → Prop), Inv X pins σ H s → t σ H Q → wpAny (model X.prog X.w) X.A (isTrue e X.env whole) (TP X pins σ Q) X.xe s
theorem PW.pt {X : Cx} {e : Expr} {t : TT} (h : PW X e t) : PT X e t := h _
/-- an argument list (no star), from the left -/
def PA (X : Cx) (es : List Expr) (t : TA) : Prop :=
  ∀ (pos : Pos) (pins : List (Addr × Obj)) (s : Shared) (σ : St) (H : Hp) (Q : List V → Hp → Prop), Inv X pins σ H s → t σ H Q → wpAny (model X.prog X.w) X.A (spliced (backTo pos (starEach es X.env))) (AP X pins σ Q) X.xe s
def PS (X : Cx) (st : Stmt) (t : TS) : Prop :=
  ∀ (pins : List (Addr × Obj)) (s : Shared) (σ : St) (H : Hp) (D : Ends), Inv X pins σ H s → t D σ H → wpAny (model X.prog X.w) X.A (exec st X.env) (SP X pins D) X.xe s
def PSs (X : Cx) (st : List Stmt) (t : TS) : Prop :=
  ∀ (pins : List (Addr × Obj)) (s : Shared) (σ : St) (H : Hp) (D : Ends), Inv X pins σ H s → t D σ H → wpAny (model X.prog X.w) X.A (execs st X.env) (SP X pins D) X.xe s
/-- weaken the end -/
theorem thn {α : Type} {t : Sem α} {Q Q' : α → Shared → Prop} {M : Model} {A : Around} {E : Value → Shared → Prop} {s : Shared} (h : wpAny M A t Q E s) (hQ : ∀ a s, Q a s → Q' a s) : wpAny M A t Q' E s := wpAny_mono h hQ fun _ _ x => x
end L2

namespace L2
open PySem PySem.Spec PyProof.Rows
section
variable {X : Cx}

/-! ### names and constants -/
def tVar (i : Nat) : TE := fun σ H Q => ∃ v, σ[i]? = some (some v) ∧ Q v H
def tC (v : V) : TE := fun _ H Q => Q v H
theorem pe_var {i : Nat} {x : Str} {pos : Pos} (hN : X.N[i]? = some x) (hv : Vis X.env.scope x) (hd : (x == ("__debug__" : Str)) = false := by decide) (hcd : (x == ("__classdict__" : Str)) = false := by decide) : PE X (.Name x pos) (tVar i) := by
  intro pins s σ H Q I h
  obtain ⟨v, e, h⟩ := h
  obtain ⟨m, hn, hl⟩ := I.loc
  obtain ⟨u, r, l⟩ := hl i x v hN e hv
  have fin : EP X pins σ Q u s := ⟨v, H, I, r, h⟩
  rcases l with ⟨hk, hm⟩ | ⟨hk, c, hc, hcell⟩
  · exact wpAny_Name (wpAny_loadName_local I.ok.kind hk hn hm fin) hd
  · rcases hk with hk | hk
    · exact wpAny_Name (wpAny_loadName_cell I.ok.kind hk hc hcell fin) hd
    · exact wpAny_Name (wpAny_loadName_free I.ok.kind hk hc hcell fin hcd) hd
theorem pe_int {i j pos} : PE X (.Constant (.int i) j pos) (tC (.int i)) := fun _ _ _ H _ I h => wpAny_Constant_int ⟨.int i, H, I.tok _, ⟨_, rfl⟩, h⟩
theorem pe_bl {b j pos} : PE X (.Constant (.bool b) j pos) (tC (.bl b)) := fun _ _ _ H _ I h => Constant_bool ⟨.bl b, H, I, rfl, h⟩
theorem pe_non {j pos} : PE X (.Constant .none j pos) (tC .non) := fun _ _ _ H _ I h => Constant_none ⟨.non, H, I, rfl, h⟩
theorem pe_str {x j pos} : PE X (.Constant (.str x) j pos) (tC (.str x)) := fun _ _ _ H _ I h => Calls.Constant_str ⟨.str x, H, I.tok _, ⟨_, rfl⟩, h⟩

/-- a global name of the def -/
def Gl (X : Cx) (x : Str) : Prop := X.env.kindOf x = some .globalImplicit
theorem ld_glob {E : Value → Shared → Prop} {pins : List (Addr × Obj)} {s : Shared} {σ : St} {H : Hp} {x : Str} {u : Value} {pos : Pos} {Q : Value → Shared → Prop} (I : Inv X pins σ H s) (hg : Gl X x) (hm : X.mg x = some u) (h : Q u s)
    (hd : (x == ("__debug__" : Str)) = false := by decide) : wpAny (model X.prog X.w) X.A (eval (.Name x pos) X.env) Q E s :=
  Calls.Name_function_global I.ok.kind hg (Calls.loadGlobal_global (by rw [I.ok.glob]; exact I.mod.glob.keeps I.bk) hm h) hd
theorem ld_blt {E : Value → Shared → Prop} {pins : List (Addr × Obj)} {s : Shared} {σ : St} {H : Hp} {x : Str} {u : Value} {pos : Pos} {Q : Value → Shared → Prop} (I : Inv X pins σ H s) (hg : Gl X x) (hm : X.mg x = none) (hv : bootBuiltins x = some u) (h : Q u s)
    (hn : x ≠ "__name__" := by decide) (hd : (x == ("__debug__" : Str)) = false := by decide) : wpAny (model X.prog X.w) X.A (eval (.Name x pos) X.env) Q E s := by
  obtain ⟨mb, h1, h2⟩ := I.mod.blt
  exact Calls.Name_function_global I.ok.kind hg (Calls.loadGlobal_builtin (by rw [I.ok.glob]; exact I.mod.glob.keeps I.bk) hm (by rw [I.ok.blt]; exact h1.keeps I.bk) ((h2 x hn).trans hv) h) hd
/-! ### arithmetic -/
variable {a b : Expr} {ta tb : TE} {pos : Pos}
/-! ### comparisons -/
def PC (X : Cx) (op : CmpOp) (a b : Expr) (t : TE) : Prop :=
  ∀ (pins : List (Addr × Obj)) (s : Shared) (σ : St) (H : Hp) (Q : VK), Inv X pins σ H s → t σ H Q →
    wpAny (model X.prog X.w) X.A (eval a X.env) (fun v s₁ => wpAny (model X.prog X.w) X.A (eval b X.env) (fun u s₂ => wpAny (model X.prog X.w) X.A (compareOp op v u) (EP X pins σ Q) X.xe s₂) X.xe s₁) X.xe s
theorem nobehind (b : Expr) {op : CmpOp} (h : op ≠ .In) (h2 : op ≠ .NotIn) : behindInMarks op b = false := by
  have e1 : (op == CmpOp.In) = false := by cases op <;> first | rfl | exact absurd rfl h
  have e2 : (op == CmpOp.NotIn) = false := by cases op <;> first | rfl | exact absurd rfl h2
  cases b <;> simp [behindInMarks, e1, e2]
/-- a comparison as a value, as a test -/
def tB (t : TE) : TT := fun σ H Q => t σ H fun x H1 => ∃ c, x = .bl c ∧ Q c H1
theorem pt_cmp {op : CmpOp} {t : TE} (h : PC X op a b t) (h1 : behindInMarks op b = false := by first | exact nobehind _ (by decide) (by decide) | rfl) : PT X (.Compare a [op] [b] pos) (tB t) := by
  intro pins s σ H Q I hw
  refine wpAny_isTrue_Compare1 (thn (h pins s σ H _ I hw) fun v s1 h1 => thn h1 fun u s2 h2 => thn h2 fun c s3 ⟨x, H1, I1, r1, q1⟩ => ?_) h1
  obtain ⟨d, rfl, q⟩ := q1
  cases r1
  exact wpAny_truthy_bool ⟨H1, I1, q⟩
/-- an expression whose value is a bool, as a test -/
theorem pt_val {e : Expr} {t : TE} (h : PE X e t) (he : ∀ whole, isTrue e X.env whole = (do let v ← whole; standAt e.pos; holding [v] (truthy v)) := by intro _; rfl) : PT X e (tB t) := by
  intro pins s σ H Q I hw
  refine isTrue_plain (thn (h pins s σ H _ I hw) fun v s1 ⟨x, H1, I1, r1, q1⟩ => ?_) (he _)
  obtain ⟨d, rfl, q⟩ := q1
  cases r1
  exact wpAny_truthy_bool ⟨H1, I1, q⟩

/-! ### and, or, not -/
variable {tA tB' : TT} {rest : List Expr}
def tOr (t u : TT) : TT := fun σ H Q => t σ H fun c H1 => if c = true then Q true H1 else u σ H1 Q
theorem pw_or1 (ha : PT X a tA) : PW X (.BoolOp .Or [a] pos) tA := by
  intro wh pins s σ H Q I h
  refine isTrue_or (thn (ha pins s σ H Q I h) fun c s1 e => ?_)
  cases c with
  | false => exact isTrue_or_nil e
  | true => exact e
theorem pw_or (ha : PT X a tA) (hb : PW X (.BoolOp .Or (b :: rest) pos) tB') : PW X (.BoolOp .Or (a :: b :: rest) pos) (tOr tA tB') := by
  intro wh pins s σ H Q I h
  refine isTrue_or (thn (ha pins s σ H _ I h) fun c s1 ⟨H1, I1, q1⟩ => ?_)
  cases c with
  | true => exact ⟨H1, I1, q1⟩
  | false => exact hb wh pins s1 σ H1 Q I1 q1
/-- .. as values (bools) -/
def tAndV (ta tb : TE) : TE := fun σ H Q => ta σ H fun x H1 => ∃ c, x = .bl c ∧ if c = true then tb σ H1 Q else Q (.bl false) H1
theorem pe_one {op} {t : TE} (h : PE X a t) : PE X (.BoolOp op [a] pos) t := fun pins s σ H Q I hw => BoolOp_one (h pins s σ H Q I hw)
theorem pe_and (ha : PE X a ta) (hb : PE X (.BoolOp .And (b :: rest) pos) tb) : PE X (.BoolOp .And (a :: b :: rest) pos) (tAndV ta tb) := by
  intro pins s σ H Q I h
  refine BoolOp_and (thn (ha pins s σ H _ I h) fun v s1 ⟨x, H1, I1, r1, q1⟩ => ?_)
  obtain ⟨c, rfl, q1⟩ := q1
  cases r1
  refine wpAny_truthy_bool ?_
  cases c with
  | true => exact hb pins s1 σ H1 Q I1 q1
  | false => exact ⟨.bl false, H1, I1, rfl, q1⟩
end
end L2

namespace L2
open PySem PySem.Spec PyProof.Rows

/-! ### a list, a tuple that is read: tracked, frozen, or an object of the module -/
def SqL (K : PySem.W.Frag) (H : Hp) (a : Addr) (xs : List V) : Prop :=
  Rd H a (.lst xs) ∨
    ∃ (o : Obj) (its : Array Value) (n : Nat), K.lookup a = some o ∧ o.cls = .type "list" ∧ o.dict = none ∧ o.data = .seq its n ∧ its.size ≤ sizeLine ∧ Vals xs its.toList
def SqT (K : PySem.W.Frag) (H : Hp) (a : Addr) (xs : List V) : Prop :=
  Rd H a (.tup xs) ∨
    ∃ (o : Obj) (its : Array Value) (n : Nat), K.lookup a = some o ∧ o.cls = .type "tuple" ∧ o.data = .seq its n ∧ its.size ≤ sizeLine ∧ Vals xs its.toList
def absV : Value → Option V
  | .none => some .non
  | .bool b => some (.bl b)
  | .int i _ => some (.int i)
  | .str x _ => some (.str x)
  | .bytes b _ => some (.byt b)
  | .float b _ => some (.flt b)
  | .ref a => some (.ref a)
  | .type n => some (.ty n)
  | _ => none
theorem RelV.abs {x : V} {u : Value} (r : RelV x u) : absV u = some x := by
  cases x with
  | non => cases r; rfl
  | bl _ => cases r; rfl
  | int _ => obtain ⟨t, rfl⟩ := r; rfl
  | str _ => obtain ⟨t, rfl⟩ := r; rfl
  | byt _ => obtain ⟨t, rfl⟩ := r; rfl
  | flt _ => obtain ⟨t, rfl⟩ := r; rfl
  | ref _ => cases r; rfl
  | ty _ => cases r; rfl
theorem RelV.inj {x y : V} {u : Value} (r : RelV x u) (q : RelV y u) : x = y := Option.some.inj (r.abs.symm.trans q.abs)
theorem Vals.inj : ∀ {xs ys : List V} {us : List Value}, Vals xs us → Vals ys us → xs = ys
  | _, _, _, .nil, .nil => rfl
  | _, _, _, .cons r t, .cons r' t' => by rw [r.inj r', Vals.inj t t']
section
variable {X : Cx} {pins : List (Addr × Obj)} {σ : St} {H : Hp} {s : Shared} {a : Addr} {xs ys : List V}
theorem SqL.of {K : PySem.W.Frag} (h : H a = some (.lst xs)) : SqL K H a xs := .inl (.inl h)
theorem SqT.of {K : PySem.W.Frag} (h : H a = some (.tup xs)) : SqT K H a xs := .inl (.inl h)
theorem Inv.list (I : Inv X pins σ H s) (h : SqL X.K H a xs) : ∃ its : List Value, Vals xs its ∧ PlainL s.heap a its.toArray ∧ xs.length ≤ sizeLine := by
  rcases h with h | ⟨o, its, n, hk, hc, hd, hs, hz, r⟩
  · obtain ⟨z, its, n, r, e⟩ := h.ok I.hok
    exact ⟨its, r, ⟨_, n, e, rfl, rfl, rfl⟩, z⟩
  · refine ⟨its.toList, r, ⟨o, n, I.kIn a o hk, hc, hd, by simpa using hs⟩, ?_⟩
    have e := r.length
    simp only [Array.length_toList] at e
    omega
theorem Inv.tuple (I : Inv X pins σ H s) (h : SqT X.K H a xs) : ∃ its : List Value, Vals xs its ∧ IsTup s.heap a its.toArray ∧ xs.length ≤ sizeLine := by
  rcases h with h | ⟨o, its, n, hk, hc, hs, hz, r⟩
  · obtain ⟨z, its, r, p⟩ := h.ok I.hok
    exact ⟨its, r, p, z⟩
  · refine ⟨its.toList, r, ⟨o, I.kIn a o hk, hc, n, by simpa using hs⟩, ?_⟩
    have e := r.length
    simp only [Array.length_toList] at e
    omega
theorem Inv.list_inj (I : Inv X pins σ H s) (h : SqL X.K H a xs) (h' : SqL X.K H a ys) : xs = ys := by
  obtain ⟨its, r, ⟨o, n, e, _, _, d⟩, _⟩ := I.list h
  obtain ⟨its', r', ⟨o', n', e', _, _, d'⟩, _⟩ := I.list h'
  rw [e] at e'; cases e'
  rw [d] at d'
  injection d' with d1 _
  have : its = its' := by simpa using congrArg Array.toList d1
  subst this
  exact r.inj r'
end

/-! ### another wish about exceptions -/
abbrev Cx.wish (X : Cx) (E : Value → Shared → Prop) : Cx := { X with xe := E }
/-- no exception leaves -/
abbrev Cx.nox (X : Cx) : Cx := X.wish fun _ _ => False
theorem Cx.Ok.wish {X : Cx} (ok : X.Ok) (E : Value → Shared → Prop) : (X.wish E).Ok :=
  ⟨ok.mod, ok.kind, ok.glob, ok.blt, ok.above, ok.inj, ok.has, ok.cab, ok.hd, ok.frames, ok.stk, ok.exf, ok.bs, ok.bsz, ok.noex, ok.exfs, ok.funs, ok.frf⟩
theorem Cx.Ok.unwish {X : Cx} {E : Value → Shared → Prop} (ok : (X.wish E).Ok) : X.Ok :=
  ⟨ok.mod, ok.kind, ok.glob, ok.blt, ok.above, ok.inj, ok.has, ok.cab, ok.hd, ok.frames, ok.stk, ok.exf, ok.bs, ok.bsz, ok.noex, ok.exfs, ok.funs, ok.frf⟩
section
variable {X : Cx} {pins : List (Addr × Obj)} {σ : St} {H : Hp} {s : Shared} {E : Value → Shared → Prop}
theorem Inv.wish (I : Inv X pins σ H s) (E : Value → Shared → Prop) : Inv (X.wish E) pins σ H s := ⟨I.ok.wish E, I.os, I.bare, I.base, I.loc, I.cell, I.free, I.freeC, I.pin, I.hok, I.len⟩
theorem Inv.unwish (I : Inv (X.wish E) pins σ H s) : Inv X pins σ H s := ⟨I.ok.unwish, I.os, I.bare, I.base, I.loc, I.cell, I.free, I.freeC, I.pin, I.hok, I.len⟩
theorem SP.unwish {D : Ends} {f : Flow} {s' : Shared} (h : SP (X.wish E) pins D f s') : SP X pins D f s' := by
  cases f with
  | next => obtain ⟨σ', H', I, q⟩ := h; exact ⟨σ', H', I.unwish, q⟩
  | brk => obtain ⟨σ', H', I, q⟩ := h; exact ⟨σ', H', I.unwish, q⟩
  | cont => obtain ⟨σ', H', I, q⟩ := h; exact ⟨σ', H', I.unwish, q⟩
  | ret u => obtain ⟨v, σ', H', I, r, q⟩ := h; exact ⟨v, σ', H', I.unwish, r, q⟩
theorem PE.nox {e : Expr} {t : TE} (h : PE X.nox e t) : PE X e t := fun pins s σ H Q I hw =>
  wpAny_mono (h pins s σ H Q (I.wish _) hw) (fun _ _ ⟨v, H', I', r, q⟩ => ⟨v, H', I'.unwish, r, q⟩) fun _ _ z => False.elim z
theorem PT.nox {e : Expr} {t : TT} (h : PT X.nox e t) : PT X e t := fun pins s σ H Q I hw =>
  wpAny_mono (h pins s σ H Q (I.wish _) hw) (fun _ _ ⟨H', I', q⟩ => ⟨H', I'.unwish, q⟩) fun _ _ z => False.elim z
theorem PSs.nox {st : List Stmt} {t : TS} (h : PSs X.nox st t) : PSs X st t := fun pins s σ H D I hw =>
  wpAny_mono (h pins s σ H D (I.wish _) hw) (fun _ _ q => q.unwish) fun _ _ z => False.elim z
end

/-! ### blocks and small statements -/
section
variable {X : Cx} {st : Stmt} {rest : List Stmt} {t u : TS} {e : Expr} {te : TE} {pos : Pos}
def tNext : TS := fun D σ H => D.nx σ H
def tSeq (t u : TS) : TS := fun D σ H => t { D with nx := u D } σ H
theorem pss_nil : PSs X [] tNext := fun _ _ σ H _ I h => wpAny_execs_nil ⟨σ, H, I, h⟩
theorem pss_cons (h1 : PS X st t) (h2 : PSs X rest u) : PSs X (st :: rest) (tSeq t u) := by
  intro pins s σ H D I h
  refine wpAny_execs_cons (thn (h1 pins s σ H { D with nx := u D } I h) fun f s1 q => ?_)
  cases f with
  | next =>
    obtain ⟨σ', H', I', q⟩ := q
    exact h2 pins s1 σ' H' D I' q
  | ret v => exact q
  | brk => exact q
  | cont => exact q
theorem pss_one (h1 : PS X st t) : PSs X [st] t := by
  intro pins s σ H D I h
  refine wpAny_execs_cons (thn (h1 pins s σ H D I h) fun f s1 q => ?_)
  cases f with
  | next => exact wpAny_execs_nil q
  | ret v => exact q
  | brk => exact q
  | cont => exact q
/-- in a def's body nothing is shown -/
theorem Inv.quiet {pins : List (Addr × Obj)} {σ : St} {H : Hp} {s : Shared} (I : Inv X pins σ H s) : interactive X.env = false := by simp [interactive, I.ok.kind]
/-- an expression whose value is dropped -/
def tDrop (te : TE) : TS := fun D σ H => te σ H fun _ H1 => D.nx σ H1
theorem ps_expr (he : PE X e te) (hs : swapsWith e none pos.line X.env = pure false := by rfl) : PS X (.Expr e pos) (tDrop te) := by
  intro pins s σ H D I h
  exact wpAny_Expr_any (thn (he pins s σ H _ I h) fun v s1 ⟨x, H1, I1, r1, q1⟩ => ⟨σ, H1, I1, q1⟩) I.quiet hs
def tRet (te : TE) : TS := fun D σ H => te σ H D.rt
theorem ps_ret (he : PE X e te) : PS X (.Return (some e) pos) (tRet te) := by
  intro pins s σ H D I h
  exact wpAny_Return_some (thn (he pins s σ H _ I h) fun v s1 ⟨x, H1, I1, r1, q1⟩ => ⟨x, σ, H1, I1, r1, q1⟩)
def tIfS (c : TT) (t u : TS) : TS := fun D σ H => c σ H fun b H1 => if b = true then t D σ H1 else u D σ H1
theorem ps_if {c : Expr} {a b : List Stmt} {tc : TT} (hc : PT X c tc) (ha : PSs X a t) (hb : PSs X b u) : PS X (.If c a b pos) (tIfS tc t u) := by
  intro pins s σ H D I h
  refine wpAny_If (thn (hc pins s σ H _ I h) fun d s1 ⟨H1, I1, q1⟩ => ?_)
  cases d with
  | true => exact ha pins s1 σ H1 D I1 q1
  | false => exact hb pins s1 σ H1 D I1 q1
/-- code that the proof never comes to -/
def tNever : TS := fun _ _ _ => False
theorem ps_never : PS X st tNever := fun _ _ _ _ _ _ h => h.elim
end

/-! ### targets -/
abbrev TG := V → St → Hp → (St → Hp → Prop) → Prop
def PG (X : Cx) (target : Expr) (t : TG) : Prop :=
  ∀ (pins : List (Addr × Obj)) (s : Shared) (σ : St) (H : Hp) (v : V) (u : Value) (Q : St → Hp → Prop), Inv X pins σ H s → RelV v u → t v σ H Q →
    wpAny (model X.prog X.w) X.A (assign target X.env u) (fun _ s' => ∃ σ' H', Inv X pins σ' H' s' ∧ Q σ' H') X.xe s
section
variable {X : Cx} {pos : Pos}
def gName (i : Nat) : TG := fun v σ H Q => Q (σ.set i (some v)) H
theorem pg_name {i : Nat} {x : Str} (hN : X.N.Nodup) (hi : X.N[i]? = some x) (hx : Loc X.env.scope x) (hf : X.fn x = true ∨ X.env.scope.names.lookup x = some .local := by first | exact .inl rfl | exact .inr rfl | assumption) : PG X (.Name x pos) (gName i) := by
  intro pins s σ H v u Q I r h
  exact wpAny_assign_Name (store_ok I hN hi hx r (fun s' I' => ⟨_, H, I', h⟩) hf)
/-- target = value -/
def tAsg (te : TE) (g : TG) : TS := fun D σ H => te σ H fun x H1 => g x σ H1 D.nx
/-- name = value -/
theorem ps_set {i : Nat} {x : Str} {e : Expr} {te : TE} {pos' : Pos} (hN : X.N.Nodup) (hi : X.N[i]? = some x) (hx : Loc X.env.scope x) (he : PE X e te) (hs : swapsWith e (some (.Name x pos')) pos.line X.env = pure false := by rfl) (hf : X.fn x = true ∨ X.env.scope.names.lookup x = some .local := by first | exact .inl rfl | exact .inr rfl | assumption) :
    PS X (.Assign [.Name x pos'] e pos) (tAsg te (gName i)) := by
  intro pins s σ H D I h
  refine wpAny_Assign_Name (thn (he pins s σ H _ I h) fun v s1 ⟨y, H1, I1, r1, q1⟩ => ?_) hs
  exact store_ok I1 hN hi hx r1 (fun s2 I2 => ⟨_, H1, I2, q1⟩) hf
end

/-! ### while -/
section
variable {X : Cx} {pos : Pos}
/-- the invariant W with its measure -/
def tWhile (c : TT) (tb : TS) : TS := fun D σ H => ∃ W : Nat → St → Hp → Prop, (∃ m, W m σ H) ∧ ∀ m σ H, W m σ H →
  c σ H fun b H1 => if b = true then ∃ N : St → Hp → Prop, (∀ σ' H', N σ' H' → ∃ m', m' < m ∧ W m' σ' H') ∧ tb { D with nx := N, ct := N, bk := D.nx } σ H1 else D.nx σ H1
theorem ps_while {c : Expr} {body : List Stmt} {tc : TT} {tb : TS} (hp : PassesOwn (model X.prog X.w) X.A X.env X.xe) (hc : PT X c tc) (hb : PSs X body tb) : PS X (.While c body [] pos) (tWhile tc tb) := by
  intro pins s σ H D I h
  obtain ⟨W, ⟨m0, w0⟩, turn⟩ := h
  refine wpAny_While (codeAny_whileLoop (fun n s' => ∃ σ' H', Inv X pins σ' H' s' ∧ W n σ' H') ?_ m0 ⟨σ, H, I, w0⟩)
  rintro n s1 ⟨σ1, H1, I1, w1⟩
  refine wpAny_passesOwn hp (thn (hc pins s1 σ1 H1 _ I1 (turn n σ1 H1 w1)) fun b s2 ⟨H2, I2, q2⟩ => ?_)
  cases b with
  | true =>
    obtain ⟨N, hN, q2⟩ := q2
    rw [if_pos rfl]
    refine wpAny_passesOwn hp (thn (hb pins s2 σ1 H2 _ I2 q2) fun f s3 q3 => ?_)
    cases f with
    | next =>
      obtain ⟨σ3, H3, I3, n3⟩ := q3
      obtain ⟨m', hm, w3⟩ := hN σ3 H3 n3
      exact ⟨m', hm, σ3, H3, I3, w3⟩
    | cont =>
      obtain ⟨σ3, H3, I3, n3⟩ := q3
      obtain ⟨m', hm, w3⟩ := hN σ3 H3 n3
      exact ⟨m', hm, σ3, H3, I3, w3⟩
    | brk => exact q3
    | ret v => exact q3
  | false =>
    rw [if_neg Bool.false_ne_true]
    exact wpAny_execs_nil ⟨σ1, H2, I2, q2⟩
end

/-! ### what a loop or a comprehension walks -/
/-- at turn i: it yields x (the heap may grow), or it stops -/
structure It where
  go : Nat → Hp → Prop
  yld : Nat → Hp → V → Hp → Prop
  stop : Nat → Hp → Prop
/-- the iterator's own objects may turn: they are not the frame's, not pinned, younger than the entry (or a comprehension's own) -/
def FpOk (X : Cx) (pins : List (Addr × Obj)) (H : Hp) (b : Addr) : Prop :=
  H b = none ∧ b ≠ X.env.locals ∧ b ∉ X.fs ∧ (b ∈ X.ex ∨ X.s₀.heap.objs.size ≤ b) ∧ (∀ x c, X.env.cells.lookup x = some c → c ≠ b) ∧ ∀ p ∈ X.pn ++ pins, p.1 ≠ b
theorem Inv.fpOk {X : Cx} {pins : List (Addr × Obj)} {σ : St} {H H' : Hp} {s : Shared} {b : Addr} (I : Inv X pins σ H s) (hb : s.heap.objs.size ≤ b) (hn : H' b = none) : FpOk X pins H' b := by
  refine ⟨hn, Nat.ne_of_gt (Nat.lt_of_lt_of_le I.lt hb), I.nofs hb, .inr (Nat.le_trans I.sz hb), fun x c e z => ?_, fun p hp z => ?_⟩
  · obtain ⟨v, q⟩ := I.cell x c e
    exact absurd (Nat.lt_of_lt_of_le q.lt (by rw [z]; exact hb)) (Nat.lt_irrefl _)
  · exact absurd (Nat.lt_of_lt_of_le (Heap.lt_size (I.pin p hp).1) (by rw [z]; exact hb)) (Nat.lt_irrefl _)
structure Turn (P : Program) (w : World) (K : PySem.W.Frag) (tg : Expr) (J : It) (fp : List Addr) (it : Addr) (tn : Nat → Heap → Prop) : Prop where
  mem : it ∈ fp
  obj : ∀ i h, tn i h → ∀ b ∈ fp, ∃ o, h.get? b = some o ∧ ∀ v, o.data ≠ .cell v
  keep : ∀ i h h', tn i h → (∀ b ∈ fp, ∀ o, h.get? b = some o → h'.get? b = some o) → tn i h'
  item : ∀ (X : Cx), X.prog = P → X.w = w → X.K = K → X.calm = true → ∀ (i : Nat) (pins : List (Addr × Obj)) (s : Shared) (σ : St) (H : Hp) (E : Value → Shared → Prop), Inv X pins σ H s → (∀ b ∈ fp, FpOk X pins H b) → tn i s.heap → J.go i H →
    wpAny (model P w) X.A (pyNext (.ref it)) (fun r s1 => ∃ u, r = some u ∧
      wpAny (model P w) X.A (letOwnedTupleGo tg (.ref it) u) (fun _ s2 => ∃ x H', Inv X pins σ H' s2 ∧ RelV x u ∧ J.yld i H x H' ∧ tn (i + 1) s2.heap ∧ ∀ b ∈ fp, H' b = none) E s1) E s
  done : ∀ (X : Cx), X.prog = P → X.w = w → X.K = K → X.calm = true → ∀ (i : Nat) (pins : List (Addr × Obj)) (s : Shared) (σ : St) (H : Hp) (E : Value → Shared → Prop), Inv X pins σ H s → (∀ b ∈ fp, FpOk X pins H b) → tn i s.heap → J.stop i H →
    wpAny (model P w) X.A (pyNext (.ref it)) (fun r s1 => r = none ∧ Inv X pins σ H s1) E s
  self : ∀ (A : Around) (i : Nat) (s : Shared) (Q : Value → Shared → Prop) (E : Value → Shared → Prop), tn i s.heap → Q (.ref it) s → wpAny (model P w) A (pyIter (.ref it)) Q E s
abbrev TI := St → Hp → (It → Hp → Prop) → Prop
/-- an iterator has come -/
def PIE (X : Cx) (pins : List (Addr × Obj)) (σ : St) (tg : Expr) (R : It → Hp → Prop) (itv : Value) (s2 : Shared) : Prop :=
  ∃ (it : Addr) (fp : List Addr) (tn : Nat → Heap → Prop) (J : It) (H' : Hp), itv = .ref it ∧ Inv X pins σ H' s2 ∧ Turn X.prog X.w X.K tg J fp it tn ∧ tn 0 s2.heap ∧ (∀ b ∈ fp, FpOk X pins H' b) ∧ R J H'
def PI (X : Cx) (tg iter : Expr) (wi : TI) : Prop :=
  ∀ (pins : List (Addr × Obj)) (s : Shared) (σ : St) (H : Hp) (R : It → Hp → Prop), Inv X pins σ H s → wi σ H R →
    wpAny (model X.prog X.w) X.A (eval iter X.env) (fun v s1 => wpAny (model X.prog X.w) X.A (pyIter v) (PIE X pins σ tg R) X.xe s1) X.xe s

/-- the step ahead of the store is nothing for an iterator that keeps no tuple -/
theorem go_of {M : Model} {A : Around} {E : Value → Shared → Prop} {s : Shared} {tg : Expr} {it : Addr} {u : Value} {o : Obj} {n : String} {vs : Array Value} {Q : Unit → Shared → Prop} (ho : s.heap.get? it = some o) (hc : o.cls = .type n) (hd : o.data = .fields vs)
    (hn : ["enumerate", "zip", "dict_itemiterator", "dict_reverseitemiterator", "odict_iterator", "itertools.zip_longest", "itertools.pairwise"].contains n = false) (hQ : Q () s) : wpAny M A (letOwnedTupleGo tg (.ref it) u) Q E s := by
  unfold letOwnedTupleGo
  cases tg <;> first
    | exact wpAny_pure hQ
    | (cases u <;> first
        | exact wpAny_pure hQ
        | (refine wpAny_bind (wpAny_load ho ?_)
           rw [hc, hd]
           show wpAny M A (if (["enumerate", "zip", "dict_itemiterator", "dict_reverseitemiterator", "odict_iterator", "itertools.zip_longest", "itertools.pairwise"].contains n && vs[0]? == some (rawInt _)) = true then _ else _) Q E s
           rw [if_neg (by intro h; rw [hn, Bool.false_and] at h; cases h)]
           exact wpAny_pure hQ))

/-- the list at a, as it stands at each turn (a loop may append to it) -/
def Itl (K : PySem.W.Frag) (a : Addr) : It :=
  ⟨fun i H => ∃ xs x, SqL K H a xs ∧ xs[i]? = some x, fun i H x H' => H' = H ∧ ∀ xs, SqL K H a xs → xs[i]? = some x, fun i H => ∃ xs, SqL K H a xs ∧ xs.length ≤ i⟩
/-- lo, lo + 1, .. (n of them) -/
def Itr (lo : Int) (n : Nat) : It := ⟨fun i _ => i < n, fun i H x H' => H' = H ∧ x = .int (lo + i), fun i _ => n ≤ i⟩
theorem turn_list {P : Program} {w : World} {K : PySem.W.Frag} {tg : Expr} (a it : Addr) : Turn P w K tg (Itl K a) [it] it (fun i h => h.IsListIter it a i) where
  mem := by simp
  obj := fun i h st b hb => by
    have e : b = it := by simpa using hb
    subst e
    obtain ⟨o, e, c, d⟩ := st
    exact ⟨o, e, fun v z => by rw [d] at z; cases z⟩
  keep := fun i h h' st k => st.at fun o e => k it (by simp) o e
  item := by
    intro X hP hw hK hc i pins s σ H E I hf st hg
    subst hP hw hK
    obtain ⟨xs, x, hq, hx⟩ := hg
    obtain ⟨its, rv, p, hz⟩ := I.list hq
    obtain ⟨u, hu, ru⟩ := rv.get hx
    obtain ⟨f0, f1, f2, f3, f4, f5⟩ := hf it (by simp)
    refine wpAny_pyNext_list_item st p.isList (x := u) (by simpa using hu) fun h' st' sb => ?_
    have I1 : Inv X pins σ H { s with heap := h' } := I.turned (t' := s.toks) (fun b o hb e => (sb.2 b hb).trans e) f0 f1 f3 f4 f5
    obtain ⟨o, e, c, d⟩ := id st'
    exact ⟨u, rfl, go_of (s := { s with heap := h' }) e c d (by decide) ⟨x, H, I1, ru, ⟨rfl, fun ys hy => by rw [I.list_inj hy hq]; exact hx⟩, st', fun b hb => (hf b hb).1⟩⟩
  done := by
    intro X hP hw hK hc i pins s σ H E I hf st hg
    subst hP hw hK
    obtain ⟨xs, hq, hx⟩ := hg
    obtain ⟨its, rv, p, hz⟩ := I.list hq
    obtain ⟨f0, f1, f2, f3, f4, f5⟩ := hf it (by simp)
    have hl := rv.length
    exact wpAny_pyNext_list_end (I.ok.hd hc) st p.isList (by simp; omega) fun h' eb => ⟨rfl, I.turned (t' := s.toks) (fun b o hb e => eb b o hb e) f0 f1 f3 f4 f5⟩
  self := fun _ _ _ _ _ st h => wpAny_pyIter_listiter st h
theorem turn_range {P : Program} {w : World} {K : PySem.W.Frag} {tg : Expr} (it : Addr) (lo : Int) (n : Nat) : Turn P w K tg (Itr lo n) [it] it (fun i h => IsRangeIter h it (lo + (i : Nat) * 1) ((n : Int) - (i : Nat)) 1) where
  mem := by simp
  obj := fun i h st b hb => by
    have e : b = it := by simpa using hb
    subst e
    exact ⟨_, st, fun v z => by
      have z' : Data.fields _ = Data.cell v := z
      cases z'⟩
  keep := fun i h h' st k => k it (by simp) _ st
  item := by
    intro X hP hw hK hc i pins s σ H E I hf st hg
    subst hP hw hK
    obtain ⟨f0, f1, f2, f3, f4, f5⟩ := hf it (by simp)
    have W := Walks.range (prog := X.prog) (w := X.w) (I.ok.hd hc) it lo 1 n
    refine W.item i s _ _ hg st fun v h' tk hv st' kk => ?_
    obtain ⟨t, rfl⟩ := hv
    have I1 : Inv X pins σ H { s with heap := h', toks := tk } := I.turned (fun b o hb e => kk b o (by simpa using hb) e) f0 f1 f3 f4 f5
    refine ⟨_, rfl, go_of (s := { s with heap := h', toks := tk }) (n := "range_iterator") st' rfl rfl (by decide) ⟨.int (lo + i), H, I1, ⟨t, ?_⟩, ⟨rfl, rfl⟩, st', fun b hb => (hf b hb).1⟩⟩
    rw [Int.mul_one]
  done := by
    intro X hP hw hK hc i pins s σ H E I hf st hg
    subst hP hw hK
    obtain ⟨f0, f1, f2, f3, f4, f5⟩ := hf it (by simp)
    exact wpAny_pyNext_range_end (I.ok.hd hc) st (by have : n ≤ i := hg; omega) fun h' eb => ⟨rfl, I.turned (t' := s.toks) (fun b o hb e => eb b o hb e) f0 f1 f3 f4 f5⟩
  self := fun _ _ _ _ _ st h => wpAny_pyIter_rangeiter st h
end L2

namespace L2
open PySem PySem.Spec PyProof.Rows
section
variable {X : Cx} {tg : Expr}
def iList (K : PySem.W.Frag) (tl : TE) : TI := fun σ H R => tl σ H fun x H1 => ∃ a, x = .ref a ∧ (∃ xs, SqL K H1 a xs) ∧ R (Itl K a) H1
theorem pi_list {l : Expr} {tl : TE} (hl : PE X l tl) : PI X tg l (iList X.K tl) := by
  intro pins s σ H R I h
  refine thn (hl pins s σ H _ I h) fun v s1 ⟨x, H1, I1, r1, q1⟩ => ?_
  obtain ⟨a, e, ⟨xs, hq⟩, q⟩ := q1
  subst e
  cases r1
  obtain ⟨its, rv, p, hz⟩ := I1.list hq
  refine wpAny_pyIter_list p.isList ?_
  refine ⟨s1.heap.objs.size, [s1.heap.objs.size], _, _, H1, rfl, I1.kept (t' := s1.toks) fun b o e => Heap.get?_push_of_some _ e, turn_list a _, ⟨_, Heap.get?_push_size _ rfl, rfl, rfl⟩, fun b hb => ?_, q⟩
  have e : b = s1.heap.objs.size := by simpa using hb
  subst e
  exact I1.fpOk (Nat.le_refl _) (I1.hok.fresh (Nat.le_refl _))
/-- a range object just made, walked -/
theorem range_it {pins : List (Addr × Obj)} {σ : St} {H : Hp} {s : Shared} {R : It → Hp → Prop} {E : Value → Shared → Prop} {lo hi : Int} {t u v : Tok} {tk : Nat} (I : Inv X pins σ H s) (h1 : -(2 ^ 62) ≤ lo) (h2 : lo < 2 ^ 62) (h3 : -(2 ^ 62) ≤ hi) (h4 : hi < 2 ^ 62)
    (q : R (Itr lo (hi - lo).toNat) H) : wpAny (model X.prog X.w) X.A (pyIter (.ref s.heap.objs.size)) (PIE X pins σ tg R) E { s with heap := s.heap.push { cls := .type "range", data := .fields #[.int lo t, .int hi u, .int 1 v] }, toks := tk } := by
  refine wpAny_pyIter_range (IsRange.new ..) (small_one h1 h2 h3 h4) ?_
  have I1 : Inv X pins σ H { s with heap := s.heap.push { cls := .type "range", data := .fields #[.int lo t, .int hi u, .int 1 v] }, toks := tk } := I.kept fun b o e => Heap.get?_push_of_some _ e
  refine ⟨(s.heap.push { cls := .type "range", data := .fields #[.int lo t, .int hi u, .int 1 v] }).objs.size, [(s.heap.push { cls := .type "range", data := .fields #[.int lo t, .int hi u, .int 1 v] }).objs.size], _, _, H, rfl,
    I1.kept (t' := tk) fun b o e => Heap.get?_push_of_some _ e, turn_range _ lo (hi - lo).toNat, ?_, fun b hb => ?_, q⟩
  · have e1 : lo + ((0 : Nat) : Int) * 1 = lo := by simp
    have e2 : (((hi - lo).toNat : Nat) : Int) - ((0 : Nat) : Int) = Builtin.Range.rangeSize lo hi 1 := by rw [rangeSize_one]; split <;> omega
    show IsRangeIter _ _ (lo + ((0 : Nat) : Int) * 1) ((((hi - lo).toNat : Nat) : Int) - ((0 : Nat) : Int)) 1
    rw [e1, e2]
    exact Heap.get?_push_size _ rfl
  · have e : b = (s.heap.push { cls := .type "range", data := .fields #[.int lo t, .int hi u, .int 1 v] }).objs.size := by simpa using hb
    subst e
    exact I1.fpOk (Nat.le_refl _) (I1.hok.fresh (Nat.le_refl _))
def iRng1 (ta : TA) : TI := fun σ H R => ta σ H fun vs H1 => ∃ j : Int, vs = [.int j] ∧ -(2 ^ 62) ≤ j ∧ j < 2 ^ 62 ∧ R (Itr 0 j.toNat) H1
theorem pi_range1 {a : Expr} {ta : TA} {p pos : Pos} (hg : Gl X "range") (hm : X.mg "range" = none) (ha : PA X [a] ta) (hs : starEach [a] X.env = [(false, eval a X.env)] := by rfl) : PI X tg (.Call (.Name "range" p) [a] [] pos) (iRng1 ta) := by
  intro pins s σ H R I h
  refine Call_ (ld_blt I hg hm boot_range (PyProof.Rows.callWith_type1 (thn (ha pos pins s σ H _ I h) fun us s1 ⟨vs, H1, I1, r1, q1⟩ => ?_) hs rfl))
  obtain ⟨j, e, q1, q2, q⟩ := q1
  subst e
  cases r1 with
  | cons r rr =>
    cases rr
    obtain ⟨t, rfl⟩ := r
    exact call_range_1 (range_it I1 (by omega) (by omega) q1 q2 (by simpa using q))
/-! ### for -/
/-- W: the invariant by the turn and a measure; N: what the body is to reach -/
def tFor (wi : TI) (g : TG) (tb : TS) : TS := fun D σ H => wi σ H fun J H1 => ∃ W : Nat → Nat → St → Hp → Prop, (∃ m, W 0 m σ H1) ∧ ∀ i m σ H, W i m σ H →
  (J.stop i H ∧ D.nx σ H) ∨ (J.go i H ∧ ∃ N : St → Hp → Prop, (∀ σ' H', N σ' H' → ∃ m', m' < m ∧ W (i + 1) m' σ' H') ∧ ∀ x H', J.yld i H x H' → g x σ H' fun σ2 H2 => tb { D with nx := N, ct := N, bk := D.nx } σ2 H2)
/-- the records at fp as they stand -/
def pinsAt (fp : List Addr) (h : Heap) : List (Addr × Obj) := fp.filterMap fun b => (h.get? b).map fun o => (b, o)
theorem mem_pinsAt {fp : List Addr} {h : Heap} {b : Addr} {o : Obj} (hb : b ∈ fp) (e : h.get? b = some o) : (b, o) ∈ pinsAt fp h := List.mem_filterMap.mpr ⟨b, hb, by rw [e]; rfl⟩
theorem of_pinsAt {fp : List Addr} {h : Heap} {p : Addr × Obj} (hp : p ∈ pinsAt fp h) : p.1 ∈ fp ∧ h.get? p.1 = some p.2 := by
  obtain ⟨b, hb, e⟩ := List.mem_filterMap.mp hp
  cases q : h.get? b with
  | none => rw [q] at e; cases e
  | some o =>
    rw [q] at e
    have e' : (b, o) = p := Option.some.inj e
    subst e'
    exact ⟨hb, q⟩
theorem Inv.pinned {pins : List (Addr × Obj)} {σ : St} {H : Hp} {s : Shared} {fp : List Addr} (I : Inv X pins σ H s) (hf : ∀ b ∈ fp, FpOk X pins H b) (ho : ∀ b ∈ fp, ∃ o, s.heap.get? b = some o ∧ ∀ v, o.data ≠ .cell v) : Inv X (pins ++ pinsAt fp s.heap) σ H s :=
  I.pins_of fun p hp => (List.mem_append.mp hp).elim (fun z => I.pin p (List.mem_append_right _ z)) fun z => by
    obtain ⟨hb, e⟩ := of_pinsAt z
    obtain ⟨f0, f1, f2, _⟩ := hf p.1 hb
    obtain ⟨o, e', d⟩ := ho p.1 hb
    rw [e] at e'; cases e'
    exact ⟨e, f0, f1, f2, d⟩
theorem Inv.unpinned {pins pl : List (Addr × Obj)} {σ : St} {H : Hp} {s : Shared} (I : Inv X (pins ++ pl) σ H s) : Inv X pins σ H s := I.pins_of fun p hp => I.pin p (List.mem_append_right _ (List.mem_append_left _ hp))
theorem ps_for {iter : Expr} {body : List Stmt} {wi : TI} {g : TG} {tb : TS} {pos : Pos} (hp : PassesOwn (model X.prog X.w) X.A X.env X.xe) (hc : X.calm = true) (hi : PI X tg iter wi) (hg : PG X tg g) (hb : PSs X body tb)
    (hs : ∀ x, foldedSetIterable iter X.env x = pure x := by intro _; rfl) : PS X (.For tg iter body [] pos) (tFor wi g tb) := by
  intro pins s σ H D I h
  refine wpAny_For (thn (hi pins s σ H _ I h) fun v s1 h1 => thn h1 fun itv s2 h2 => ?_) hs
  obtain ⟨it, fp, tn, J, H2, e, I2, T, st2, f2, W, ⟨m0, w0⟩, turn⟩ := h2
  subst e
  -- what stays true of the iterator's objects through the loop
  have stat : ∀ {H' : Hp}, (∀ b ∈ fp, H' b = none) → ∀ b ∈ fp, FpOk X pins H' b := fun hn b hb => ⟨hn b hb, (f2 b hb).2⟩
  refine codeAny_forLoop_any (fun n s' => ∃ i σ' H', Inv X pins σ' H' s' ∧ tn i s'.heap ∧ (∀ b ∈ fp, H' b = none) ∧ W i n σ' H') ?_ m0 ⟨0, σ, H2, I2, st2, fun b hb => (f2 b hb).1, w0⟩
  rintro n s3 ⟨i, σ3, H3, I3, st3, fr3, w3⟩
  rcases turn i n σ3 H3 w3 with ⟨stop, qn⟩ | ⟨go, N, hN, step⟩
  · refine wpAny_passesOwn hp (thn (T.done X rfl rfl rfl hc i pins s3 σ3 H3 X.xe I3 (stat fr3) st3 stop) fun r s4 ⟨hr, I4⟩ => ?_)
    subst hr
    exact wpAny_execs_nil ⟨σ3, H3, I4, qn⟩
  · refine wpAny_passesOwn hp (thn (T.item X rfl rfl rfl hc i pins s3 σ3 H3 X.xe I3 (stat fr3) st3 go) fun r s4 ⟨u, hr, h4⟩ => ?_)
    subst hr
    refine wpAny_passesOwn hp (thn h4 fun _ s5 ⟨x, H5, I5, r5, y5, st5, fr5⟩ => ?_)
    have I5' := I5.pinned (stat fr5) (T.obj _ _ st5)
    refine wpAny_passesOwn hp (thn (hg _ s5 σ3 H5 x u _ I5' r5 (step x H5 y5)) fun _ s6 ⟨σ6, H6, I6, q6⟩ => ?_)
    refine wpAny_passesOwn hp (thn (hb _ s6 σ6 H6 _ I6 q6) fun f s7 q7 => ?_)
    have again : ∀ {σ7 : St} {H7 : Hp}, Inv X (pins ++ pinsAt fp s5.heap) σ7 H7 s7 → N σ7 H7 → ∃ m, m < n ∧ ∃ i σ' H', Inv X pins σ' H' s7 ∧ tn i s7.heap ∧ (∀ b ∈ fp, H' b = none) ∧ W i m σ' H' := fun {σ7 H7} I7 n7 => by
      obtain ⟨m', hm, w7⟩ := hN σ7 H7 n7
      refine ⟨m', hm, i + 1, σ7, H7, I7.unpinned, T.keep _ _ _ st5 fun b hb o e => (I7.pin (b, o) (List.mem_append_right _ (List.mem_append_right _ (mem_pinsAt hb e)))).1, fun b hb => ?_, w7⟩
      obtain ⟨o, e, d⟩ := T.obj _ _ st5 b hb
      exact (I7.pin (b, o) (List.mem_append_right _ (List.mem_append_right _ (mem_pinsAt hb e)))).2.1
    cases f with
    | next => obtain ⟨σ7, H7, I7, n7⟩ := q7; exact again I7 n7
    | cont => obtain ⟨σ7, H7, I7, n7⟩ := q7; exact again I7 n7
    | brk => obtain ⟨σ7, H7, I7, q7⟩ := q7; exact ⟨σ7, H7, I7.unpinned, q7⟩
    | ret v => obtain ⟨x7, σ7, H7, I7, r7, q7⟩ := q7; exact ⟨x7, σ7, H7, I7.unpinned, r7, q7⟩
end

/-! ### the forms one uses -/
/-- over a list that the body leaves as it is -/
theorem for_list {K : PySem.W.Frag} {a : Addr} {xs : List V} {g : TG} {tb : TS} {D : Ends} {σ : St} {H : Hp} (Pv : Nat → St → Hp → Prop) (h0 : Pv 0 σ H) (hl : ∀ i σ H, i ≤ xs.length → Pv i σ H → SqL K H a xs)
    (hs : ∀ i x σ H, xs[i]? = some x → Pv i σ H → g x σ H fun σ2 H2 => tb { D with nx := Pv (i + 1), ct := Pv (i + 1), bk := D.nx } σ2 H2) (hd : ∀ σ H, Pv xs.length σ H → D.nx σ H) :
    ∃ W : Nat → Nat → St → Hp → Prop, (∃ m, W 0 m σ H) ∧ ∀ i m σ H, W i m σ H →
      ((Itl K a).stop i H ∧ D.nx σ H) ∨ ((Itl K a).go i H ∧ ∃ N : St → Hp → Prop, (∀ σ' H', N σ' H' → ∃ m', m' < m ∧ W (i + 1) m' σ' H') ∧ ∀ x H', (Itl K a).yld i H x H' → g x σ H' fun σ2 H2 => tb { D with nx := N, ct := N, bk := D.nx } σ2 H2) := by
  refine ⟨fun i m σ H => m = xs.length - i ∧ i ≤ xs.length ∧ Pv i σ H, ⟨xs.length, by simp, Nat.zero_le _, h0⟩, ?_⟩
  rintro i m σ H ⟨rfl, hi, p⟩
  have q := hl i σ H hi p
  by_cases hlt : i < xs.length
  · refine .inr ⟨⟨xs, xs[i], q, by simp [hlt]⟩, Pv (i + 1), fun σ' H' p' => ⟨xs.length - (i + 1), by omega, rfl, hlt, p'⟩, fun x H' y => ?_⟩
    obtain ⟨e, y⟩ := y
    subst e
    exact hs i x σ _ (y xs q) p
  · have e : i = xs.length := by omega
    subst e
    exact .inl ⟨⟨xs, q, Nat.le_refl _⟩, hd σ H p⟩
theorem for_range {lo : Int} {n : Nat} {g : TG} {tb : TS} {D : Ends} {σ : St} {H : Hp} (Pv : Nat → St → Hp → Prop) (h0 : Pv 0 σ H)
    (hs : ∀ i σ H, i < n → Pv i σ H → g (.int (lo + i)) σ H fun σ2 H2 => tb { D with nx := Pv (i + 1), ct := Pv (i + 1), bk := D.nx } σ2 H2) (hd : ∀ σ H, Pv n σ H → D.nx σ H) :
    ∃ W : Nat → Nat → St → Hp → Prop, (∃ m, W 0 m σ H) ∧ ∀ i m σ H, W i m σ H →
      ((Itr lo n).stop i H ∧ D.nx σ H) ∨ ((Itr lo n).go i H ∧ ∃ N : St → Hp → Prop, (∀ σ' H', N σ' H' → ∃ m', m' < m ∧ W (i + 1) m' σ' H') ∧ ∀ x H', (Itr lo n).yld i H x H' → g x σ H' fun σ2 H2 => tb { D with nx := N, ct := N, bk := D.nx } σ2 H2) := by
  refine ⟨fun i m σ H => m = n - i ∧ i ≤ n ∧ Pv i σ H, ⟨n, by simp, Nat.zero_le _, h0⟩, ?_⟩
  rintro i m σ H ⟨rfl, hi, p⟩
  by_cases hlt : i < n
  · refine .inr ⟨hlt, Pv (i + 1), fun σ' H' p' => ⟨n - (i + 1), by omega, rfl, hlt, p'⟩, fun x H' y => ?_⟩
    obtain ⟨e, y⟩ := y
    subst e y
    exact hs i σ _ hlt p
  · have e : i = n := by omega
    subst e
    exact .inl ⟨Nat.le_refl _, hd σ H p⟩
end L2

namespace L2
open PySem PySem.Spec PyProof.Rows

abbrev R2 := V → V → Hp → VK → Prop
/-- a two-place operation on values: f is binaryOp op, inplaceOp op or compareOp op -/
def OpR (X : Cx) (f : Value → Value → Sem Value) (r : R2) : Prop :=
  ∀ (pins : List (Addr × Obj)) (s : Shared) (σ : St) (H : Hp) (x y : V) (v u : Value) (Q : VK), Inv X pins σ H s → RelV x v → RelV y u → r x y H Q →
    wpAny (model X.prog X.w) X.A (f v u) (EP X pins σ Q) X.xe s
/-- a one-place operation -/
def UnR (X : Cx) (f : Value → Sem Value) (r : V → Hp → VK → Prop) : Prop :=
  ∀ (pins : List (Addr × Obj)) (s : Shared) (σ : St) (H : Hp) (x : V) (v : Value) (Q : VK), Inv X pins σ H s → RelV x v → r x H Q →
    wpAny (model X.prog X.w) X.A (f v) (EP X pins σ Q) X.xe s
/-- a call of a value that is known (a builtin, a type) with values -/
def CallR (X : Cx) (f : Value) (r : List V → Hp → VK → Prop) : Prop :=
  ∀ (pins : List (Addr × Obj)) (s : Shared) (σ : St) (H : Hp) (xs : List V) (us : List Value) (Q : VK), Inv X pins σ H s → Vals xs us → r xs H Q →
    wpAny (model X.prog X.w) X.A (call f us) (EP X pins σ Q) X.xe s
def tOp (r : R2) (ta tb : TE) : TE := fun σ H Q => ta σ H fun x H1 => tb σ H1 fun y H2 => r x y H2 Q
def tUn (r : V → Hp → VK → Prop) (ta : TE) : TE := fun σ H Q => ta σ H fun x H1 => r x H1 Q
/-- ints in, under C, and a value out -/
def rI (C : Int → Int → Prop) (g : Int → Int → V) : R2 := fun x y H Q => ∃ i j, x = .int i ∧ y = .int j ∧ C i j ∧ Q (g i j) H
def rI0 (g : Int → Int → V) : R2 := fun x y H Q => ∃ i j, x = .int i ∧ y = .int j ∧ Q (g i j) H
def rU (g : Int → V) : V → Hp → VK → Prop := fun x H Q => ∃ i, x = .int i ∧ Q (g i) H

section
variable {X : Cx} {a b c : Expr} {ta tb tc : TE} {pos : Pos}

theorem binT (ha : PE X a ta) (hb : PE X b tb) {pins : List (Addr × Obj)} {s : Shared} {σ : St} {H : Hp} {R : V → V → Hp → Prop} (I : Inv X pins σ H s)
    (h : ta σ H fun x H1 => tb σ H1 fun y H2 => R x y H2) {Q : Value → Shared → Prop} {f : Value → Value → Sem Value}
    (hf : ∀ v u s2 x y H2, Inv X pins σ H2 s2 → RelV x v → RelV y u → R x y H2 → wpAny (model X.prog X.w) X.A (f v u) Q X.xe s2) :
    wpAny (model X.prog X.w) X.A (eval a X.env) (fun v s₁ => wpAny (model X.prog X.w) X.A (eval b X.env) (fun u s₂ => wpAny (model X.prog X.w) X.A (f v u) Q X.xe s₂) X.xe s₁) X.xe s := by
  refine thn (ha pins s σ H _ I h) fun v s1 ⟨x, H1, I1, r1, q1⟩ => ?_
  refine thn (hb pins s1 σ H1 _ I1 q1) fun u s2 ⟨y, H2, I2, r2, q2⟩ => ?_
  exact hf v u s2 x y H2 I2 r1 r2 q2

theorem pe_op {op : Operator} {r : R2} (ho : OpR X (binaryOp op) r) (ha : PE X a ta) (hb : PE X b tb) : PE X (.BinOp a op b pos) (tOp r ta tb) := by
  intro pins s σ H Q I h
  exact wpAny_BinOp (binT ha hb I h fun v u s2 x y H2 I2 rx ry q => ho pins s2 σ H2 x y v u Q I2 rx ry q)
theorem pe_un {op : UnaryOp} {r : V → Hp → VK → Prop} (ho : UnR X (unaryOp op) r) (ha : PE X a ta) : PE X (.UnaryOp op a pos) (tUn r ta) := by
  intro pins s σ H Q I h
  exact UnaryOp_ (thn (ha pins s σ H _ I h) fun v s1 ⟨x, H1, I1, r1, q1⟩ => ho pins s1 σ H1 x v Q I1 r1 q1)
/-! ### ints -/
theorem opI {f : Value → Value → Sem Value} {C : Int → Int → Prop} {g : Int → Int → Int}
    (rule : ∀ (i j : Int) (t u : Tok) (s : Shared) (Q : Value → Shared → Prop) (E : Value → Shared → Prop), C i j → Q (.int (g i j) s.toks) { s with toks := s.toks + 1 } → wpAny (model X.prog X.w) X.A (f (.int i t) (.int j u)) Q E s) :
    OpR X f (rI C fun i j => .int (g i j)) := by
  intro pins s σ H x y v u Q I rx ry h
  obtain ⟨i, j, rfl, rfl, hc, q⟩ := h
  obtain ⟨t, rfl⟩ := rx
  obtain ⟨t', rfl⟩ := ry
  exact rule i j t t' s _ _ hc ⟨.int (g i j), H, I.tok _, ⟨_, rfl⟩, q⟩
theorem opI0 {f : Value → Value → Sem Value} {g : Int → Int → Int}
    (rule : ∀ (i j : Int) (t u : Tok) (s : Shared) (Q : Value → Shared → Prop) (E : Value → Shared → Prop), Q (.int (g i j) s.toks) { s with toks := s.toks + 1 } → wpAny (model X.prog X.w) X.A (f (.int i t) (.int j u)) Q E s) :
    OpR X f (rI0 fun i j => .int (g i j)) := by
  intro pins s σ H x y v u Q I rx ry h
  obtain ⟨i, j, rfl, rfl, q⟩ := h
  obtain ⟨t, rfl⟩ := rx
  obtain ⟨t', rfl⟩ := ry
  exact rule i j t t' s _ _ ⟨.int (g i j), H, I.tok _, ⟨_, rfl⟩, q⟩
theorem opB0 {f : Value → Value → Sem Value} {g : Int → Int → Bool}
    (rule : ∀ (i j : Int) (t u : Tok) (s : Shared) (Q : Value → Shared → Prop) (E : Value → Shared → Prop), Q (.bool (g i j)) s → wpAny (model X.prog X.w) X.A (f (.int i t) (.int j u)) Q E s) :
    OpR X f (rI0 fun i j => .bl (g i j)) := by
  intro pins s σ H x y v u Q I rx ry h
  obtain ⟨i, j, rfl, rfl, q⟩ := h
  obtain ⟨t, rfl⟩ := rx
  obtain ⟨t', rfl⟩ := ry
  exact rule i j t t' s _ _ ⟨.bl (g i j), H, I, rfl, q⟩

def CDiv (i j : Int) : Prop := 0 < j ∧ j < 1073741824
def CMul (i j : Int) : Prop := (-(2 ^ 64) < i ∧ i < 2 ^ 64) ∨ (-(2 ^ 64) < j ∧ j < 2 ^ 64)
theorem CMul.ok {i j : Int} (h : CMul i j) : IntMulOk i j := by
  rcases h with ⟨h1, h2⟩ | ⟨h1, h2⟩
  · exact .of_left (intBits_le_64 h1 h2)
  · exact .of_right (intBits_le_64 h1 h2)
theorem op_add : OpR X (binaryOp .Add) (rI0 fun i j => .int (i + j)) := opI0 fun _ _ _ _ _ _ _ q => add_int q
theorem op_sub : OpR X (binaryOp .Sub) (rI0 fun i j => .int (i - j)) := opI0 fun _ _ _ _ _ _ _ q => sub_int q
theorem op_mul : OpR X (binaryOp .Mult) (rI CMul fun i j => .int (i * j)) := opI fun _ _ _ _ _ _ _ hc q => mul_int q hc.ok
/-- // by a positive divisor -/
theorem op_fdiv : OpR X (binaryOp .FloorDiv) (rI CDiv fun i j => .int (i / j)) := opI fun i j _ _ _ _ _ hc q => by
  have h1 : (0 : Int) < j := hc.1
  have h2 : j < 1073741824 := hc.2
  exact floordiv_int (by omega) (by rw [Int.fdiv_eq_ediv_of_nonneg i (by omega)]; exact q) (.inl (PyProof.noPylong_small (by omega)))
/-- % by a positive divisor of any size -/
theorem op_mod : OpR X (binaryOp .Mod) (rI (fun _ j => 0 < j) fun i j => .int (i % j)) := opI fun i j _ _ _ _ _ hc q => by
  have h1 : (0 : Int) < j := hc
  exact mod_int' (by omega) (by rw [Int.fmod_eq_emod_of_nonneg i (by omega)]; exact q)
theorem unI {f : Value → Sem Value} {g : Int → Int}
    (rule : ∀ (i : Int) (t : Tok) (s : Shared) (Q : Value → Shared → Prop) (E : Value → Shared → Prop), Q (.int (g i) s.toks) { s with toks := s.toks + 1 } → wpAny (model X.prog X.w) X.A (f (.int i t)) Q E s) :
    UnR X f (rU fun i => .int (g i)) := by
  intro pins s σ H x v Q I rx h
  obtain ⟨i, rfl, q⟩ := h
  obtain ⟨t, rfl⟩ := rx
  exact rule i t s _ _ ⟨.int (g i), H, I.tok _, ⟨_, rfl⟩, q⟩
theorem un_neg : UnR X (unaryOp .USub) (rU fun i => .int (-i)) := unI fun _ _ _ _ _ q => neg_int q
/-! ### bools among ints: n += (a < b) -/
end

/-! ### comparisons -/
/-- the scalars that == tells apart as data does -/
def scal : V → V → Bool
  | .non, .non => true | .non, .int _ => true | .int _, .non => true | .non, .bl _ => true | .bl _, .non => true | .non, .str _ => true | .str _, .non => true
  | .int _, .int _ => true | .bl _, .bl _ => true | .str _, .str _ => true | .byt _, .byt _ => true
  | .int _, .str _ => true | .str _, .int _ => true | .bl _, .str _ => true | .str _, .bl _ => true
  | _, _ => false
def rEq : R2 := fun x y H Q => scal x y = true ∧ Q (.bl (decide (x = y))) H
def rNe : R2 := fun x y H Q => scal x y = true ∧ Q (.bl (!decide (x = y))) H

theorem dec_int {i j : Int} : decide (V.int i = V.int j) = (i == j) := by
  rw [Bool.eq_iff_iff]
  simp
theorem dec_bl {i j : Bool} : decide (V.bl i = V.bl j) = (i == j) := by
  rw [Bool.eq_iff_iff]
  simp
theorem dec_str {i j : Str} : decide (V.str i = V.str j) = (i == j) := by
  rw [Bool.eq_iff_iff]
  simp
theorem dec_byt {i j : Array UInt8} : decide (V.byt i = V.byt j) = (i.toList == j.toList) := by
  rw [Bool.eq_iff_iff]
  cases i
  cases j
  simp

section
variable {X : Cx} {a b c : Expr} {ta tb tc : TE} {pos : Pos}
theorem fin_bl {pins : List (Addr × Obj)} {σ : St} {H : Hp} {s : Shared} {Q : VK} {k k' : Bool} (I : Inv X pins σ H s) (q : Q (.bl k) H) (e : k = k') : EP X pins σ Q (.bool k') s := by
  subst e
  exact ⟨.bl k, H, I, rfl, q⟩
theorem op_eq : OpR X (compareOp .Eq) rEq := by
  intro pins s σ H x y v u Q I rx ry h
  obtain ⟨hs, q⟩ := h
  cases x with
  | non =>
    cases rx
    cases y with
    | non => cases ry; exact PySem.EqNone.eq_none_none (fin_bl I q (by simp))
    | bl j => cases ry; exact PySem.EqNone.eq_none_bool (fin_bl I q (by simp))
    | int j => obtain ⟨t', rfl⟩ := ry; exact PySem.EqNone.eq_none_int (fin_bl I q (by simp))
    | str j => obtain ⟨t', rfl⟩ := ry; exact PySem.EqNone.eq_none_str (fin_bl I q (by simp))
    | _ => exact absurd (show false = true from hs) Bool.false_ne_true
  | bl i =>
    cases rx
    cases y with
    | non => cases ry; exact PySem.EqNone.eq_bool_none (fin_bl I q (by simp))
    | bl j => cases ry; exact eq_bool (fin_bl I q dec_bl)
    | str j => obtain ⟨t', rfl⟩ := ry; exact PySem.EqMixed.eq_bool_str (fin_bl I q (by simp))
    | _ => exact absurd (show false = true from hs) Bool.false_ne_true
  | int i =>
    obtain ⟨t, rfl⟩ := rx
    cases y with
    | non => cases ry; exact PySem.EqNone.eq_int_none (fin_bl I q (by simp))
    | int j => obtain ⟨t', rfl⟩ := ry; exact eq_int (fin_bl I q dec_int)
    | str j => obtain ⟨t', rfl⟩ := ry; exact PySem.EqMixed.eq_int_str (fin_bl I q (by simp))
    | _ => exact absurd (show false = true from hs) Bool.false_ne_true
  | str i =>
    obtain ⟨t, rfl⟩ := rx
    cases y with
    | non => cases ry; exact PySem.EqNone.eq_str_none (fin_bl I q (by simp))
    | bl j => cases ry; exact PySem.EqMixed.eq_str_bool (fin_bl I q (by simp))
    | int j => obtain ⟨t', rfl⟩ := ry; exact PySem.EqMixed.eq_str_int (fin_bl I q (by simp))
    | str j => obtain ⟨t', rfl⟩ := ry; exact eq_str (fin_bl I q dec_str)
    | _ => exact absurd (show false = true from hs) Bool.false_ne_true
  | byt i =>
    obtain ⟨t, rfl⟩ := rx
    cases y with
    | byt j => obtain ⟨t', rfl⟩ := ry; exact PySem.W.eq_bytes (fin_bl I q dec_byt)
    | _ => exact absurd (show false = true from hs) Bool.false_ne_true
  | _ => cases y <;> exact absurd (show false = true from hs) Bool.false_ne_true
theorem op_ne : OpR X (compareOp .NotEq) rNe := by
  intro pins s σ H x y v u Q I rx ry h
  obtain ⟨hs, q⟩ := h
  cases x with
  | non =>
    cases rx
    cases y with
    | non => cases ry; exact PySem.EqNone.ne_none_none (fin_bl I q (by simp))
    | bl j => cases ry; exact PySem.EqNone.ne_none_bool (fin_bl I q (by simp))
    | int j => obtain ⟨t', rfl⟩ := ry; exact PySem.EqNone.ne_none_int (fin_bl I q (by simp))
    | str j => obtain ⟨t', rfl⟩ := ry; exact PySem.EqNone.ne_none_str (fin_bl I q (by simp))
    | _ => exact absurd (show false = true from hs) Bool.false_ne_true
  | bl i =>
    cases rx
    cases y with
    | non => cases ry; exact PySem.EqNone.ne_bool_none (fin_bl I q (by simp))
    | bl j => cases ry; exact ne_bool (fin_bl I q (congrArg not dec_bl))
    | str j => obtain ⟨t', rfl⟩ := ry; exact PySem.EqMixed.ne_bool_str (fin_bl I q (by simp))
    | _ => exact absurd (show false = true from hs) Bool.false_ne_true
  | int i =>
    obtain ⟨t, rfl⟩ := rx
    cases y with
    | non => cases ry; exact PySem.EqNone.ne_int_none (fin_bl I q (by simp))
    | int j => obtain ⟨t', rfl⟩ := ry; exact ne_int (fin_bl I q (congrArg not dec_int))
    | str j => obtain ⟨t', rfl⟩ := ry; exact PySem.EqMixed.ne_int_str (fin_bl I q (by simp))
    | _ => exact absurd (show false = true from hs) Bool.false_ne_true
  | str i =>
    obtain ⟨t, rfl⟩ := rx
    cases y with
    | non => cases ry; exact PySem.EqNone.ne_str_none (fin_bl I q (by simp))
    | bl j => cases ry; exact PySem.EqMixed.ne_str_bool (fin_bl I q (by simp))
    | int j => obtain ⟨t', rfl⟩ := ry; exact PySem.EqMixed.ne_str_int (fin_bl I q (by simp))
    | str j => obtain ⟨t', rfl⟩ := ry; exact ne_str (fin_bl I q (congrArg not dec_str))
    | _ => exact absurd (show false = true from hs) Bool.false_ne_true
  | byt i =>
    obtain ⟨t, rfl⟩ := rx
    cases y with
    | byt j => obtain ⟨t', rfl⟩ := ry; exact PySem.W.ne_bytes (fin_bl I q (congrArg not dec_byt))
    | _ => exact absurd (show false = true from hs) Bool.false_ne_true
  | _ => cases y <;> exact absurd (show false = true from hs) Bool.false_ne_true

theorem op_lt : OpR X (compareOp .Lt) (rI0 fun i j => .bl (decide (i < j))) := opB0 fun _ _ _ _ _ _ _ q => lt_int q
theorem op_gt : OpR X (compareOp .Gt) (rI0 fun i j => .bl (decide (j < i))) := opB0 fun _ _ _ _ _ _ _ q => gt_int q
theorem op_ge : OpR X (compareOp .GtE) (rI0 fun i j => .bl (decide (j ≤ i))) := opB0 fun _ _ _ _ _ _ _ q => ge_int q
/-- is None, is not None: the right side a value none -/
theorem op_isN : OpR X (compareOp .Is) (fun x y H Q => y = .non ∧ Q (.bl (decide (x = .non))) H) := by
  intro pins s σ H x y v u Q I rx ry h
  obtain ⟨rfl, q⟩ := h
  cases ry
  refine is_none_gen (fin_bl I q ?_)
  cases x <;> first
    | (cases rx; rfl)
    | (obtain ⟨t, rfl⟩ := rx; rfl)
/-- two rules for one operation: by cases -/
theorem OpR.or {f : Value → Value → Sem Value} {r r' : R2} (h : OpR X f r) (h' : OpR X f r') : OpR X f (fun x y H Q => r x y H Q ∨ r' x y H Q) := by
  intro pins s σ H x y v u Q I rx ry q
  rcases q with q | q
  · exact h pins s σ H x y v u Q I rx ry q
  · exact h' pins s σ H x y v u Q I rx ry q

theorem nomark (b : Expr) {op : CmpOp} (h : op ≠ .In := by decide) (h2 : op ≠ .NotIn := by decide) : behindInMarks op b = false := by
  have e1 : (op == CmpOp.In) = false := by cases op <;> first | rfl | exact absurd rfl h
  have e2 : (op == CmpOp.NotIn) = false := by cases op <;> first | rfl | exact absurd rfl h2
  cases b <;> simp [behindInMarks, e1, e2]
/-- a comparison as a value; hm: nomark b, or (for in, not in) by with_unfolding_all rfl -/
theorem pe_cmpR {op : CmpOp} {r : R2} (ho : OpR X (compareOp op) r) (ha : PE X a ta) (hb : PE X b tb) (hm : behindInMarks op b = false) : PE X (.Compare a [op] [b] pos) (tOp r ta tb) := by
  intro pins s σ H Q I h
  exact wpAny_Compare1 (binT ha hb I h fun v u s2 x y H2 I2 rx ry q => ho pins s2 σ H2 x y v u Q I2 rx ry q) hm
/-- a reading of a value as a test -/
def tTest (t : TE) : TT := fun σ H Q => t σ H fun x H' => ∃ k, x = .bl k ∧ Q k H'
theorem pt_cmpR {op : CmpOp} {r : R2} (ho : OpR X (compareOp op) r) (ha : PE X a ta) (hb : PE X b tb) (hm : behindInMarks op b = false) : PT X (.Compare a [op] [b] pos) (tTest (tOp r ta tb)) := by
  intro pins s σ H Q I h
  refine wpAny_isTrue_Compare1 (thn (ha pins s σ H _ I h) fun v s1 ⟨x, H1, I1, r1, q1⟩ => thn (hb pins s1 σ H1 _ I1 q1) fun u s2 ⟨y, H2, I2, r2, q2⟩ =>
    thn (ho pins s2 σ H2 x y v u _ I2 r1 r2 q2) fun c s3 ⟨z, H3, I3, r3, k, e, q3⟩ => ?_) hm
  subst e
  cases r3
  exact wpAny_truthy_bool ⟨H3, I3, q3⟩
/-! ### truth -/
theorem line63 : (sizeLine : Nat) < 2 ^ 63 := by rw [sizeLine_eq]; decide
/-! ### strs and bytes -/
/-! ### scalar builtins, by CallR -/
theorem vals1 {x : V} {us : List Value} (r : Vals [x] us) : ∃ u, us = [u] ∧ RelV x u := by
  cases r with
  | cons r1 r2 => cases r2; exact ⟨_, rfl, r1⟩
theorem vals2 {x y : V} {us : List Value} (r : Vals [x, y] us) : ∃ u w', us = [u, w'] ∧ RelV x u ∧ RelV y w' := by
  cases r with
  | cons r1 r2 =>
    cases r2 with
    | cons r3 r4 => cases r4; exact ⟨_, _, rfl, r1, r3⟩
theorem call_max2 (hc : X.calm = true) : CallR X (.builtin "max") (fun xs H Q => ∃ i j, xs = [.int i, .int j] ∧ Q (.int (if j > i then j else i)) H) := by
  intro pins s σ H xs us Q I r h
  obtain ⟨i, j, rfl, q⟩ := h
  obtain ⟨u, w', rfl, ⟨t, rfl⟩, ⟨t', rfl⟩⟩ := vals2 r
  refine max_two_ints (I.ok.hd hc) fun h' tk k => ⟨_, H, I.kept k, ?_, q⟩
  by_cases hj : j > i
  · rw [if_pos hj, if_pos hj]; exact ⟨_, rfl⟩
  · rw [if_neg hj, if_neg hj]; exact ⟨_, rfl⟩
theorem call_min2 (hc : X.calm = true) : CallR X (.builtin "min") (fun xs H Q => ∃ i j, xs = [.int i, .int j] ∧ Q (.int (if j < i then j else i)) H) := by
  intro pins s σ H xs us Q I r h
  obtain ⟨i, j, rfl, q⟩ := h
  obtain ⟨u, w', rfl, ⟨t, rfl⟩, ⟨t', rfl⟩⟩ := vals2 r
  refine min_two_ints (I.ok.hd hc) fun h' tk k => ⟨_, H, I.kept k, ?_, q⟩
  by_cases hj : j < i
  · rw [if_pos hj, if_pos hj]; exact ⟨_, rfl⟩
  · rw [if_neg hj, if_neg hj]; exact ⟨_, rfl⟩
end
end L2

namespace L2
open PySem PySem.Spec PyProof.Rows

/-! ### an instance, its attributes a map -/
structure ObjM (h : Heap) (x dx C : Addr) (mA : Str → Option Value) : Prop where
  obj : h.get? x = some (PySem.W.instObj C dx)
  ns : h.Ns1 dx mA
  ne : dx ≠ x

theorem lookIn_ns {h : Heap} {dx : Addr} {mA : Str → Option Value} (n : h.Ns1 dx mA) : ∃ od, h.get? dx = some od ∧ ∀ name, PySem.W.lookIn name od = some (mA name) := by
  obtain ⟨o, es, ep, ho, hd, hk, _, hm⟩ := n
  refine ⟨o, ho, fun name => ?_⟩
  have e := hm name
  unfold nsFind findBy at e
  rw [← Array.find?_toList] at e
  unfold PySem.W.lookIn
  rw [hd]
  dsimp only
  split
  · rename_i y q
    rw [q] at e
    exact congrArg some e
  · rename_i q
    rw [q] at e
    have a : es.toList.any (·.refKey) = false := by
      rw [List.any_eq_false]
      intro y hy
      obtain ⟨z, t, hkey⟩ := hk y (Array.mem_toList_iff.mp hy)
      simp [DictEntry.refKey, hkey]
    have a' : ¬ es.toList.any (·.refKey) = true := by rw [a]; exact Bool.false_ne_true
    rw [if_neg a']
    exact congrArg some e

theorem ObjM.look {h : Heap} {x dx C : Addr} {mA : Str → Option Value} (I : ObjM h x dx C mA) : ∃ od, PySem.W.InstAt h x (PySem.W.instObj C dx) C (some od) ∧ ∀ name, PySem.W.lookIn name od = some (mA name) :=
  let ⟨od, ho, hl⟩ := lookIn_ns I.ns
  ⟨od, ⟨I.obj, rfl, rfl, ho⟩, hl⟩

section
variable {prog : Program} {w : World} {A : Around} {E : Value → Shared → Prop} {s : Shared} {K : PySem.W.Frag} {x dx C f : Addr} {mA : Str → Option Value} {name : Str} {v : Value}

theorem get_map {expr : Bool} {Q : Value → Shared → Prop} (X : K.In s.heap) (I : ObjM s.heap x dx C mA) (hg : PySem.W.plainGet K C name = true) (hh : PySem.W.hasDictIn K C = true)
    (ha : PySem.W.findIn K (.ref C) name = some none) (hv : mA name = some v) (hv' : PySem.W.handedIn v = true) (h : Q v { s with toks := s.toks + 1 }) :
    wpAny (model prog w) A (getAttr (.ref x) name expr) Q E s := by
  obtain ⟨od, J, hl⟩ := I.look
  exact PySem.W.get_value X J (PySem.W.plainGet_of hg).1 (PySem.W.findObj_own hh ha rfl (by rw [hl, hv])) hv' h

theorem get_meth {pl : Sem Bool} {Q : Value × List Value → Shared → Prop} (X : K.In s.heap) (I : ObjM s.heap x dx C mA) (hg : PySem.W.plainGet K C name = true)
    (hf : PySem.W.findIn K (.ref C) name = some (some (.ref f))) (ht : PySem.W.isFn K (.ref f) = true) (hv : mA name = none) (h : Q (.ref f, [.ref x]) s) :
    wpAny (model prog w) A (getMethod (.ref x) name pl) Q E s := by
  obtain ⟨od, J, hl⟩ := I.look
  exact PySem.W.method_fn X J (PySem.W.plainGet_of hg).1 (PySem.W.plainGet_of hg).2 hf (beq_iff_eq.mp ht) (by show (PySem.W.lookIn name od).map (·.isSome) = some false; rw [hl, hv]; rfl) h

theorem set_map {ns : List Str} {Q : Unit → Shared → Prop} (X : K.In s.heap) (I : ObjM s.heap x dx C mA)
    (hs : PySem.W.findIn K (.ref C) "__setattr__" = some (some (.builtin "object.__setattr__"))) (hp : PySem.W.plainOver K C = true) (ht : PySem.W.takerIn K C name = some none) (hh : PySem.W.hasDictIn K C = true)
    (hw : PySem.Within mA ns) (hsz : ns.length ≤ sizeLine)
    (h : ∀ h', ObjM h' x dx C (fun y => if y = name then some v else mA y) → Heap.SameBut dx s.heap h' → Q () { s with heap := h', toks := s.toks + 2 }) :
    wpAny (model prog w) A (setAttr (.ref x) name v) Q E s := by
  obtain ⟨od, J, hl⟩ := I.look
  refine PySem.W.set_plain X J hs (PySem.W.osa_open (s := { s with toks := s.toks + 1 }) (r := none) X J hp ht fun b => ?_)
  obtain ⟨cd, hc, hd'⟩ := PySem.W.any_some hh
  have hx : s.heap.get? x = some ⟨.ref C, some dx, .plain, #[]⟩ := I.obj
  refine wpAny_bind (wpAny_pure (wpAny_bind (wpAny_bind (wpAny_loadPart hx (wpAny_bind (PySem.W.Looks.here (s := { s with toks := s.toks + 1 }) (PySem.W.looks_clsIn X hc) ?_))))))
  rw [hd']
  refine wpAny_pure (a := some dx) (wpAny_bind (wpAny_pure (wpAny_bind ?_)))
  refine wpAny_nsSet1 (s := { s with toks := s.toks + 1 }) I.ns fun h' hn2 hs2 => ?_
  obtain ⟨oD, esD, epD, hoD, hdD, hcD⟩ := hn2.count (PySem.Within.cons name v hw)
  refine wpAny_bind (wpAny_lookBehind hoD (by rw [hdD]; exact pastItsLine_dict (Nat.le_trans hcD (by rw [List.length_cons]; omega))) ?_)
  exact wpAny_pure (h _ ⟨(hs2.2 _ (Ne.symm I.ne)).trans I.obj, hn2, I.ne⟩ hs2)

/-- C(..): the dict at the heap's end, the instance behind it; then its __init__ -/
theorem make_map {R : Result → Shared → Prop} {vs : List Value} {kw : List (Str × Value)} (X : K.In s.heap) (hm : PySem.W.makesIn K C = true)
    (hi : PySem.W.findIn K (.ref C) "__init__" = some (some (.ref f))) (hf : PySem.W.typeIn K (.ref f) = some (.type "function"))
    (h : codeAny (model prog w) (A.under (.builtin "type.__call__" ⟨.ref C :: vs, kw⟩)) (.call (.ref f) ⟨.ref (s.heap.objs.size + 1) :: vs, kw⟩) (PySem.W.InitBack (s.heap.objs.size + 1) R)
      { s with heap := (s.heap.push PySem.W.emptyDict).push (PySem.W.instObj C s.heap.objs.size) }) :
    codeAny (model prog w) A (.call (.ref C) ⟨vs, kw⟩) R s := by
  obtain ⟨hh, g, d, t, os⟩ := s
  exact PySem.W.make_core (PySem.W.makes_of X hm) (PySem.W.looks_findIn X hi) (fun self => PySem.W.bind_fn X self hf) (.inl rfl) h
end

/-! ### the attributes as a list of pairs -/
def putF (f : Str) (v : V) : List (Str × V) → List (Str × V)
  | [] => [(f, v)]
  | (g, x) :: r => if g = f then (g, v) :: r else (g, x) :: putF f v r
theorem lookup_putF (f g : Str) (v : V) : ∀ fs : List (Str × V), (putF f v fs).lookup g = if g = f then some v else fs.lookup g
  | [] => by
    show List.lookup g [(f, v)] = _
    by_cases h : g = f
    · have hb : (g == f) = true := beq_iff_eq.mpr h
      simp only [List.lookup, hb, if_pos h]
    · have hb : (g == f) = false := beq_eq_false_iff_ne.mpr h
      simp only [List.lookup, hb, if_neg h]
  | (k, x) :: r => by
    have ih := lookup_putF f g v r
    rw [show putF f v ((k, x) :: r) = (if k = f then (k, v) :: r else (k, x) :: putF f v r) from rfl]
    by_cases hk : k = f
    · rw [if_pos hk]
      by_cases h : g = k
      · have hb : (g == k) = true := beq_iff_eq.mpr h
        simp only [List.lookup, hb, if_pos (h.trans hk)]
      · have hb : (g == k) = false := beq_eq_false_iff_ne.mpr h
        simp only [List.lookup, hb, if_neg (fun e : g = f => h (e.trans hk.symm))]
    · rw [if_neg hk]
      by_cases h : g = k
      · have hb : (g == k) = true := beq_iff_eq.mpr h
        simp only [List.lookup, hb, if_neg (fun e : g = f => hk (h.symm.trans e))]
      · have hb : (g == k) = false := beq_eq_false_iff_ne.mpr h
        simp only [List.lookup, hb]
        exact ih
theorem keys_putF (f : Str) (v : V) : ∀ fs : List (Str × V), f ∈ (putF f v fs).map (·.1) ∧ ∀ g, g ∈ fs.map (·.1) → g ∈ (putF f v fs).map (·.1)
  | [] => ⟨by simp [putF], fun g h => by simp at h⟩
  | (k, x) :: r => by
    obtain ⟨i1, i2⟩ := keys_putF f v r
    rw [show putF f v ((k, x) :: r) = (if k = f then (k, v) :: r else (k, x) :: putF f v r) from rfl]
    by_cases hk : k = f
    · rw [if_pos hk]
      subst hk
      exact ⟨by simp, fun g h => by simpa using h⟩
    · rw [if_neg hk]
      refine ⟨?_, fun g h => ?_⟩
      · rw [List.map_cons]
        exact List.mem_cons_of_mem _ i1
      · rw [List.map_cons] at h ⊢
        rcases List.mem_cons.mp h with e | e
        · exact List.mem_cons.mpr (.inl e)
        · exact List.mem_cons_of_mem _ (i2 g e)
theorem length_putF (f : Str) (v : V) : ∀ fs : List (Str × V), (putF f v fs).length ≤ fs.length + 1
  | [] => by simp [putF]
  | (k, x) :: r => by
    have ih := length_putF f v r
    rw [show putF f v ((k, x) :: r) = (if k = f then (k, v) :: r else (k, x) :: putF f v r) from rfl]
    by_cases hk : k = f
    · rw [if_pos hk, List.length_cons, List.length_cons]; omega
    · rw [if_neg hk, List.length_cons, List.length_cons]; omega

theorem RelO.some_of {v : V} {o : Option Value} (r : RelO (some v) o) : ∃ u, o = some u ∧ RelV v u := by
  cases o with
  | none => exact (show False from r).elim
  | some u => exact ⟨u, rfl, r⟩
theorem RelO.none_of {o : Option Value} (r : RelO none o) : o = none := by
  cases o with
  | none => rfl
  | some u => exact (show False from r).elim
theorem handed_of {v : V} {u : Value} (r : RelV v u) : PySem.W.handedIn u = true := by
  cases v with
  | non => cases (show u = Value.none from r); rfl
  | bl b => cases (show u = Value.bool b from r); rfl
  | int i => obtain ⟨t, e⟩ := (show ∃ t, u = Value.int i t from r); cases e; rfl
  | str x => obtain ⟨t, e⟩ := (show ∃ t, u = Value.str x t from r); cases e; rfl
  | byt b => obtain ⟨t, e⟩ := (show ∃ t, u = Value.bytes b t from r); cases e; rfl
  | flt b => obtain ⟨t, e⟩ := (show ∃ t, u = Value.float b t from r); cases e; rfl
  | ref a => cases (show u = Value.ref a from r); rfl
  | ty n => cases (show u = Value.type n from r); rfl

section
variable {P : Program} {w : World} {H H' : Hp} {h h' : Heap} {a C dx : Addr} {fs fs' : List (Str × V)}
theorem ins_get (hok : HOk P w H h) (e : H a = some (.ins C dx fs)) : ∃ mA, ObjM h a dx C mA ∧ (∀ f, RelO (fs.lookup f) (mA f)) ∧ PySem.Within mA (fs.map (·.1)) ∧ fs.length ≤ 1000 ∧ H dx = some (.own a) := by
  obtain ⟨d, z, ne, ob, mA, n, r, q⟩ := (show ObjOk P w H h a (.ins C dx fs) from hok a _ e)
  exact ⟨mA, ⟨ob, n, ne⟩, r, q, z, d⟩
end

/-! ### what of the text a class must have -/
structure Cls (K : PySem.W.Frag) (C : Addr) : Prop where
  pg : PySem.W.plainGet K C Str.empty = true
  hd : PySem.W.hasDictIn K C = true
  po : PySem.W.plainOver K C = true
  sa : PySem.W.findIn K (.ref C) "__setattr__" = some (some (.builtin "object.__setattr__"))
theorem Cls.get {K : PySem.W.Frag} {C : Addr} (c : Cls K C) (f : Str) : PySem.W.plainGet K C f = true := c.pg
/-- no class of it has the name -/
def NoAttr (K : PySem.W.Frag) (C : Addr) (f : Str) : Prop := PySem.W.findIn K (.ref C) f = some none
theorem NoAttr.taker {K : PySem.W.Frag} {C : Addr} {f : Str} (n : NoAttr K C f) : PySem.W.takerIn K C f = some none := by
  unfold PySem.W.takerIn
  rw [show PySem.W.findIn K (.ref C) f = some none from n]
  rfl
/-- a method: a plain def of the class or of one above it -/
structure Meth (K : PySem.W.Frag) (C : Addr) (m : Str) (f : Addr) : Prop where
  at_ : PySem.W.findIn K (.ref C) m = some (some (.ref f))
  fn : PySem.W.isFn K (.ref f) = true
  kp : PySem.W.keepIn K (.ref f) = true

section
variable {X : Cx} {pins : List (Addr × Obj)} {σ : St} {H : Hp} {s : Shared} {a C dx : Addr} {fs : List (Str × V)} {f : Str} {v : V} {A : Around} {E : Value → Shared → Prop}

theorem getattr_ok {b : Bool} {Q : Value → Shared → Prop} (I : Inv X pins σ H s) (e : H a = some (.ins C dx fs)) (c : Cls X.K C) (n : NoAttr X.K C f) (l : fs.lookup f = some v)
    (h : ∀ u s', Inv X pins σ H s' → RelV v u → Q u s') : wpAny (model X.prog X.w) A (getAttr (.ref a) f b) Q E s := by
  obtain ⟨mA, O, r, _, _, _⟩ := ins_get I.hok e
  obtain ⟨u, hu, ru⟩ := RelO.some_of (v := v) (o := mA f) (by rw [← l]; exact r f)
  exact get_map I.kIn O (c.get f) c.hd n hu (handed_of ru) (h u _ (I.tok _) ru)

theorem getmeth_ok {m : Str} {g : Addr} {pl : Sem Bool} {Q : Value × List Value → Shared → Prop} (I : Inv X pins σ H s) (e : H a = some (.ins C dx fs)) (c : Cls X.K C) (k : Meth X.K C m g) (l : fs.lookup m = none)
    (h : Q (.ref g, [.ref a]) s) : wpAny (model X.prog X.w) A (getMethod (.ref a) m pl) Q E s := by
  obtain ⟨mA, O, r, _, _, _⟩ := ins_get I.hok e
  have hn : mA m = none := RelO.none_of (by rw [← l]; exact r m)
  exact get_meth I.kIn O (c.get m) k.at_ k.fn hn h

theorem setattr_ok {y : V} {u : Value} {Q : Unit → Shared → Prop} (I : Inv X pins σ H s) (e : H a = some (.ins C dx fs)) (c : Cls X.K C) (n : NoAttr X.K C f) (hl : fs.length < 1000) (ry : RelV y u)
    (h : ∀ s', Inv X pins σ (upd H a (.ins C dx (putF f y fs))) s' → Q () s') : wpAny (model X.prog X.w) A (setAttr (.ref a) f u) Q E s := by
  obtain ⟨mA, O, r, wi, _, ho⟩ := ins_get I.hok e
  have hz : (fs.map (·.1)).length ≤ sizeLine := by rw [List.length_map, sizeLine_eq]; omega
  refine set_map I.kIn O c.sa c.po n.taker c.hd wi hz fun h' O' sb => h _ ?_
  have hd : ∃ o, h'.get? dx = some o := let ⟨o, _, _, e', _⟩ := O'.ns; ⟨o, e'⟩
  refine I.write (x := a) (e := dx) (by rw [e]; exact True.intro) (.inr ho) (fun b q hb z => (sb.2 b hb).trans z) hd ?_
  refine ⟨by rw [upd_ne O.ne]; exact ho, ?_, O.ne, O'.obj, _, O'.ns, fun g => ?_, fun g hg => ?_⟩
  · have := length_putF f y fs; omega
  · show RelO ((putF f y fs).lookup g) (if g = f then some u else mA g)
    rw [lookup_putF]
    by_cases q : g = f
    · rw [if_pos q, if_pos q]; exact ry
    · rw [if_neg q, if_neg q]; exact r g
  · by_cases q : g = f
    · rw [q]; exact (keys_putF f y fs).1
    · refine (keys_putF f y fs).2 g (wi g fun z => hg ?_)
      show (if g = f then some u else mA g) = none
      rw [if_neg q]; exact z

/-- a new instance, tracked, without attributes -/
theorem Inv.made (I : Inv X pins σ H s) : Inv X pins σ (upd (upd H s.heap.objs.size (.own (s.heap.objs.size + 1))) (s.heap.objs.size + 1) (.ins C s.heap.objs.size []))
    { s with heap := (s.heap.push PySem.W.emptyDict).push (PySem.W.instObj C s.heap.objs.size) } := by
  have e1 : (s.heap.push PySem.W.emptyDict).get? s.heap.objs.size = some PySem.W.emptyDict := Heap.get?_push_size s.heap rfl
  have e2 : ((s.heap.push PySem.W.emptyDict).push (PySem.W.instObj C s.heap.objs.size)).get? (s.heap.objs.size + 1) = some (PySem.W.instObj C s.heap.objs.size) := by
    have := Heap.get?_push_size (s.heap.push PySem.W.emptyDict) (o := PySem.W.instObj C s.heap.objs.size) rfl
    rwa [Heap.size_push] at this
  have e3 : (s.heap.push PySem.W.emptyDict).Ns s.heap.objs.size (fun _ => none) := ⟨PySem.W.emptyDict, #[], _, e1, rfl, (fun e he => absurd he (by simp)), fun _ => rfl⟩
  have I1 := I.laid (a := s.heap.objs.size) (o := .own (s.heap.objs.size + 1)) (h' := s.heap.push PySem.W.emptyDict) (t' := s.toks) (fun b u q => Heap.get?_push_of_some _ q) (Nat.le_refl _) ⟨_, e1⟩
  refine I1.laid (a := s.heap.objs.size + 1) (o := .ins C s.heap.objs.size []) (t' := s.toks) (fun b u q => Heap.get?_push_of_some _ q) (Nat.le_of_eq (Heap.size_push _ _)) ?_
  have ne : s.heap.objs.size ≠ s.heap.objs.size + 1 := Nat.ne_of_lt (Nat.lt_succ_self _)
  refine ⟨by rw [upd_ne ne, upd_same], Nat.zero_le _, ne, e2, fun _ => none, (Heap.Ns1.of_empty e3).at fun o q => Heap.get?_push_of_some _ q, fun _ => True.intro, fun y hy => absurd rfl hy⟩

/-- e.f where nothing but the object is asked: through attributeBase (super) and the last hold -/
theorem attr_of {prog : Program} {w : World} {env : Env} {e : Expr} {f : Str} {pos : Pos} {s : Shared} {Q : Value → Shared → Prop} (hb : attributeBase e f env (eval e env) = eval e env)
    (h : wpAny (model prog w) A (eval e env) (fun o s₁ => wpAny (model prog w) A (getAttr o f true) Q E s₁) E s) : wpAny (model prog w) A (eval (.Attribute e f pos) env) Q E s :=
  Attribute_any_ h (by rw [arm_eval_Attribute, hb])
end

/-! ### readings and rules -/
/-- e.f, an attribute of the instance -/
def tFld (K : PySem.W.Frag) (ta : TE) (f : Str) : TE := fun σ H Q => ta σ H fun x H1 => ∃ a C dx fs v, x = .ref a ∧ H1 a = some (.ins C dx fs) ∧ Cls K C ∧ NoAttr K C f ∧ fs.lookup f = some v ∧ Q v H1
/-- e.f = value -/
def sFld (K : PySem.W.Frag) (ta tv : TE) (f : Str) : TS := fun D σ H => tv σ H fun y H1 => ta σ H1 fun x H2 => ∃ a C dx fs, x = .ref a ∧ H2 a = some (.ins C dx fs) ∧ Cls K C ∧ NoAttr K C f ∧ fs.length < 1000 ∧
  D.nx σ (upd H2 a (.ins C dx (putF f y fs)))
section
variable {X : Cx} {o e value : Expr} {f : Str} {pos pos' tpos : Pos} {ta tv : TE}
theorem pe_fld (he : PE X e ta) (hb : attributeBase e f X.env (eval e X.env) = eval e X.env) : PE X (.Attribute e f pos) (tFld X.K ta f) := by
  intro pins s σ H Q I h
  refine attr_of hb (thn (he pins s σ H _ I h) fun u s1 ⟨x, H1, I1, rx, a, C, dx, fs, v, ex, ea, c, n, l, q⟩ => ?_)
  subst ex
  obtain rfl : u = Value.ref a := rx
  exact getattr_ok I1 ea c n l fun u' s2 I2 ru => ⟨v, H1, I2, ru, q⟩
theorem ps_fld (ha : PE X o ta) (hv : PE X value tv) (hs : swapsWith value (some (.Attribute o f pos')) pos.line X.env = pure false) : PS X (.Assign [.Attribute o f pos'] value pos) (sFld X.K ta tv f) := by
  intro pins s σ H D I h
  refine plainObj_wpAny_Assign_Attribute (thn (hv pins s σ H _ I h) fun u s1 ⟨y, H1, I1, ry, q⟩ => thn (ha pins s1 σ H1 _ I1 q) fun ov s2 ⟨x, H2, I2, rx, a, C, dx, fs, ex, ea, c, n, l, q2⟩ => ?_) hs
  subst ex
  obtain rfl : ov = Value.ref a := rx
  exact setattr_ok I2 ea c n l ry fun s3 I3 => ⟨σ, _, I3, q2⟩
end

/-! ### isinstance -/
section
variable {X : Cx} {pins : List (Addr × Obj)} {σ : St} {H : Hp} {s : Shared} {A : Around} {E : Value → Shared → Prop} {Q : Value → Shared → Prop} {c : Value} {b : Bool}
end
end L2

namespace L2
open PySem PySem.Spec PyProof.Rows

/-! ### room -/
structure Room (k : Nat) (A : Around) : Prop where
  hd : A.handled = none
  dp : A.depth + 3 * k + 5 < recursionLimit
  un : A.units + 16 * k + 200 < cLine
theorem Room.mono {j k : Nat} {A : Around} (r : Room k A) (h : j ≤ k) : Room j A := ⟨r.hd, by have := r.dp; omega, by have := r.un; omega⟩
theorem Room.deeper {k : Nat} {A : Around} (r : Room (k + 1) A) (env : Env) : Room k (A.deeper env) :=
  ⟨r.hd, by have := r.dp; show A.depth + 1 + 3 * k + 5 < _; omega, by have := r.un; show A.units + 3 + 16 * k + 200 < _; omega⟩
theorem Room.in1 {k : Nat} {A : Around} (r : Room (k + 1) A) : Room k A.in1 :=
  ⟨r.hd, by have := r.dp; show A.depth + 3 * k + 5 < _; omega, by have := r.un; show A.units + 1 + 16 * k + 200 < _; omega⟩
theorem make_depth {A : Around} {C : Addr} {us : List Value} {kw : List (Str × Value)} : (A.under (.builtin "type.__call__" ⟨.ref C :: us, kw⟩)).depth = A.depth + 1 := by
  first | rfl | simp [Around.under, Code.weight, Code.isCreation, Code.isGuard, Code.isCaller, Code.frames, Code.isFrame, guardIds]
theorem make_units {A : Around} {C : Addr} {us : List Value} {kw : List (Str × Value)} : (A.under (.builtin "type.__call__" ⟨.ref C :: us, kw⟩)).units = A.units + 1 := by
  first | rfl | simp [Around.under, Code.cUnits, Code.frames, Code.isFrame]
theorem Room.make {k : Nat} {A : Around} (r : Room (k + 1) A) (C : Addr) (us : List Value) (kw : List (Str × Value)) : Room k (A.under (.builtin "type.__call__" ⟨.ref C :: us, kw⟩)) :=
  ⟨r.hd, by have := r.dp; rw [make_depth]; omega, by have := r.un; rw [make_units]; omega⟩
theorem Room.depth {k : Nat} {A : Around} (r : Room k A) : A.depth < recursionLimit := by have := r.dp; omega
theorem Room.units {k : Nat} {A : Around} (r : Room k A) : A.units + 64 < cLine := by have := r.un; omega
theorem Room.units0 {k : Nat} {A : Around} (r : Room k A) : A.units < cLine := by have := r.un; omega

/-! ### argument lists and displays -/
def tNil : TA := fun _ H Q => Q [] H
def tCons (ta : TE) (tr : TA) : TA := fun σ H Q => ta σ H fun x H1 => tr σ H1 fun xs H2 => Q (x :: xs) H2
section
variable {X : Cx} {e : Expr} {es : List Expr} {te : TE} {t : TA} {pos : Pos}
theorem pa_nil : PA X [] tNil := fun _ _ _ _ H Q I h => Calls.spliced_nil ⟨[], H, I, .nil, h⟩
theorem pa_cons (ha : PE X e te) (hr : PA X es t) (hs : starEach (e :: es) X.env = (false, eval e X.env) :: starEach es X.env := by rfl) : PA X (e :: es) (tCons te t) := by
  intro pos pins s σ H Q I h
  rw [hs]
  show wpAny _ _ (spliced ((false, eval e X.env) :: backTo pos (starEach es X.env))) _ _ s
  refine Calls.spliced_cons (thn (ha pins s σ H _ I h) fun u s1 ⟨x, H1, I1, r1, q1⟩ => ?_)
  exact thn (hr pos pins s1 σ H1 _ I1 q1) fun us s2 ⟨xs, H2, I2, r2, q2⟩ => ⟨x :: xs, H2, I2, .cons r1 r2, q2⟩

/-- a tuple, a list of written items -/
def tTup (t : TA) : TE := fun σ H Q => t σ H fun xs H1 => xs.length ≤ sizeLine ∧ ∀ p, H1 p = none → Q (.ref p) (upd H1 p (.tup xs))
def tLst (t : TA) : TE := fun σ H Q => t σ H fun xs H1 => xs.length ≤ sizeLine ∧ ∀ p, H1 p = none → Q (.ref p) (upd H1 p (.lst xs))
theorem pe_tup {x1} (h : PA X es t) : PE X (.Tuple es x1 pos) (tTup t) := by
  intro pins s σ H Q I hq
  refine wpAny_Tuple_spliced (thn (h pos pins s σ H _ I hq) fun us s1 ⟨xs, H1, I1, r, z, q⟩ => ⟨by rw [← r.length]; exact z, ?_⟩)
  have hf : H1 s1.heap.objs.size = none := I1.hok.fresh (Nat.le_refl _)
  refine ⟨.ref s1.heap.objs.size, upd H1 s1.heap.objs.size (.tup xs), I1.laid (t' := s1.toks) (fun b u e => Heap.get?_push_of_some _ e) (Nat.le_refl _) ?_, rfl, q _ hf⟩
  exact ⟨z, us, r, ⟨_, Heap.get?_push_size _ rfl, rfl, _, rfl⟩⟩
theorem pe_lst (h : PA X es t) : PE X (.List es pos) (tLst t) := by
  intro pins s σ H Q I hq
  refine wpAny_List_spliced (thn (h pos pins s σ H _ I hq) fun us s1 ⟨xs, H1, I1, r, z, q⟩ => ⟨by rw [← r.length]; exact z, ?_⟩)
  have hf : H1 s1.heap.objs.size = none := I1.hok.fresh (Nat.le_refl _)
  refine ⟨.ref s1.heap.objs.size, upd H1 s1.heap.objs.size (.lst xs), I1.laid (t' := s1.toks) (fun b u e => Heap.get?_push_of_some _ e) (Nat.le_refl _) ?_, rfl, q _ hf⟩
  exact ⟨z, us, 0, r, Heap.get?_push_size _ rfl⟩
end

/-! ### what a def promises -/
/-- a def's promise: the bound arguments in the parameters' order, the heap, the wanted end, the wanted exception -/
abbrev Sp := List V → Hp → VK → XK → Prop
/-- how an exception lies behind a call (file 08 gives it): the callers' frames, abstract heap and state ahead of the call, the wish, the exception, the state -/
abbrev CXT := List Env → Hp → Shared → XK → Value → Shared → Prop

/-- the state at a call -/
structure Env0 (P : Program) (w : World) (K : PySem.W.Frag) (mg : Str → Option Value) (base : Heap) (A : Around) (outer : List Env) (s : Shared) (H : Hp) : Prop where
  frames : A.frames = some outer
  mod : Mod K mg base
  bs : ∀ b o, base.get? b = some o → s.heap.get? b = some o ∧ H b = none
  bsz : base.objs.size ≤ s.heap.objs.size
  funs : s.heap.FunFrames base outer
  frf : ∀ b ∈ frs outer, H b = none
  hok : HOk P w H s.heap
  bare : AllBare s.gens
/-- a call's end -/
def CE (outer : List Env) (P : Program) (w : World) (H : Hp) (s : Shared) (Q : VK) (u : Value) (s' : Shared) : Prop :=
  ∃ v H', s'.os = s.os ∧ AllBare s'.gens ∧ Un (frs outer) [] H H' s.heap s'.heap ∧ HOk P w H' s'.heap ∧ RelV v u ∧ Q v H'
def CR (CX : CXT) (outer : List Env) (P : Program) (w : World) (H : Hp) (s : Shared) (Q : VK) (E : XK) (r : Result) (s' : Shared) : Prop :=
  match r with
  | .ok (.ret u) => CE outer P w H s Q u s'
  | .ok _ => False
  | .error e => CX outer H s E e s'
structure FnOk (P : Program) (w : World) (K : PySem.W.Frag) (mg : Str → Option Value) (base : Heap) (CX : CXT) (k : Nat) (f : Addr) (fd : FuncData) (ps : List Str) (sp : Sp) : Prop where
  len : ∀ vs H Q E, sp vs H Q E → vs.length = ps.length
  run : ∀ (A : Around) (outer : List Env) (s : Shared) (H : Hp) (args : Args) (us : List Value) (vs : List V) (Q : VK) (E : XK), Room k A → Env0 P w K mg base A outer s H → BindsTo s fd args (ps.zip us) → Vals vs us → sp vs H Q E →
    codeAny (model P w) A (.call (.ref f) args) (CR CX outer P w H s Q E) s
theorem FnOk.mono {P : Program} {w : World} {K : PySem.W.Frag} {mg : Str → Option Value} {base : Heap} {CX : CXT} {j k : Nat} {f : Addr} {fd : FuncData} {ps : List Str} {sp : Sp} (F : FnOk P w K mg base CX j f fd ps sp) (h : j ≤ k) :
    FnOk P w K mg base CX k f fd ps sp := ⟨F.len, fun A outer s H args us vs Q E hr => F.run A outer s H args us vs Q E (hr.mono h)⟩
/-- a weaker promise -/
theorem FnOk.imp {P : Program} {w : World} {K : PySem.W.Frag} {mg : Str → Option Value} {base : Heap} {CX : CXT} {k : Nat} {f : Addr} {fd : FuncData} {ps : List Str} {sp sp' : Sp} (F : FnOk P w K mg base CX k f fd ps sp)
    (h : ∀ vs H Q E, sp' vs H Q E → sp vs H Q E) : FnOk P w K mg base CX k f fd ps sp' :=
  ⟨fun vs H Q E q => F.len vs H Q E (h _ _ _ _ q), fun A outer s H args us vs Q E hr he hb hv hs => F.run A outer s H args us vs Q E hr he hb hv (h _ _ _ _ hs)⟩

theorem Env0.make {P : Program} {w : World} {K : PySem.W.Frag} {mg : Str → Option Value} {base : Heap} {A : Around} {outer : List Env} {s : Shared} {H : Hp} (e : Env0 P w K mg base A outer s H) (C : Addr) (us : List Value) (kw : List (Str × Value)) :
    Env0 P w K mg base (A.under (.builtin "type.__call__" ⟨.ref C :: us, kw⟩)) outer s H := ⟨by first | exact e.frames | (simpa [Around.under, Code.envs, Code.isFrame, pushEnvs] using e.frames), e.mod, e.bs, e.bsz, e.funs, e.frf, e.hok, e.bare⟩
theorem Env0.in1 {P : Program} {w : World} {K : PySem.W.Frag} {mg : Str → Option Value} {base : Heap} {A : Around} {outer : List Env} {s : Shared} {H : Hp} (e : Env0 P w K mg base A outer s H) :
    Env0 P w K mg base A.in1 outer s H := ⟨e.frames, e.mod, e.bs, e.bsz, e.funs, e.frf, e.hok, e.bare⟩

section
variable {X : Cx} {pins : List (Addr × Obj)} {σ : St} {H : Hp} {s s' : Shared}
/-- from a body: what a callee wants -/
theorem Inv.env0 (I : Inv X pins σ H s) : Env0 X.prog X.w X.K X.mg X.base X.A X.stack s H :=
  ⟨I.ok.frames, I.ok.mod, I.bs, Nat.le_trans I.ok.bsz I.sz, I.stack, I.stkFree, I.hok, I.bare⟩
/-- behind a call -/
theorem Inv.after {Q : VK} {u : Value} (I : Inv X pins σ H s) (h : CE X.stack X.prog X.w H s Q u s') : EP X pins σ Q u s' := by
  obtain ⟨v, H', os, bare, un, hok, r, q⟩ := h
  obtain ⟨hh, g, d, t, os'⟩ := s'
  obtain rfl : os' = s.os := os
  exact ⟨v, H', I.call (h' := hh) (g' := g) (d' := d) (t' := t) (ch := []) un hok bare (fun b z => absurd z (by simp)), r, q⟩
end

/-! ### calls -/
/-- f(..): the written arguments, then the defaults dvs; E: what is wanted of an exception -/
def tCall (sp : Sp) (dvs : List V) (E : XK) (t : TA) : TE := fun σ H Q => t σ H fun vs H1 => sp (vs ++ dvs) H1 Q E
/-- o.m(..) of an instance of the class at C -/
def tMeth (C : Addr) (m : Str) (sp : Sp) (dvs : List V) (E : XK) (ta : TE) (t : TA) : TE := fun σ H Q => ta σ H fun x H1 => ∃ a dx fs, x = .ref a ∧ H1 a = some (.ins C dx fs) ∧ fs.lookup m = none ∧
  t σ H1 fun vs H2 => sp (x :: (vs ++ dvs)) H2 Q E
/-- C(..): a new instance and its dict, then __init__ -/
def tMake (C : Addr) (sp : Sp) (dvs : List V) (E : XK) (t : TA) : TE := fun σ H Q => t σ H fun vs H1 => ∀ x dx, H1 x = none → H1 dx = none → dx ≠ x →
  sp (.ref x :: (vs ++ dvs)) (upd (upd H1 dx (.own x)) x (.ins C dx [])) (fun v H2 => v = .non ∧ Q (.ref x) H2) E

/-- how the parameters are bound: us the positional arguments, kw the keywords' values by name, ds the defaults that fill up -/
def Binds (K : PySem.W.Frag) (fd : FuncData) (ps : List Str) (ds : List Value) : Prop :=
  ∀ (s : Shared) (us : List Value), K.In s.heap → (us ++ ds).length = ps.length → BindsTo s fd ⟨us, []⟩ (ps.zip (us ++ ds))
/-- every parameter is given -/
theorem Binds.all {K : PySem.W.Frag} {fd : FuncData} {ps : List Str} (h : ∀ us : List Value, us.length = ps.length → bindArgs fd ⟨us, []⟩ = pure (ps.zip us)) : Binds K fd ps [] := fun s us _ hl => by
  rw [List.append_nil] at hl ⊢
  exact .of_eq (h us hl)

/-- an exception of a callee reaches what this body wants of exceptions -/
def Passes (CX : CXT) (X : Cx) (E : XK) : Prop := ∀ (pins : List (Addr × Obj)) (σ : St) (H : Hp) (s : Shared) (e : Value) (s' : Shared), Inv X pins σ H s → CX X.stack H s E e s' → X.xe e s'

section
variable {X : Cx} {CX : CXT} {k : Nat} {f C : Addr} {fd : FuncData} {ps : List Str} {sp : Sp} {dvs : List V} {ds : List Value} {E : XK} {x m : Str} {p pos apos : Pos} {e o : Expr} {es : List Expr} {ta : TE} {t : TA}

/-- the callee runs -/
theorem run_fn {pins : List (Addr × Obj)} {σ : St} {H : Hp} {s : Shared} {Q : VK} {us : List Value} {vs : List V} (F : FnOk X.prog X.w X.K X.mg X.base CX k f fd ps sp) (hr : Room k X.A) (hb : Binds X.K fd ps ds) (hd : Vals dvs ds) (hx : Passes CX X E)
    (I : Inv X pins σ H s) (r : Vals vs us) (h : sp (vs ++ dvs) H Q E) : wpAny (model X.prog X.w) X.A (call (.ref f) us) (EP X pins σ Q) X.xe s := by
  have r2 : Vals (vs ++ dvs) (us ++ ds) := r.append hd
  have hl : (us ++ ds).length = ps.length := by rw [← r2.length]; exact F.len _ _ _ _ h
  refine wpAny_call (codeAny_mono (F.run X.A X.stack s H ⟨us, []⟩ (us ++ ds) (vs ++ dvs) Q E hr I.env0 (hb s us I.kIn hl) r2 h) fun r s' hq => ?_)
  cases r with
  | error e => exact hx pins σ H s e s' I hq
  | ok fl =>
    cases fl with
    | ret u => exact I.after hq
    | next => exact False.elim hq
    | brk => exact False.elim hq
    | cont => exact False.elim hq

theorem pe_call (F : FnOk X.prog X.w X.K X.mg X.base CX k f fd ps sp) (hr : Room k X.A) (hg : Gl X x) (hm : X.mg x = some (.ref f)) (hk : PySem.W.keepIn X.K (.ref f) = true) (hb : Binds X.K fd ps ds) (hd : Vals dvs ds) (hx : Passes CX X E)
    (ha : PA X (e :: es) t) (hdb : (x == ("__debug__" : Str)) = false := by decide) (he : starEach (e :: es) X.env = (false, eval e X.env) :: starEach es X.env := by rfl) (hpl : (backTo pos (starEach es X.env)).any (·.1) = false := by rfl) :
    PE X (.Call (.Name x p) (e :: es) [] pos) (tCall sp dvs E t) := by
  intro pins s σ H Q I h
  refine wpAny_Call_Name_kw (ld_glob I hg hm ?_ hdb)
  refine PySem.W.callWith_K (h₀ := X.base) I.ok.mod.kin hk (thn (ha pos pins s σ H _ I h) fun us s1 ⟨vs, H1, I1, r, q⟩ => ⟨I1.kIn, ?_⟩) he hpl
  exact run_fn F hr hb hd hx I1 r q
/-- o.m(e, ..) -/
theorem pe_meth {pl : Sem Bool} (he : PE X o ta) (c : Cls X.K C) (hm : Meth X.K C m f) (F : FnOk X.prog X.w X.K X.mg X.base CX k f fd ps sp) (hr : Room k X.A) (hb : Binds X.K fd ps ds) (hd : Vals dvs ds) (hx : Passes CX X E) (ha : PA X (e :: es) t)
    (hst : starEach (e :: es) X.env = (false, eval e X.env) :: starEach es X.env := by rfl) (hpl : (backTo pos (starEach es X.env)).any (·.1) = false := by rfl)
    (ht : eval (.Call (.Attribute o m apos) (e :: es) [] pos) X.env = (do
      let ov ← eval o X.env
      standAt apos.atName
      let (f, first) ← holding [ov] (getMethod ov m pl)
      callWith pos f first (backTo pos (starEach (e :: es) X.env)) (backToKw pos (keywordEach [] X.env))) := by rfl) :
    PE X (.Call (.Attribute o m apos) (e :: es) [] pos) (tMeth C m sp dvs E ta t) := by
  intro pins s σ H Q I h
  refine PySem.W.methodCall_KW (pl := pl) (thn (he pins s σ H _ I h) fun u s1 ⟨x, H1, I1, rx, a, dx, fs, ex, ea, l, q⟩ => ?_) ht
  subst ex
  obtain rfl : u = Value.ref a := rx
  refine getmeth_ok I1 ea c hm l ?_
  refine PySem.W.callWith_K (first := [.ref a]) (h₀ := X.base) I.ok.mod.kin hm.kp (thn (ha pos pins s1 σ H1 _ I1 q) fun us s2 ⟨vs, H2, I2, r, q2⟩ => ⟨I2.kIn, ?_⟩) hst hpl
  exact run_fn (us := .ref a :: us) (vs := .ref a :: vs) F hr hb hd hx I2 (.cons rfl r) q2
/-- o.m() -/
theorem pe_meth0 {pl : Sem Bool} (he : PE X o ta) (c : Cls X.K C) (hm : Meth X.K C m f) (F : FnOk X.prog X.w X.K X.mg X.base CX k f fd ps sp) (hr : Room k X.A) (hb : Binds X.K fd ps ds) (hd : Vals dvs ds) (hx : Passes CX X E)
    (ht : eval (.Call (.Attribute o m apos) [] [] pos) X.env = (do
      let ov ← eval o X.env
      standAt apos.atName
      let (f, first) ← holding [ov] (getMethod ov m pl)
      callWith pos f first (backTo pos (starEach [] X.env)) (backToKw pos (keywordEach [] X.env))) := by rfl) :
    PE X (.Call (.Attribute o m apos) [] [] pos) (tMeth C m sp dvs E ta tNil) := by
  intro pins s σ H Q I h
  refine PySem.W.methodCall_KW (pl := pl) (thn (he pins s σ H _ I h) fun u s1 ⟨x, H1, I1, rx, a, dx, fs, ex, ea, l, q⟩ => ?_) ht
  subst ex
  obtain rfl : u = Value.ref a := rx
  refine getmeth_ok I1 ea c hm l ?_
  exact PySem.W.callWith_K0 (first := [.ref a]) I1.kIn hm.kp (run_fn (us := [.ref a]) (vs := [.ref a]) F hr hb hd hx I1 (.cons rfl .nil) q)

/-- what a class must have to be made -/
structure Mk (K : PySem.W.Frag) (C f : Addr) : Prop where
  makes : PySem.W.makesIn K C = true
  init : PySem.W.findIn K (.ref C) "__init__" = some (some (.ref f))
  fn : PySem.W.isFn K (.ref f) = true
  kp : PySem.W.keepIn K (.ref C) = true

theorem run_make {pins : List (Addr × Obj)} {σ : St} {H : Hp} {s : Shared} {Q : VK} {us : List Value} {vs : List V} (M : Mk X.K C f) (F : FnOk X.prog X.w X.K X.mg X.base CX k f fd ps sp) (hr : Room (k + 1) X.A) (hb : Binds X.K fd ps ds) (hd : Vals dvs ds)
    (hx : Passes CX X E) (I : Inv X pins σ H s) (r : Vals vs us)
    (h : ∀ x dx, H x = none → H dx = none → dx ≠ x → sp (.ref x :: (vs ++ dvs)) (upd (upd H dx (.own x)) x (.ins C dx [])) (fun v H2 => v = .non ∧ Q (.ref x) H2) E) :
    wpAny (model X.prog X.w) X.A (call (.ref C) us) (EP X pins σ Q) X.xe s := by
  have hq := h (s.heap.objs.size + 1) s.heap.objs.size (I.hok.fresh (Nat.le_succ _)) (I.hok.fresh (Nat.le_refl _)) (Nat.ne_of_lt (Nat.lt_succ_self _))
  have I2 := Inv.made (C := C) I
  have r2 : Vals (V.ref (s.heap.objs.size + 1) :: (vs ++ dvs)) (Value.ref (s.heap.objs.size + 1) :: (us ++ ds)) := .cons rfl (r.append hd)
  have hl : (Value.ref (s.heap.objs.size + 1) :: us ++ ds).length = ps.length := by
    have e := r2.length
    rw [F.len _ _ _ _ hq] at e
    exact e.symm
  refine wpAny_call (make_map (f := f) I.kIn M.makes M.init (beq_iff_eq.mp M.fn) (codeAny_mono (F.run _ X.stack _ _ ⟨Value.ref (s.heap.objs.size + 1) :: us, []⟩ (Value.ref (s.heap.objs.size + 1) :: (us ++ ds)) _ _ E (hr.make C us [])
    (I2.env0.make C us []) (hb _ (Value.ref (s.heap.objs.size + 1) :: us) I2.kIn hl) r2 hq) fun r s' hq' => ?_))
  cases r with
  | error e => exact hx pins σ _ _ e s' I2 hq'
  | ok fl =>
    cases fl with
    | ret u =>
      obtain ⟨v, H', I3, rv, ev, q3⟩ := I2.after hq'
      subst ev
      exact ⟨rv, ⟨V.ref (s.heap.objs.size + 1), H', I3, rfl, q3⟩⟩
    | next => exact False.elim hq'
    | brk => exact False.elim hq'
    | cont => exact False.elim hq'
theorem pe_make (M : Mk X.K C f) (F : FnOk X.prog X.w X.K X.mg X.base CX k f fd ps sp) (hr : Room (k + 1) X.A) (hg : Gl X x) (hm : X.mg x = some (.ref C)) (hb : Binds X.K fd ps ds) (hd : Vals dvs ds) (hx : Passes CX X E)
    (ha : PA X (e :: es) t) (hdb : (x == ("__debug__" : Str)) = false := by decide) (he : starEach (e :: es) X.env = (false, eval e X.env) :: starEach es X.env := by rfl) (hpl : (backTo pos (starEach es X.env)).any (·.1) = false := by rfl) :
    PE X (.Call (.Name x p) (e :: es) [] pos) (tMake C sp dvs E t) := by
  intro pins s σ H Q I h
  refine wpAny_Call_Name_kw (ld_glob I hg hm ?_ hdb)
  refine PySem.W.callWith_K (h₀ := X.base) I.ok.mod.kin M.kp (thn (ha pos pins s σ H _ I h) fun us s1 ⟨vs, H1, I1, r, q⟩ => ⟨I1.kIn, ?_⟩) he hpl
  exact run_make M F hr hb hd hx I1 r q
theorem pe_make0 (M : Mk X.K C f) (F : FnOk X.prog X.w X.K X.mg X.base CX k f fd ps sp) (hr : Room (k + 1) X.A) (hg : Gl X x) (hm : X.mg x = some (.ref C)) (hb : Binds X.K fd ps ds) (hd : Vals dvs ds) (hx : Passes CX X E)
    (hdb : (x == ("__debug__" : Str)) = false := by decide) : PE X (.Call (.Name x p) [] [] pos) (tMake C sp dvs E tNil) := by
  intro pins s σ H Q I h
  refine wpAny_Call_Name_kw (ld_glob I hg hm ?_ hdb)
  exact PySem.W.callWith_K0 I.kIn M.kp (run_make (us := []) M F hr hb hd hx I .nil h)
end

/-! ### keywords -/
section
variable {X : Cx} {CX : CXT} {k : Nat} {f C : Addr} {fd : FuncData} {ps ks : List Str} {sp : Sp} {E : XK} {x m : Str} {p pos apos kpos : Pos} {e o : Expr} {es : List Expr} {kws : List Keyword} {te ta : TE} {t tk : TA} {nm : Option Str}
variable {g : List Value → List Value → List Value} {gV : List V → List V → List V}
end

/-! ### a def's body keeps its promise -/
/-- names: the parameters first -/
structure FnScope (N P : List Str) (sc : Scope) : Prop where
  kind : sc.kind = .function
  co : sc.isCoroutine = false
  gen : sc.isGenerator = false
  nd : N.Nodup
  pre : N.take P.length = P
  par : ∀ x ∈ P, sc.names.lookup x = some .local ∨ sc.names.lookup x = some .cell
  nofree : ∀ y ∈ sc.names, y.2 ≠ .free

theorem bindL_out {kindOf : Str → Option NameKind} {x : Str} : ∀ {binds : List (Str × Value)} {m : Str → Option Value}, (∀ v, (x, v) ∉ binds) → bindL kindOf binds m x = m x
  | [], _, _ => rfl
  | (n, v) :: r, m, h => by
    unfold bindL
    rw [bindL_out fun w hw => h w (List.mem_cons_of_mem _ hw)]
    split
    · have : x ≠ n := by rintro rfl; exact h v List.mem_cons_self
      simp [this]
    · rfl
theorem bindC_out {kindOf : Str → Option NameKind} {x : Str} : ∀ {binds : List (Str × Value)} {m : Str → Option Value}, (∀ v, (x, v) ∉ binds) → bindC kindOf binds m x = m x
  | [], _, _ => rfl
  | (n, v) :: r, m, h => by
    unfold bindC
    rw [bindC_out fun w hw => h w (List.mem_cons_of_mem _ hw)]
    split
    · rfl
    · have : x ≠ n := by rintro rfl; exact h v List.mem_cons_self
      simp [this]
theorem bindL_get {kindOf : Str → Option NameKind} {x : Str} {v : Value} : ∀ {P : List Str} {vs : List Value} {i : Nat} {m : Str → Option Value}, P.Nodup → P[i]? = some x → vs[i]? = some v → kindOf x = some .local →
    bindL kindOf (P.zip vs) m x = some v
  | [], _, _, _, _, h, _, _ => by simp at h
  | _ :: _, [], _, _, _, _, h, _ => by simp at h
  | p :: P, w :: vs, 0, m, nd, h1, h2, hk => by
    simp at h1 h2; subst h1; subst h2
    show bindL kindOf ((p, w) :: P.zip vs) m p = _
    unfold bindL
    rw [bindL_out fun v hv => (List.nodup_cons.mp nd).1 (List.of_mem_zip hv).1, if_pos hk]
    simp
  | p :: P, w :: vs, i + 1, m, nd, h1, h2, hk => by
    show bindL kindOf ((p, w) :: P.zip vs) m x = _
    unfold bindL
    exact bindL_get (i := i) (List.nodup_cons.mp nd).2 (by simpa using h1) (by simpa using h2) hk
theorem bindC_get {kindOf : Str → Option NameKind} {x : Str} {v : Value} : ∀ {P : List Str} {vs : List Value} {i : Nat} {m : Str → Option Value}, P.Nodup → P[i]? = some x → vs[i]? = some v → kindOf x ≠ some .local →
    bindC kindOf (P.zip vs) m x = some v
  | [], _, _, _, _, h, _, _ => by simp at h
  | _ :: _, [], _, _, _, _, h, _ => by simp at h
  | p :: P, w :: vs, 0, m, nd, h1, h2, hk => by
    simp at h1 h2; subst h1; subst h2
    show bindC kindOf ((p, w) :: P.zip vs) m p = _
    unfold bindC
    rw [bindC_out fun v hv => (List.nodup_cons.mp nd).1 (List.of_mem_zip hv).1, if_neg hk]
    simp
  | p :: P, w :: vs, i + 1, m, nd, h1, h2, hk => by
    show bindC kindOf ((p, w) :: P.zip vs) m x = _
    unfold bindC
    exact bindC_get (i := i) (List.nodup_cons.mp nd).2 (by simpa using h1) (by simpa using h2) hk

/-- the names' values at the entry -/
def start (N : List Str) (vs : List V) : St := vs.map some ++ List.replicate (N.length - vs.length) none

/-- the context of a def's body, at its entry; an exception leaves the frame, then lies as CX says -/
def cxOf (CX : CXT) (P : Program) (w : World) (K : PySem.W.Frag) (mg : Str → Option Value) (base : Heap) (N : List Str) (qual : Str) (scope : Scope) (f : Addr) (cd : Value) (A : Around) (outer : List Env) (s : Shared) (H : Hp) (E : XK) : Cx where
  prog := P
  w := w
  K := K
  mg := mg
  base := base
  A := A.deeper (envOfC qual scope s.heap.objs.size f cd)
  N := N
  s₀ := s
  H₀ := H
  env := envOfC qual scope s.heap.objs.size f cd
  outer := outer
  stack := envOfC qual scope s.heap.objs.size f cd :: outer
  ex := []
  calm := true
  fn := fun _ => true
  pn := []
  xe := fun e s' => wpAny (model P w) (A.deeper (envOfC qual scope s.heap.objs.size f cd)) (leaving (envOfC qual scope s.heap.objs.size f cd) e) (fun _ s'' => CX outer H s E e s'') (fun e' s'' => CX outer H s E e' s'') s'

theorem cell_has {sc : Scope} {n : Nat} {x : Str} (h : sc.names.lookup x = some .cell) : ∃ c, (cellsFrom n sc.names []).lookup x = some c := by
  have q := PySem.W.cellsFrom_some sc.names n [] (.inl h)
  exact Option.isSome_iff_exists.mp q

theorem inv_start {CX : CXT} {P : Program} {w : World} {K : PySem.W.Frag} {mg : Str → Option Value} {base : Heap} {N ps : List Str} {qual : Str} {scope : Scope} {f : Addr} {cd : Value} {A : Around} {outer : List Env} {s s1 : Shared} {H : Hp} {E : XK} {us : List Value} {vs : List V}
    (S : FnScope N ps scope) (hd : A.handled = none) (e0 : Env0 P w K mg base A outer s H) (hl : vs.length = ps.length) (r : Vals vs us)
    (x : InCallC s s.heap.objs.size (bindL (envOfC qual scope s.heap.objs.size f cd).kindOf (ps.zip us) fun _ => none) (cellsFrom (s.heap.objs.size + 1) scope.names []) (bindC (envOfC qual scope s.heap.objs.size f cd).kindOf (ps.zip us) fun _ => none) s1) :
    Inv (cxOf CX P w K mg base N qual scope f cd A outer s H E) [] (start N vs) H s1 := by
  have hpl : ps.length ≤ N.length := by have := congrArg List.length S.pre; rw [List.length_take] at this; omega
  obtain ⟨h1, tk, rfl, hk⟩ := x.done
  have noA : ∀ b : Addr, b ∉ (cxOf CX P w K mg base N qual scope f cd A outer s H E).ex := fun b z => absurd (show b ∈ ([] : List Addr) from z) (by simp)
  refine ⟨⟨e0.mod, S.kind, rfl, rfl, Nat.le_refl _, fun y z c h1 h2 => ?_, fun y hy => ?_, fun y c _ h => ?_, fun _ => hd, Around.frames_deeper e0.frames, .inr ⟨rfl, rfl⟩, fun b z => absurd z (noA b), e0.bs, e0.bsz, fun b _ _ => noA b, fun b z => absurd z (noA b), e0.funs, e0.frf⟩,
    rfl, e0.bare, Un.kept hk, ⟨_, x.toInCall.ns, fun i y v h1 h2 h3 => ?_⟩, fun y c h => ⟨_, x.cell y c h⟩, e0.hok.fresh (Nat.le_refl _), fun y c h => ?_, fun p hp => absurd (show p ∈ ([] : List (Addr × Obj)) from hp) (by simp), e0.hok.kept hk, ?_⟩
  · exact name_of_addr x.apart (PySem.mem_of_lookup h1) (PySem.mem_of_lookup h2)
  · have hy : scope.names.lookup y = some .cell ∨ scope.names.lookup y = some .free := hy
    rcases hy with hy | hy
    · exact cell_has hy
    · exact absurd rfl (S.nofree _ (PySem.mem_of_lookup hy))
  · exact Nat.le_of_lt (x.above y c (PySem.mem_of_lookup h))
  · have hi : i < vs.length := by
      unfold start at h2
      by_cases hi : i < vs.length
      · exact hi
      · rw [List.getElem?_append_right (by simpa using hi)] at h2
        rw [List.getElem?_replicate] at h2
        split at h2 <;> cases h2
    have ha : vs[i]? = some v := by
      unfold start at h2
      rw [List.getElem?_append_left (by simpa using hi), List.getElem?_map] at h2
      cases e : vs[i]? with
      | none => rw [e] at h2; cases h2
      | some a => rw [e] at h2; cases h2; rfl
    obtain ⟨u, hu, rv⟩ := r.get ha
    have hp : ps[i]? = some y := by
      rw [← S.pre, List.getElem?_take_of_lt (by omega)]; exact h1
    have ndP : ps.Nodup := by rw [← S.pre]; exact S.nd.sublist (List.take_sublist _ _)
    refine ⟨u, rv, ?_⟩
    rcases S.par y (List.mem_of_getElem? hp) with k | k
    · exact .inl ⟨k, bindL_get ndP hp hu k⟩
    · obtain ⟨c, e⟩ := cell_has (n := s.heap.objs.size + 1) k
      refine .inr ⟨.inl k, c, e, ?_⟩
      have q := x.cell y c e
      rw [bindC_get ndP hp hu (by show scope.names.lookup y ≠ _; rw [k]; decide)] at q
      exact q
  · exact e0.hok.fresh (Nat.le_of_lt (x.above y c (PySem.mem_of_lookup h)))
  · unfold start
    show _ = N.length
    rw [List.length_append, List.length_map, List.length_replicate]
    omega

/-- THE RULE: a def (or a method) of the text, by its body. The body's reading t is chosen for each entry; it is run at the parameters' values -/
theorem fn_of {CX : CXT} {P : Program} {w : World} {K : PySem.W.Frag} {mg : Str → Option Value} {base : Heap} {k : Nat} {f : Addr} {name qual : Str} {params : Arguments} {body : List Stmt} {scope : Scope} {dV kV doc pm cdv ct oc : Value} {an od : Option Addr}
    {osl : Array (Option Value)} {N ps : List Str} {sp : Sp} (lk : K.lookup f = some ⟨oc, od, .func (PySem.W.fnOf name qual params body scope dV kV doc pm an cdv ct), osl⟩) (hcd : PySem.W.codeIn K cdv qual = true) (S : FnScope N ps scope)
    (len : ∀ vs H Q E, sp vs H Q E → vs.length = ps.length)
    (hbody : ∀ (A : Around) (outer : List Env) (s : Shared) (H : Hp) (vs : List V) (Q : VK) (E : XK), Room k (A.deeper (envOfC qual scope s.heap.objs.size f cdv)) → sp vs H Q E →
      ∃ t, PSs (cxOf CX P w K mg base N qual scope f cdv A outer s H E) body t ∧ t { nx := fun _ H' => Q .non H', rt := Q } (start N vs) H) :
    FnOk P w K mg base CX (k + 1) f (PySem.W.fnOf name qual params body scope dV kV doc pm an cdv ct) ps sp := by
  refine ⟨len, fun A outer s H args us vs Q E hr e0 hb r hsp => ?_⟩
  have hl := len _ _ _ _ hsp
  have KX : K.In s.heap := e0.mod.kin.keeps fun b o e => (e0.bs b o e).1
  have lim : s.heap.NoLimit := e0.mod.nolimit.keeps fun b o e => (e0.bs b o e).1
  have hkind : ∀ y ∈ ps.zip us, scope.names.lookup y.1 = some .local ∨ (scope.names.lookup y.1 = some .cell ∧ ((cellsFrom (s.heap.objs.size + 1) scope.names []).lookup y.1).isSome = true) := fun ⟨n, v⟩ hy => by
    rcases S.par n (List.of_mem_zip hy).1 with q | q
    · exact .inl q
    · exact .inr ⟨q, PySem.W.cellsFrom_some _ _ _ (.inl q)⟩
  refine codeAny_call_function hr.depth (KX _ _ lk) rfl S.co S.gen rfl (PySem.W.codeRec_of KX hcd) (hb _ _ _ _ ?_)
  refine wpAny_newFunctionEnv_cells S.kind hkind fun env he s1 x => ?_
  subst he
  refine ⟨lim.keeps x.toInCall.keep, codeAny_func ?_⟩
  obtain ⟨t, ht, hq⟩ := hbody A outer s H vs Q E (hr.deeper _) hsp
  have I : Inv (cxOf CX P w K mg base N qual scope f cdv A outer s H E) [] (start N vs) H s1 := inv_start S hr.hd e0 hl r x
  refine wpAny_mono (ht [] s1 (start N vs) H _ I hq) (fun fl s' hs => ?_) fun e s' hs => hs
  have fin : ∀ {σ' : St} {H' : Hp} {v : V} {u : Value}, Inv (cxOf CX P w K mg base N qual scope f cdv A outer s H E) [] σ' H' s' → RelV v u → Q v H' → CE outer P w H s Q u s' :=
    fun {σ' H' v u} J rv q => ⟨v, H', J.os, J.bare, J.base, J.hok, rv, q⟩
  cases fl with
  | ret u =>
    obtain ⟨v, σ', H', J, rv, q⟩ := hs
    exact fin J rv q
  | next =>
    obtain ⟨σ', H', J, q⟩ := hs
    exact fin (v := V.non) (u := Value.none) J rfl q
  | brk =>
    obtain ⟨_, _, _, q⟩ := hs
    exact False.elim q
  | cont =>
    obtain ⟨_, _, _, q⟩ := hs
    exact False.elim q
end L2

namespace L2
open PySem PySem.Spec PyProof.Rows
section
variable {X : Cx} {x : Str} {p pos : Pos} {e : Expr} {es : List Expr} {t : TA} {id T : String} {r : List V → Hp → VK → Prop}

def tCB (r : List V → Hp → VK → Prop) (t : TA) : TE := fun σ H Q => t σ H fun vs H1 => r vs H1 Q
/-- f(e, ..), f a built-in function -/
theorem pe_callB (hc : CallR X (.builtin id) r) (hg : Gl X x) (hm : X.mg x = none) (hv : bootBuiltins x = some (.builtin id)) (ha : PA X (e :: es) t) (hn : x ≠ "__name__" := by decide) (hdb : (x == ("__debug__" : Str)) = false := by decide)
    (he : starEach (e :: es) X.env = (false, eval e X.env) :: starEach es X.env := by rfl) (hpl : (backTo pos (starEach es X.env)).any (·.1) = false := by rfl) : PE X (.Call (.Name x p) (e :: es) [] pos) (tCB r t) := by
  intro pins s σ H Q I h
  refine wpAny_Call_Name_kw (ld_blt I hg hm hv ?_ hn hdb)
  exact PyProof.Rows.callWith_builtin1 (thn (ha pos pins s σ H _ I h) fun us s1 ⟨vs, H1, I1, r1, q1⟩ => hc pins s1 σ H1 vs us Q I1 r1 q1) he hpl
/-- T(e, ..), T a built-in type -/
theorem pe_callTy (hc : CallR X (.type T) r) (hg : Gl X x) (hm : X.mg x = none) (hv : bootBuiltins x = some (.type T)) (ha : PA X (e :: es) t) (hn : x ≠ "__name__" := by decide) (hdb : (x == ("__debug__" : Str)) = false := by decide)
    (he : starEach (e :: es) X.env = (false, eval e X.env) :: starEach es X.env := by rfl) (hpl : (backTo pos (starEach es X.env)).any (·.1) = false := by rfl) : PE X (.Call (.Name x p) (e :: es) [] pos) (tCB r t) := by
  intro pins s σ H Q I h
  refine wpAny_Call_Name_kw (ld_blt I hg hm hv ?_ hn hdb)
  exact PyProof.Rows.callWith_type1 (thn (ha pos pins s σ H _ I h) fun us s1 ⟨vs, H1, I1, r1, q1⟩ => hc pins s1 σ H1 vs us Q I1 r1 q1) he hpl
end
end L2

namespace HT
open PySem PyProof.Rows

section
open PySem.SeqAt
open PySem.AutoSeq1 (wpAny_loadPart')
open PySem.MeetsSeq PySem.MeetsSeq2 PySem.MeetsSeq3

end

section
variable {prog : Program} {w : World} {A : Around} {E : Value → Shared → Prop} {s : Shared}

/-! ### t[a:b], not the whole -/
/-- a slice's bound as a place among n (d where it is left out) -/
def sIx (n d : Nat) : Option Int → Nat
  | none => d
  | some v => if v < 0 then (v + (n : Int)).toNat else min v.toNat n
theorem sIx_none (n d : Nat) : sIx n d none = d := rfl
theorem sIx_nat (n d k : Nat) : sIx n d (some (k : Int)) = min k n := by
  show (if (k : Int) < 0 then ((k : Int) + (n : Int)).toNat else min (k : Int).toNat n) = min k n
  rw [if_neg (by omega), Int.toNat_natCast]
end
end HT

namespace L2
open PySem PySem.Spec PyProof.Rows

/-! ### the parts of a slice -/
abbrev TO := St → Hp → (Option Int → Hp → Prop) → Prop
/-- a slice's part (left out, or an int) -/
def PO (X : Cx) (e : Option Expr) (t : TO) : Prop :=
  ∀ (pins : List (Addr × Obj)) (s : Shared) (σ : St) (H : Hp) (Q : Option Int → Hp → Prop), Inv X pins σ H s → t σ H Q →
    wpAny (model X.prog X.w) X.A (evalPart e X.env) (fun u s' => ∃ o H', Inv X pins σ H' s' ∧ IsPart u o ∧ Q o H') X.xe s
def tNoPart : TO := fun _ H Q => Q none H
def tPart (t : TE) : TO := fun σ H Q => t σ H fun x H1 => ∃ i, x = .int i ∧ Q (some i) H1

section
variable {X : Cx} {e : Expr} {te : TE} {lo hi : Option Expr} {tl th : TO} {pos p2 : Pos}

theorem po_none : PO X none tNoPart := by
  intro pins s σ H Q I h
  rw [evalPart_none]
  exact wpAny_pure ⟨none, H, I, .none, h⟩
theorem po_some (h : PE X e te) : PO X (some e) (tPart te) := by
  intro pins s σ H Q I hw
  rw [evalPart_some]
  refine thn (h pins s σ H _ I hw) fun u s1 ⟨x, H1, I1, r1, q1⟩ => ?_
  obtain ⟨i, rfl, q⟩ := q1
  obtain ⟨t, rfl⟩ := r1
  exact ⟨some i, H1, I1, .int i t, q⟩

/-- what a slice of a value is, by values: the slice object stands at sl -/
def SlR (X : Cx) (r : V → Option Int → Option Int → Hp → VK → Prop) : Prop :=
  ∀ (pins : List (Addr × Obj)) (s : Shared) (σ : St) (H : Hp) (x : V) (v vl vu : Value) (lo hi : Option Int) (sl : Addr) (Q : VK), Inv X pins σ H s → RelV x v → s.heap.IsSliceOf sl vl vu .none → IsPart vl lo → IsPart vu hi → r x lo hi H Q →
    ∃ T id, typeLookup (.type T) "__getitem__" = pure (some (.builtin id)) ∧ s.TypeIs v T ∧ wpAny (model X.prog X.w) X.A (getItem v (.ref sl)) (EP X pins σ Q) X.xe s
theorem SlR.or {r r' : V → Option Int → Option Int → Hp → VK → Prop} (h : SlR X r) (h' : SlR X r') : SlR X (fun x lo hi H Q => r x lo hi H Q ∨ r' x lo hi H Q) := by
  intro pins s σ H x v vl vu lo hi sl Q I rx hs pl pu q
  rcases q with q | q
  · exact h pins s σ H x v vl vu lo hi sl Q I rx hs pl pu q
  · exact h' pins s σ H x v vl vu lo hi sl Q I rx hs pl pu q
def tSl (r : V → Option Int → Option Int → Hp → VK → Prop) (te : TE) (tl th : TO) : TE := fun σ H Q => te σ H fun x H1 => tl σ H1 fun l H2 => th σ H2 fun u H3 => r x l u H3 Q
/-- a[lo:hi], any a -/
theorem pe_slice {r : V → Option Int → Option Int → Hp → VK → Prop} (hr : SlR X r) (he : PE X e te) (hl : PO X lo tl) (hu : PO X hi th) : PE X (.Subscript e (.Slice lo hi none p2) pos) (tSl r te tl th) := by
  intro pins s σ H Q I h
  refine Subscript_ (thn (he pins s σ H _ I h) fun v s1 ⟨x, H1, I1, r1, q1⟩ => ?_)
  refine wpAny_Slice (thn (hl pins s1 σ H1 _ I1 q1) fun vl s2 ⟨l, H2, I2, pl, q2⟩ => thn (hu pins s2 σ H2 _ I2 q2) fun vu s3 ⟨u, H3, I3, pu, q3⟩ => ?_)
  rw [evalPart_none]
  refine wpAny_pure ?_
  have I4 : Inv X pins σ H3 { s3 with heap := s3.heap.push { cls := .type "slice", data := .fields #[vl, vu, .none] } } := I3.kept (t' := s3.toks) fun b ob q => Heap.get?_push_of_some _ q
  obtain ⟨T, id, hT, ht, hg⟩ := hr pins { s3 with heap := s3.heap.push { cls := .type "slice", data := .fields #[vl, vu, .none] } } σ H3 x v vl vu l u s3.heap.objs.size Q I4 r1 (Heap.IsSliceOf.new ..) pl pu q3
  show wpAny (model X.prog X.w) X.A (subscriptTail e (.Slice lo hi none p2) v (.ref s3.heap.objs.size)) (EP X pins σ Q) X.xe { s3 with heap := s3.heap.push { cls := .type "slice", data := .fields #[vl, vu, .none] } }
  exact tail_any (ops := [.ref s3.heap.objs.size, v]) ht hT hg (by with_unfolding_all rfl)

/-- the items of xs[lo:hi] -/
def cutV (xs : List V) (lo hi : Option Int) : List V := (xs.drop (HT.sIx xs.length 0 lo)).take (HT.sIx xs.length xs.length hi - HT.sIx xs.length 0 lo)
theorem cutV_length (xs : List V) (lo hi : Option Int) : (cutV xs lo hi).length ≤ xs.length := by
  unfold cutV
  rw [List.length_take, List.length_drop]
  omega
/-! ### t < u, t + u -/
end
end L2

namespace L2
open PySem PySem.Spec PyProof.Rows

/-! ### places -/
/-- the place that an index of any sign means -/
def ixN (n : Nat) (i : Int) : Option Nat := if 0 ≤ i then (if i < n then some i.toNat else none) else if -(n : Int) ≤ i then some (i + n).toNat else none
def atI {α : Type} (xs : List α) (i : Int) : Option α := (ixN xs.length i).bind fun j => xs[j]?
theorem ixN_seq {n : Nat} {i : Int} {j : Nat} (h : ixN n i = some j) : seqIndex? i n = some j ∧ j < n ∧ -(n : Int) ≤ i ∧ i < n := by
  unfold ixN at h
  by_cases h0 : 0 ≤ i
  · rw [if_pos h0] at h
    by_cases h1 : i < n
    · rw [if_pos h1] at h
      have e : i.toNat = j := Option.some.inj h
      exact ⟨by rw [seqIndex_of h0 h1, e], by omega, by omega, h1⟩
    · rw [if_neg h1] at h; cases h
  · rw [if_neg h0] at h
    by_cases h1 : -(n : Int) ≤ i
    · rw [if_pos h1] at h
      have e : (i + n).toNat = j := Option.some.inj h
      exact ⟨by rw [seqIndex_neg (by omega) h1, e], by omega, h1, by omega⟩
    · rw [if_neg h1] at h; cases h
theorem atI_get {α : Type} {xs : List α} {i : Int} {v : α} (h : atI xs i = some v) : ∃ j, seqIndex? i xs.length = some j ∧ xs[j]? = some v ∧ j < xs.length ∧ -(xs.length : Int) ≤ i ∧ i < xs.length := by
  unfold atI at h
  cases e : ixN xs.length i with
  | none => rw [e] at h; cases h
  | some j =>
    rw [e] at h
    obtain ⟨h1, h2, h3, h4⟩ := ixN_seq e
    exact ⟨j, h1, h, h2, h3, h4⟩
theorem atI_nat {α : Type} {xs : List α} {j : Nat} {v : α} (h : xs[j]? = some v) : atI xs (j : Int) = some v := by
  have hj : j < xs.length := (List.getElem?_eq_some_iff.mp h).1
  have e : ixN xs.length (j : Int) = some j := by
    unfold ixN
    rw [if_pos (by omega), if_pos (by omega)]; simp
  unfold atI; rw [e]; exact h
/-! ### what may be subscripted -/
/-- what stands as an index of a plain subscript -/
def PlainIx (b : Expr) : Prop := ∀ o i, subscripted b false o i = operate [o, i] (getItem o i)
/-- a subscript by values -/
def IxR (X : Cx) (r : R2) : Prop :=
  ∀ (value slice : Expr) (pins : List (Addr × Obj)) (s : Shared) (σ : St) (H : Hp) (x y : V) (v u : Value) (Q : VK), Inv X pins σ H s → RelV x v → RelV y u → r x y H Q →
    subscripted slice false v u = operate [v, u] (getItem v u) → wpAny (model X.prog X.w) X.A (subscriptTail value slice v u) (EP X pins σ Q) X.xe s
/-- a call of a builtin's method by values: the receiver, the arguments -/
def MtR (X : Cx) (id : String) (r : V → List V → Hp → VK → Prop) : Prop :=
  ∀ (pins : List (Addr × Obj)) (s : Shared) (σ : St) (H : Hp) (x : V) (xs : List V) (v : Value) (us : List Value) (Q : VK), Inv X pins σ H s → RelV x v → Vals xs us → r x xs H Q →
    wpAny (model X.prog X.w) X.A (call (.builtin id) (v :: us)) (EP X pins σ Q) X.xe s
section
variable {X : Cx} {a b : Expr} {ta tb : TE} {pos : Pos}
theorem IxR.or {r r' : R2} (h : IxR X r) (h' : IxR X r') : IxR X (fun x y H Q => r x y H Q ∨ r' x y H Q) := by
  intro value slice pins s σ H x y v u Q I rx ry q hs
  rcases q with q | q
  · exact h value slice pins s σ H x y v u Q I rx ry q hs
  · exact h' value slice pins s σ H x y v u Q I rx ry q hs
theorem MtR.or {id : String} {r r' : V → List V → Hp → VK → Prop} (h : MtR X id r) (h' : MtR X id r') : MtR X id (fun x xs H Q => r x xs H Q ∨ r' x xs H Q) := by
  intro pins s σ H x xs v us Q I rx rs q
  rcases q with q | q
  · exact h pins s σ H x xs v us Q I rx rs q
  · exact h' pins s σ H x xs v us Q I rx rs q
/-- a[b] -/
theorem pe_ix {r : R2} (hr : IxR X r) (ha : PE X a ta) (hb : PE X b tb) (hs : PlainIx b) : PE X (.Subscript a b pos) (tOp r ta tb) := by
  intro pins s σ H Q I h
  exact Subscript_ (binT ha hb I h fun v u s2 x y H2 I2 rx ry q => hr a b pins s2 σ H2 x y v u Q I2 rx ry q (hs _ _))

def rIxL (K : PySem.W.Frag) : R2 := fun x y H Q => ∃ p xs i v, x = .ref p ∧ y = .int i ∧ SqL K H p xs ∧ atI xs i = some v ∧ Q v H
def rIxT (K : PySem.W.Frag) : R2 := fun x y H Q => ∃ p xs i v, x = .ref p ∧ y = .int i ∧ SqT K H p xs ∧ atI xs i = some v ∧ Q v H
theorem ix_list : IxR X (rIxL X.K) := by
  intro value slice pins s σ H x y v u Q I rx ry h hs
  obtain ⟨p, xs, i, z, rfl, rfl, hq, he, q⟩ := h
  cases rx
  obtain ⟨t, rfl⟩ := ry
  obtain ⟨its, r, pl, hz⟩ := I.list hq
  obtain ⟨j, h1, h2, h3, h4, h5⟩ := atI_get he
  obtain ⟨w, ew, rw'⟩ := r.get h2
  have hl := r.length
  have hn := line63
  have fin : EP X pins σ Q w s := ⟨z, H, I, rw', q⟩
  by_cases h0 : 0 ≤ i
  · have hj : i.toNat = j := by
      rw [seqIndex_of h0 h5] at h1
      exact Option.some.inj h1
    exact item_listR pl.isList h0 (by omega) (by rw [hj]; simpa using ew) fin hs
  · have hj : (i + (its.toArray.size : Int)).toNat = j := by
      rw [seqIndex_neg (by omega) h4] at h1
      rw [List.size_toArray, ← hl]
      exact Option.some.inj h1
    exact subscriptTail_builtinR (x := w) pl.isList.typeIs slot_list_getitem.lookup
      (wpAny_getItem_list_neg (Q := fun r s' => r = w ∧ EP X pins σ Q r s') pl.isList (by omega) (by rw [List.size_toArray] <;> omega) (by omega) (by rw [hj]; simpa using ew) ⟨rfl, fin⟩) hs
theorem ix_tup : IxR X (rIxT X.K) := by
  intro value slice pins s σ H x y v u Q I rx ry h hs
  obtain ⟨p, xs, i, z, rfl, rfl, hq, he, q⟩ := h
  cases rx
  obtain ⟨t, rfl⟩ := ry
  obtain ⟨its, r, pl, hz⟩ := I.tuple hq
  obtain ⟨j, h1, h2, h3, h4, h5⟩ := atI_get he
  obtain ⟨w, ew, rw'⟩ := r.get h2
  have hl := r.length
  have hn := line63
  have fin : EP X pins σ Q w s := ⟨z, H, I, rw', q⟩
  exact subscriptTail_builtinR (x := w) pl.typeIs slot_tuple_getitem.lookup
    (getItem_tuple (j := j) (Q := fun r s' => r = w ∧ EP X pins σ Q r s') pl (by omega) (by omega) (by rw [List.size_toArray, ← hl]; exact h1) (by simpa using ew) ⟨rfl, fin⟩) hs
/-! ### xs[i] = v, any sign -/
theorem Inv.lst {pins : List (Addr × Obj)} {σ : St} {H : Hp} {s : Shared} {p : Addr} {xs : List V} (I : Inv X pins σ H s) (h : H p = some (.lst xs)) :
    ∃ (its : List Value) (n : Nat), Vals xs its ∧ s.heap.get? p = some { cls := .type "list", data := .seq its.toArray n } ∧ xs.length ≤ sizeLine := by
  obtain ⟨z, its, n, r, e⟩ := I.hok p _ h
  exact ⟨its, n, r, e, z⟩
/-! ### slices -/
theorem slice_bounds (lo hi : Option Int) (n : Nat) : (sliceBounds lo hi none n).1 = ((HT.sIx n 0 lo : Nat) : Int) ∧ (sliceBounds lo hi none n).2.1 = ((HT.sIx n n hi : Nat) : Int) ∧ (sliceBounds lo hi none n).2.2 = 1 := by
  refine ⟨?_, ?_, rfl⟩
  · cases lo with
    | none => simp [sliceBounds, HT.sIx]
    | some i =>
      simp only [sliceBounds, HT.sIx, Option.getD_none, show (1 : Int) > 0 by decide, if_true]
      by_cases h : i < 0
      · simp only [h, if_true] <;> omega
      · simp only [h, if_false] <;> omega
  · cases hi with
    | none => simp [sliceBounds, HT.sIx]
    | some i =>
      simp only [sliceBounds, HT.sIx, Option.getD_none, show (1 : Int) > 0 by decide, if_true]
      by_cases h : i < 0
      · simp only [h, if_true] <;> omega
      · simp only [h, if_false] <;> omega
theorem slicePick_cut (its : List Value) (lo hi : Option Int) : slicePick its.toArray lo hi none = ((its.drop (HT.sIx its.length 0 lo)).take (HT.sIx its.length its.length hi - HT.sIx its.length 0 lo)).toArray := by
  obtain ⟨h1, h2, h3⟩ := slice_bounds lo hi its.toArray.size
  unfold slicePick
  rw [h1, h2, h3]
  simp only [sliceRange_one, pick_run, List.size_toArray] <;> rfl
/-- xs[lo:hi] of a list: a new list -/
def rSlL (K : PySem.W.Frag) : V → Option Int → Option Int → Hp → VK → Prop := fun x lo hi H Q => ∃ a xs, x = .ref a ∧ SqL K H a xs ∧ ∀ p, H p = none → Q (.ref p) (upd H p (.lst (cutV xs lo hi)))
theorem sl_list : SlR X (rSlL X.K) := by
  intro pins s σ H x v vl vu lo hi sl Q I rx hs pl pu h
  obtain ⟨a, xs, rfl, hx, q⟩ := h
  cases rx
  obtain ⟨its, r, ht, hz⟩ := I.list hx
  have hlen := r.length
  refine ⟨"list", _, slot_list_getitem.lookup, ht.isList.typeIs, ?_⟩
  refine wpAny_getItem_list_slice ht.isList hs pl pu .none (by simp) ?_ (by rw [List.size_toArray] <;> omega)
  rw [slicePick_cut, ← hlen]
  refine ⟨.ref s.heap.objs.size, _, I.laid (t' := s.toks) (o := .lst (cutV xs lo hi)) (fun b ob q => Heap.get?_push_of_some _ q) (Nat.le_refl _) ?_, rfl, q _ (I.hok.fresh (Nat.le_refl _))⟩
  exact ⟨Nat.le_trans (cutV_length xs lo hi) hz, _, 0, (r.drop (HT.sIx xs.length 0 lo)).take (HT.sIx xs.length xs.length hi - HT.sIx xs.length 0 lo), Heap.get?_push_size _ rfl⟩

/-! ### in, not in: flat items -/
def flatV : V → Bool
  | .non => true
  | .bl _ => true
  | .int _ => true
  | .str _ => true
  | _ => false
/-- == of flat values -/
def eqV : V → V → Bool
  | .non, .non => true
  | .bl a, .bl b => a == b
  | .bl a, .int b => (if a then 1 else 0) == b
  | .int a, .bl b => a == (if b then 1 else 0)
  | .int a, .int b => a == b
  | .str a, .str b => a == b
  | _, _ => false
theorem eqAt_V {A : Around} {s : Shared} {y x : V} {u v : Value} (ry : RelV y u) (rx : RelV x v) (fy : flatV y = true) (fx : flatV x = true) : SeqAt.EqAt A s u v (eqV y x) := by
  cases y with
  | non =>
    cases ry
    cases x with
    | non => cases rx; exact SeqAt.EqAt.same _
    | bl b => cases rx; exact SeqAt.EqAt.none_bool b
    | int b => obtain ⟨t, rfl⟩ := rx; exact SeqAt.EqAt.none_int b t
    | str b => obtain ⟨t, rfl⟩ := rx; exact SeqAt.EqAt.none_str b t
    | _ => exact absurd (show false = true from fx) Bool.false_ne_true
  | bl a =>
    cases ry
    cases x with
    | non => cases rx; exact SeqAt.EqAt.bool_none a
    | bl b => cases rx; exact SeqAt.EqAt.bool_bool a b
    | int b => obtain ⟨t, rfl⟩ := rx; exact SeqAt.EqAt.bool_int a b t
    | str b => obtain ⟨t, rfl⟩ := rx; exact SeqAt.EqAt.bool_str a b t
    | _ => exact absurd (show false = true from fx) Bool.false_ne_true
  | int a =>
    obtain ⟨t', rfl⟩ := ry
    cases x with
    | non => cases rx; exact SeqAt.EqAt.int_none a t'
    | bl b => cases rx; exact SeqAt.EqAt.int_bool a t' b
    | int b => obtain ⟨t, rfl⟩ := rx; exact SeqAt.EqAt.int_int a t' b t
    | str b => obtain ⟨t, rfl⟩ := rx; exact SeqAt.EqAt.int_str a t' b t
    | _ => exact absurd (show false = true from fx) Bool.false_ne_true
  | str a =>
    obtain ⟨t', rfl⟩ := ry
    cases x with
    | non => cases rx; exact SeqAt.EqAt.str_none a t'
    | bl b => cases rx; exact SeqAt.EqAt.str_bool a t' b
    | int b => obtain ⟨t, rfl⟩ := rx; exact SeqAt.EqAt.str_int a t' b t
    | str b => obtain ⟨t, rfl⟩ := rx; exact SeqAt.EqAt.str_str a t' b t
    | _ => exact absurd (show false = true from fx) Bool.false_ne_true
  | _ => exact absurd (show false = true from fy) Bool.false_ne_true
/-- the items' answers, read off the values (a value's own answer does not lean on its token) -/
def eqU (x : V) (u : Value) : Bool := match u with
  | .none => eqV .non x
  | .bool b => eqV (.bl b) x
  | .int i _ => eqV (.int i) x
  | .str z _ => eqV (.str z) x
  | _ => false
theorem eqU_of {x y : V} {u : Value} (r : RelV y u) (f : flatV y = true) : eqU x u = eqV y x := by
  cases y with
  | non => cases r; rfl
  | bl b => cases r; rfl
  | int i => obtain ⟨t, rfl⟩ := r; rfl
  | str z => obtain ⟨t, rfl⟩ := r; rfl
  | _ => exact absurd (show false = true from f) Bool.false_ne_true
theorem any_eqU {x : V} : ∀ {xs : List V} {us : List Value}, Vals xs us → xs.all flatV = true → us.any (eqU x) = xs.any fun y => eqV y x
  | _, _, .nil, _ => rfl
  | y :: xs, u :: us, .cons r t, f => by
    rw [List.all_cons, Bool.and_eq_true] at f
    rw [List.any_cons, List.any_cons, eqU_of r f.1, any_eqU t f.2]
theorem mem_eqAt {A : Around} {s : Shared} {x : V} {v : Value} (rx : RelV x v) (fx : flatV x = true) : ∀ {xs : List V} {us : List Value}, Vals xs us → xs.all flatV = true → ∀ u ∈ us, SeqAt.EqAt A s u v (eqU x u)
  | _, _, .nil, _ => fun u hu => by cases hu
  | y :: xs, u :: us, .cons r t, f => fun u' hu => by
    rw [List.all_cons, Bool.and_eq_true] at f
    rcases List.mem_cons.mp hu with rfl | hu
    · rw [eqU_of r f.1]; exact eqAt_V r rx f.1 fx
    · exact mem_eqAt rx fx t f.2 u' hu
def inV (x : V) (xs : List V) : Bool := xs.any fun y => eqV y x
/-- x in a list or tuple of flat items -/
def rIn (K : PySem.W.Frag) (neg : Bool) : R2 := fun x y H Q => ∃ p xs, y = .ref p ∧ (SqL K H p xs ∨ SqT K H p xs) ∧ flatV x = true ∧ xs.all flatV = true ∧ Q (.bl (if neg then !inV x xs else inV x xs)) H
theorem op_in_seq : OpR X (compareOp .In) (rIn X.K false) := by
  intro pins s σ H x y v u Q I rx ry h
  obtain ⟨p, xs, rfl, hq, fx, fs, q⟩ := h
  cases ry
  rcases hq with hq | hq
  · obtain ⟨its, r, pl, hz⟩ := I.list hq
    refine SeqAt.in_listAt (eqU x) pl.isList (fun w hw => mem_eqAt rx fx r fs w (by simpa using hw)) ⟨.bl _, H, I, rfl, ?_⟩
    rw [show its.toArray.any (eqU x) = its.any (eqU x) by simp, any_eqU r fs]
    exact q
  · obtain ⟨its, r, pl, hz⟩ := I.tuple hq
    refine SeqAt.in_tupleAt (eqU x) pl (fun w hw => mem_eqAt rx fx r fs w (by simpa using hw)) ⟨.bl _, H, I, rfl, ?_⟩
    rw [show its.toArray.any (eqU x) = its.any (eqU x) by simp, any_eqU r fs]
    exact q
/-! ### len, list(x), tuple(x) of any list or tuple that is read -/
theorem call_len_seq : CallR X (.builtin "len") (fun xs H Q => ∃ p ys, xs = [.ref p] ∧ (SqL X.K H p ys ∨ SqT X.K H p ys) ∧ Q (.int ys.length) H) := by
  intro pins s σ H xs us Q I r h
  obtain ⟨p, ys, rfl, hq, q⟩ := h
  obtain ⟨u, rfl, rx⟩ := vals1 r
  cases rx
  have hn := line63
  rcases hq with hq | hq
  · obtain ⟨its, r', pl, hz⟩ := I.list hq
    have hlen := r'.length
    exact Calls.call_len_list pl.isList (by simp only [List.size_toArray] <;> omega) ⟨.int ys.length, H, I.tok _, ⟨s.toks + 1, by rw [List.size_toArray, hlen]⟩, q⟩
  · obtain ⟨its, r', pl, hz⟩ := I.tuple hq
    have hlen := r'.length
    exact len_tuple pl (by simp only [List.size_toArray] <;> omega) ⟨.int ys.length, H, I.tok _, ⟨s.toks + 1, by rw [List.size_toArray, hlen]⟩, q⟩
theorem CallR.or {f : Value} {r r' : List V → Hp → VK → Prop} (h : CallR X f r) (h' : CallR X f r') : CallR X f (fun xs H Q => r xs H Q ∨ r' xs H Q) := by
  intro pins s σ H xs us Q I rs q
  rcases q with q | q
  · exact h pins s σ H xs us Q I rs q
  · exact h' pins s σ H xs us Q I rs q
theorem call_list_of : CallR X (.type "list") (fun xs H Q => ∃ p ys, xs = [.ref p] ∧ (SqL X.K H p ys ∨ SqT X.K H p ys) ∧ ∀ l, H l = none → Q (.ref l) (upd H l (.lst ys))) := by
  intro pins s σ H xs us Q I r h
  obtain ⟨p, ys, rfl, hq, q⟩ := h
  obtain ⟨u, rfl, rx⟩ := vals1 r
  cases rx
  have fin : ∀ (its : List Value), Vals ys its → ys.length ≤ sizeLine → ∀ (h' : Heap) (c' : Nat), (∀ b o', s.heap.get? b = some o' → h'.get? b = some o') →
      h'.get? s.heap.objs.size = some { cls := .type "list", dict := none, data := .seq its.toArray c', slots := #[] } → EP X pins σ Q (.ref s.heap.objs.size) { s with heap := h' } := fun its r' hz h' c' kp e =>
    ⟨.ref s.heap.objs.size, _, I.laid (t' := s.toks) kp (Nat.le_refl _) (show ObjOk X.prog X.w _ h' _ (.lst ys) from ⟨hz, its, c', r', e⟩), rfl, q _ (I.hok.fresh (Nat.le_refl _))⟩
  rcases hq with hq | hq
  · obtain ⟨its, r', pl, hz⟩ := I.list hq
    have hlen := r'.length
    obtain ⟨o, ho, hc, n, hd⟩ := pl.isList
    exact call_list_seq p (.inl rfl) ho hc hd (fun h' c' kp e => fin its r' hz h' c' kp e) (by simp only [List.size_toArray] <;> omega)
  · obtain ⟨its, r', pl, hz⟩ := I.tuple hq
    have hlen := r'.length
    obtain ⟨o, ho, hc, n, hd⟩ := pl
    exact call_list_seq p (.inr rfl) ho hc hd (fun h' c' kp e => fin its r' hz h' c' kp e) (by simp only [List.size_toArray] <;> omega)
/-! ### the call of a builtin's method: o.m(..) -/
/-- the value is of that builtin type -/
def tyV (K : PySem.W.Frag) (T : String) (x : V) (H : Hp) : Prop := match x with
  | .str _ => T = "str"
  | .int _ => T = "int"
  | .ref p => (T = "list" ∧ ∃ xs, SqL K H p xs) ∨ (T = "tuple" ∧ ∃ o, K.lookup p = some o ∧ o.cls = .type "tuple" ∧ o.dict = none) ∨
      (T = "dict" ∧ ((∃ kvs, H p = some (.dK kvs)) ∨ ∃ kvs, H p = some (.dT kvs))) ∨ (T = "set" ∧ ∃ S n, H p = some (.set S n))
  | _ => False
theorem tyV_is {pins : List (Addr × Obj)} {σ : St} {H : Hp} {s : Shared} {T : String} {x : V} {v : Value} (I : Inv X pins σ H s) (r : RelV x v) (ty : tyV X.K T x H) :
    s.TypeIs v T ∧ ∀ a, v = .ref a → ∃ ob, s.heap.get? a = some ob ∧ ob.dict = none := by
  cases x with
  | str z =>
    obtain ⟨t, rfl⟩ := r
    cases (show T = "str" from ty)
    exact ⟨typeIs_str s z t, fun _ e => nomatch e⟩
  | int i =>
    obtain ⟨t, rfl⟩ := r
    cases (show T = "int" from ty)
    exact ⟨typeIs_int s i t, fun _ e => nomatch e⟩
  | ref p =>
    cases r
    rcases ty with ⟨rfl, xs, hq⟩ | ⟨rfl, o, hk, hc, hd⟩ | ⟨rfl, hk⟩ | ⟨rfl, S, n, hk⟩
    · obtain ⟨its, _, pl, _⟩ := I.list hq
      refine ⟨pl.isList.typeIs, fun a e => ?_⟩
      cases e
      obtain ⟨o, n, e, c, hd, _⟩ := pl
      exact ⟨o, e, hd⟩
    · refine ⟨⟨o, I.kIn p o hk, hc⟩, fun a e => ?_⟩
      cases e
      exact ⟨o, I.kIn _ o hk, hd⟩
    · have z : ∃ o, s.heap.get? p = some o ∧ o.ExactDict := by
        rcases hk with ⟨kvs, hk⟩ | ⟨kvs, hk⟩
        · obtain ⟨_, _, _, _, o, _, _, e, ex, _⟩ := I.hok p _ hk
          exact ⟨o, e, ex⟩
        · obtain ⟨_, _, _, _, o, _, _, e, ex, _⟩ := I.hok p _ hk
          exact ⟨o, e, ex⟩
      obtain ⟨o, e, ex⟩ := z
      refine ⟨⟨o, e, ex.1⟩, fun a e2 => ?_⟩
      cases e2
      exact ⟨o, e, ex.2.1⟩
    · obtain ⟨o, _, _, _, e, ex, _⟩ := I.hok p _ hk
      refine ⟨⟨o, e, ex.1⟩, fun a e2 => ?_⟩
      cases e2
      exact ⟨o, e, ex.2.1⟩
  | _ => exact False.elim ty
def tBM0 (K : PySem.W.Frag) (T : String) (r : V → List V → Hp → VK → Prop) (to : TE) : TE := fun σ H Q => to σ H fun x H1 => tyV K T x H1 ∧ r x [] H1 Q
def tBM (K : PySem.W.Frag) (T : String) (r : V → List V → Hp → VK → Prop) (to : TE) (t : TA) : TE := fun σ H Q => to σ H fun x H1 => tyV K T x H1 ∧ t σ H1 fun xs H2 => r x xs H2 Q
variable {o e : Expr} {es : List Expr} {to : TE} {t : TA} {name : Str} {apos cpos : Pos} {T id : String} {r : V → List V → Hp → VK → Prop}
theorem pe_bm0 (pa : PlainAttrs T) (slot : Slot T name id) (hty : typeOf (.builtin id) = pure (.type "method_descriptor")) (hm : MtR X id r) (ho : PE X o to)
    (hbase : attributeBase o name X.env (eval o X.env) = eval o X.env := by rfl) (hline : (apos.endLine == cpos.line) = true := by rfl) : PE X (.Call (.Attribute o name apos) [] [] cpos) (tBM0 X.K T r to) := by
  intro pins s σ H Q I h
  refine wpAny_Call_method0_late hbase hline (thn (ho pins s σ H _ I h) fun v s1 ⟨x, H1, I1, r1, ty, q1⟩ => ?_)
  obtain ⟨h1, h2⟩ := tyV_is I1 r1 ty
  exact ⟨T, id, pa, slot, hty, h1, h2, Calls.callWith_builtin rfl (PySem.evalArgs_none (hm pins s1 σ H1 x [] v [] Q I1 r1 .nil q1))⟩
theorem pe_bm (pa : PlainAttrs T) (slot : Slot T name id) (hty : typeOf (.builtin id) = pure (.type "method_descriptor")) (hm : MtR X id r) (ho : PE X o to) (ha : PA X (e :: es) t)
    (hbase : attributeBase o name X.env (eval o X.env) = eval o X.env := by rfl)
    (hfew : ((backTo cpos (starEach (e :: es) X.env)).all (fun x => !x.1) && (backToKw cpos (keywordEach [] X.env)).all (fun x => x.1.isSome)
      && decide ((e :: es).length + ([] : List Keyword).length + (if ([] : List Keyword).isEmpty then 0 else 1) < 30)) = true := by rfl)
    (hline : (apos.endLine == cpos.line) = true := by rfl) (hs : starEach (e :: es) X.env = (false, eval e X.env) :: starEach es X.env := by rfl) (hplain : (backTo cpos (starEach es X.env)).any (·.1) = false := by rfl) :
    PE X (.Call (.Attribute o name apos) (e :: es) [] cpos) (tBM X.K T r to t) := by
  intro pins s σ H Q I h
  refine wpAny_Call_method_late hbase hfew hline rfl (thn (ho pins s σ H _ I h) fun v s1 ⟨x, H1, I1, r1, ty, q1⟩ => ?_)
  obtain ⟨h1, h2⟩ := tyV_is I1 r1 ty
  refine ⟨T, id, pa, slot, hty, h1, h2, ?_⟩
  have hA := ha cpos pins s1 σ H1 _ I1 q1
  rw [hs] at hA ⊢
  refine Calls.callWith_builtin (by show (false || (backTo cpos (starEach es X.env)).any (·.1)) = false; rw [hplain] <;> rfl) (Calls.evalArgs_plain ?_)
  exact thn hA fun us s2 ⟨vs, H2, I2, r2, q2⟩ => hm pins s2 σ H2 x vs v us Q I2 r1 r2 q2
end
end L2

namespace L2
open PySem PySem.Spec PyProof.Rows

def MtM (X : Cx) (id : String) (r : V → List V → Hp → VK → Prop) : Prop :=
  ∀ (pins : List (Addr × Obj)) (s : Shared) (σ : St) (H : Hp) (x : V) (xs : List V) (v : Value) (us : List Value) (Q : VK), Inv X pins σ H s → RelV x v → Vals xs us → r x xs H Q →
    wpAny (model X.prog X.w) X.A (call (.builtin id) (v :: us)) (EP X pins σ Q) X.xe s

/-! ### lists of values -/
theorem Vals.one : ∀ {x : V} {us : List Value}, Vals [x] us → ∃ u, us = [u] ∧ RelV x u
  | _, _, .cons r .nil => ⟨_, rfl, r⟩
theorem Vals.two : ∀ {x y : V} {us : List Value}, Vals [x, y] us → ∃ u v, us = [u, v] ∧ RelV x u ∧ RelV y v
  | _, _, _, .cons r (.cons q .nil) => ⟨_, _, rfl, r, q⟩
theorem Vals.zero : ∀ {us : List Value}, Vals [] us → us = []
  | _, .nil => rfl
theorem Vals.eraseIdx : ∀ {xs : List V} {us : List Value} (i : Nat), Vals xs us → Vals (xs.eraseIdx i) (us.eraseIdx i)
  | _, _, _, .nil => .nil
  | _, _, 0, .cons _ t => t
  | _, _, i + 1, .cons r t => .cons r (Vals.eraseIdx i t)
theorem Vals.reverse {xs : List V} {us : List Value} (h : Vals xs us) : Vals xs.reverse us.reverse := by
  induction h with
  | nil => exact .nil
  | cons r t ih => rw [List.reverse_cons, List.reverse_cons]; exact Vals.append ih (.cons r .nil)
theorem len_erase {α : Type} : ∀ (l : List α) (i : Nat), (l.eraseIdx i).length ≤ l.length
  | [], _ => Nat.le_refl _
  | _ :: _, 0 => Nat.le_succ _
  | _ :: r, i + 1 => Nat.succ_le_succ (len_erase r i)
section
variable {X : Cx} {pins : List (Addr × Obj)} {σ : St} {H : Hp} {s : Shared} {l b : Addr} {xs ys zs : List V}

/-! ### the two steps: a tracked list is rewritten, a new list is laid -/
theorem Inv.lset {its its' : List Value} {n : Nat} {f : Array Value → Array Value} {t' : Nat} (I : Inv X pins σ H s) (hH : H l = some (.lst xs))
    (e : s.heap.get? l = some { cls := .type "list", data := .seq its.toArray n }) (hf : f its.toArray = its'.toArray) (hv : Vals ys its') (hz : ys.length ≤ sizeLine) :
    Inv X pins σ (upd H l (.lst ys)) { s with heap := s.heap.update l (Obj.mapSeq f), toks := t' } := by
  have q := PySem.IsL.update e f
  rw [hf] at q
  refine I.write (x := l) (e := l) (by rw [hH]; exact trivial) (.inl rfl) (fun b' u hb hu => (Heap.get?_update_other s.heap (Obj.mapSeq f) (Ne.symm hb)).trans hu) ⟨_, q⟩ ?_
  exact ⟨hz, its', _, hv, q⟩
theorem Inv.lnew {its : List Value} {t' : Nat} (I : Inv X pins σ H s) (hv : Vals ys its) (hz : ys.length ≤ sizeLine) :
    Inv X pins σ (upd H s.heap.objs.size (.lst ys)) { s with heap := s.heap.push { cls := .type "list", data := .seq its.toArray }, toks := t' } :=
  I.laid (fun _ _ q => Heap.get?_push_of_some _ q) (Nat.le_refl _) ⟨hz, its, 0, hv, Heap.get?_push_size _ rfl⟩
theorem Inv.fresh (I : Inv X pins σ H s) : H s.heap.objs.size = none := I.hok.fresh (Nat.le_refl _)
theorem Inv.lstM (I : Inv X pins σ H s) (hH : H l = some (.lst xs)) : xs.length ≤ sizeLine ∧ ∃ (its : List Value) (n : Nat), Vals xs its ∧ xs.length = its.length ∧ s.heap.get? l = some { cls := .type "list", data := .seq its.toArray n } := by
  obtain ⟨z, its, n, r, e⟩ := I.hok l _ hH
  exact ⟨z, its, n, r, r.length, e⟩

theorem notLongL {n : Nat} (h : n ≤ sizeLine) : Builtin.List.listTooLong n = false := by
  unfold Builtin.List.listTooLong
  exact decide_eq_false (by omega)
end

section
variable {X : Cx}

/-! ### methods -/
def rAppend : V → List V → Hp → VK → Prop := fun x vs H Q => ∃ l xs y, x = .ref l ∧ vs = [y] ∧ H l = some (.lst xs) ∧ xs.length < sizeLine ∧ Q .non (upd H l (.lst (xs ++ [y])))
theorem mt_append : MtM X "list.append" rAppend := by
  intro pins s σ H x vs v us Q I rx rv h
  obtain ⟨l, xs, y, rfl, rfl, hH, hz, q⟩ := h
  cases rx
  obtain ⟨u, rfl, ru⟩ := rv.one
  obtain ⟨z, its, n, r, hl, e⟩ := I.lstM hH
  refine call_meets F.slot_list_append ⟨_, e, rfl⟩ F.entry_list_append (F.args_list_append_2 _ _) (PySem.list_append l its.toArray n u (by rw [List.size_toArray]; omega)) ⟨e, ?_⟩
  refine ⟨.non, _, I.lset (its' := its ++ [u]) hH e (by simp) (r.append (.cons ru .nil)) ?_, rfl, q⟩
  rw [List.length_append, List.length_singleton]
  omega

def rExtend : V → List V → Hp → VK → Prop := fun x vs H Q => ∃ l b xs zs, x = .ref l ∧ vs = [.ref b] ∧ H l = some (.lst xs) ∧ H b = some (.lst zs) ∧ xs.length + zs.length ≤ sizeLine ∧ Q .non (upd H l (.lst (xs ++ zs)))
theorem mt_extend : MtM X "list.extend" rExtend := by
  intro pins s σ H x vs v us Q I rx rv h
  obtain ⟨l, b, xs, zs, rfl, rfl, hH, hB, hz, q⟩ := h
  cases rx
  obtain ⟨u, rfl, ru⟩ := rv.one
  cases ru
  obtain ⟨z, its, n, r, hl, e⟩ := I.lstM hH
  obtain ⟨z2, its2, n2, r2, hl2, e2⟩ := I.lstM hB
  have hsz : its.toArray.size + its2.toArray.size ≤ sizeLine := by rw [List.size_toArray, List.size_toArray]; omega
  have hlong : ¬ (!its.toArray.isEmpty && Builtin.List.listTooLong (its.toArray.size + its2.toArray.size)) = true := by
    rw [notLongL hsz, Bool.and_false]
    exact Bool.false_ne_true
  refine call_meets F.slot_list_extend ⟨_, e, rfl⟩ F.entry_list_extend (F.args_list_extend_2 _ _)
    (AutoSeq1.list_extend_list_list_0 l its.toArray n b its2.toArray n2 hlong (by rw [List.size_toArray]; omega) (by omega)) ⟨e, e2, ?_⟩
  refine ⟨.non, _, I.lset (its' := its ++ its2) hH e (by simp) (r.append r2) ?_, rfl, q⟩
  rw [List.length_append]
  omega

def rPopAt : V → List V → Hp → VK → Prop := fun x vs H Q => ∃ l xs i k y, x = .ref l ∧ vs = [.int i] ∧ H l = some (.lst xs) ∧ -(2 ^ 63) ≤ i ∧ i < 2 ^ 63 ∧ seqIndex? i xs.length = some k ∧ xs[k]? = some y ∧ Q y (upd H l (.lst (xs.eraseIdx k)))
theorem mt_popAt : MtM X "list.pop" rPopAt := by
  intro pins s σ H x vs v us Q I rx rv h
  obtain ⟨l, xs, i, k, y, rfl, rfl, hH, h1, h2, hk, hy, q⟩ := h
  cases rx
  obtain ⟨u, rfl, ru⟩ := rv.one
  obtain ⟨t, rfl⟩ := ru
  obtain ⟨z, its, n, r, hl, e⟩ := I.lstM hH
  obtain ⟨w, hw, rw'⟩ := r.get hy
  refine call_meets F.slot_list_pop ⟨_, e, rfl⟩ F.entry_list_pop (F.args_list_pop_2 _ _)
    (MeetsSeq.list_pop_at l its.toArray n i t k w (fitsIndex_both h1 h2) (by rw [List.size_toArray, ← hl]; exact hk) (by rw [← Array.getElem?_toList]; exact hw) (by rw [List.size_toArray]; omega)) ⟨e, ?_⟩
  refine ⟨y, _, I.lset (its' := its.eraseIdx k) hH e ?_ (r.eraseIdx k) ?_, rw', q⟩
  · show its.toArray.eraseIdxIfInBounds k = (its.eraseIdx k).toArray
    rw [List.eraseIdxIfInBounds_toArray]
  · have := len_erase xs k
    omega

/-! ### list + list, list += list, list * int -/
def rCat : R2 := fun x y H Q => ∃ l b xs zs, x = .ref l ∧ y = .ref b ∧ H l = some (.lst xs) ∧ H b = some (.lst zs) ∧ xs.length + zs.length ≤ sizeLine ∧ ∀ p, H p = none → Q (.ref p) (upd H p (.lst (xs ++ zs)))
theorem op_cat : OpR X (binaryOp .Add) rCat := by
  intro pins s σ H x y v u Q I rx ry h
  obtain ⟨l, b, xs, zs, rfl, rfl, hH, hB, hz, q⟩ := h
  cases rx
  cases ry
  obtain ⟨z, its, n, r, hl, e⟩ := I.lstM hH
  obtain ⟨z2, its2, n2, r2, hl2, e2⟩ := I.lstM hB
  refine PySem.P.add_list e e2 ?_ (by rw [List.size_toArray, List.size_toArray]; omega)
  have ea : its.toArray ++ its2.toArray = (its ++ its2).toArray := by simp
  rw [ea]
  exact ⟨.ref _, _, I.lnew (t' := s.toks) (r.append r2) (by rw [List.length_append]; omega), rfl, q _ I.fresh⟩
/-! ### del xs[i] -/
end

/-! ### xs[a:b] = ys -/
section
variable {prog : Program} {w : World} {A : Around} {E : Value → Shared → Prop} {s : Shared}
end

section
variable {X : Cx}
end
end L2

namespace L2
open PySem PySem.Spec PyProof.Rows

/-! ### lists of pairs as tables -/
section
variable {κ : Type} [DecidableEq κ]
def valV (kvs : List (κ × V)) (k : κ) : Option V := (kvs.find? fun kv => decide (kv.1 = k)).map (·.2)
/-- in its place, or at the end -/
def putK (kvs : List (κ × V)) (k : κ) (v : V) : List (κ × V) :=
  if (kvs.any fun kv => decide (kv.1 = k)) = true then kvs.map (fun kv => if kv.1 = k then (kv.1, v) else kv) else kvs ++ [(k, v)]
def dropK (kvs : List (κ × V)) (k : κ) : List (κ × V) := kvs.filter fun kv => decide (kv.1 ≠ k)

theorem valV_pos {p : κ × V} {r : List (κ × V)} {k : κ} (e : p.1 = k) : valV (p :: r) k = some p.2 := by simp [valV, List.find?_cons, e]
theorem valV_neg {p : κ × V} {r : List (κ × V)} {k : κ} (e : ¬ p.1 = k) : valV (p :: r) k = valV r k := by simp [valV, List.find?_cons, e]
theorem valV_any (k : κ) : ∀ kvs : List (κ × V), (kvs.any fun kv => decide (kv.1 = k)) = (valV kvs k).isSome
  | [] => rfl
  | p :: r => by
    rw [List.any_cons]
    by_cases e : p.1 = k
    · simp only [valV_pos e, decide_eq_true e, Bool.true_or, Option.isSome_some]
    · rw [valV_neg e, decide_eq_false e, Bool.false_or]; exact valV_any k r
theorem length_putK (kvs : List (κ × V)) (k : κ) (v : V) : (putK kvs k v).length ≤ kvs.length + 1 := by
  unfold putK
  split
  · rw [List.length_map]; omega
  · rw [List.length_append, List.length_cons, List.length_nil]; omega
theorem putK_new {kvs : List (κ × V)} {k : κ} (v : V) (h : valV kvs k = none) : putK kvs k v = kvs ++ [(k, v)] := by
  unfold putK
  rw [valV_any, h]
  exact if_neg (by decide)

theorem RelO.isSome_eq {o : Option V} {u : Option Value} (r : RelO o u) : o.isSome = u.isSome := by
  cases o with
  | none => cases u with
    | none => rfl
    | some _ => exact (show False from r).elim
  | some _ => cases u with
    | none => exact (show False from r).elim
    | some _ => rfl
theorem RelO.getD {o : Option V} {u : Option Value} {d : V} {d' : Value} (r : RelO o u) (rd : RelV d d') : RelV (o.getD d) (u.getD d') := by
  cases o with
  | none => cases u with
    | none => exact rd
    | some _ => exact (show False from r).elim
  | some _ => cases u with
    | none => exact (show False from r).elim
    | some _ => exact r

/-- raw tables of the same keys -/
theorem KV.val {kvs : List (κ × V)} {vs : List (κ × Value)} (r : KV kvs vs) (k : κ) : RelO (valV kvs k) (valueAt vs k) := by
  unfold KV at r
  induction r with
  | nil => exact True.intro
  | @cons p q ps qs h t ih =>
    obtain ⟨h1, h2⟩ := h
    by_cases e : p.1 = k
    · have e' : q.1 = k := h1.symm.trans e
      have b : valueAt (q :: qs) k = some q.2 := by simp [valueAt, List.find?_cons, e']
      rw [valV_pos e, b]; exact h2
    · have e' : ¬ q.1 = k := fun z => e (h1.trans z)
      have b : valueAt (q :: qs) k = valueAt qs k := by simp [valueAt, List.find?_cons, e']
      rw [valV_neg e, b]; exact ih
theorem KV.any {kvs : List (κ × V)} {vs : List (κ × Value)} (r : KV kvs vs) (k : κ) : (kvs.any fun kv => decide (kv.1 = k)) = vs.any fun kv => decide (kv.1 = k) := by
  unfold KV at r
  induction r with
  | nil => rfl
  | cons h t ih => rw [List.any_cons, List.any_cons, ih, h.1]
theorem KV.repl {kvs : List (κ × V)} {vs : List (κ × Value)} (r : KV kvs vs) (k : κ) {y : V} {u : Value} (ry : RelV y u) :
    KV (kvs.map fun kv => if kv.1 = k then (kv.1, y) else kv) (vs.map fun kv => if kv.1 = k then (kv.1, u) else kv) := by
  unfold KV at r ⊢
  induction r with
  | nil => exact .nil
  | @cons p q ps qs h t ih =>
    rw [List.map_cons, List.map_cons]
    refine .cons ?_ ih
    obtain ⟨h1, h2⟩ := h
    by_cases e : p.1 = k
    · rw [if_pos e, if_pos (h1.symm.trans e)]; exact ⟨h1, ry⟩
    · rw [if_neg e, if_neg (fun z => e (h1.trans z))]; exact ⟨h1, h2⟩
theorem KV.put {kvs : List (κ × V)} {vs : List (κ × Value)} (r : KV kvs vs) (k : κ) {y : V} {u : Value} (ry : RelV y u) : KV (putK kvs k y) (stored vs k u) := by
  unfold putK stored
  rw [r.any k]
  by_cases e : (vs.any fun kv => decide (kv.1 = k)) = true
  · rw [if_pos e, if_pos e]; exact r.repl k ry
  · rw [if_neg e, if_neg e]; exact Paired.snoc r ⟨rfl, ry⟩
theorem KV.drop {kvs : List (κ × V)} {vs : List (κ × Value)} (r : KV kvs vs) (k : κ) : KV (dropK kvs k) (without vs k) := by
  unfold KV at r ⊢
  unfold dropK without
  induction r with
  | nil => exact .nil
  | @cons p q ps qs h t ih =>
    obtain ⟨h1, h2⟩ := h
    rw [List.filter_cons, List.filter_cons]
    by_cases e : p.1 = k
    · have a : ¬ decide (p.1 ≠ k) = true := by simp [e]
      have b : ¬ decide (q.1 ≠ k) = true := by simp [h1.symm.trans e]
      rw [if_neg a, if_neg b]; exact ih
    · have e' : ¬ q.1 = k := fun z => e (h1.trans z)
      have a : decide (p.1 ≠ k) = true := by simp [e]
      have b : decide (q.1 ≠ k) = true := by simp [e']
      rw [if_pos a, if_pos b]; exact .cons ⟨h1, h2⟩ ih
theorem KV.keys {kvs : List (κ × V)} {vs : List (κ × Value)} (r : KV kvs vs) : kvs.map (·.1) = vs.map (·.1) := by
  unfold KV at r
  induction r with
  | nil => rfl
  | cons h t ih => rw [List.map_cons, List.map_cons, ih, h.1]
theorem KV.length {kvs : List (κ × V)} {vs : List (κ × Value)} (r : KV kvs vs) : kvs.length = vs.length := Paired.length r
theorem dropK_le (kvs : List (κ × V)) (k : κ) : (dropK kvs k).length ≤ kvs.length := List.length_filter_le _ _
end


/-! ### a tracked dict, its keys ints and texts or tuples of these -/
theorem kV_is {P : Program} {w : World} {k : Key} {u : Value} (r : RelV (kV k) u) : (mixKind P w).is k u = true := by
  cases k with
  | inl i => obtain ⟨t, e⟩ := (show ∃ t, u = Value.int i t from r); subst e; exact mixKind_int P w i t
  | inr x => obtain ⟨t, e⟩ := (show ∃ t, u = Value.str x t from r); subst e; exact mixKind_str P w x t
theorem items_are {P : Program} {w : World} : ∀ {ks : List Key} {us : List Value}, Vals (ks.map kV) us → ItemsAre (mixKind P w) ks us
  | [], _, r => by rw [List.map_nil] at r; cases r; exact .nil
  | k :: ks, _, r => by
    rw [List.map_cons] at r
    cases r with
    | cons h t => exact .cons (kV_is h) (items_are t)

/-- raw entries of a dict with tuple keys -/
abbrev KT (H : Hp) : List (List Key × V) → List (List Key × Addr × Value) → Prop := Paired fun p q => p.1 = q.1 ∧ H q.2.1 = some (.tup (p.1.map kV)) ∧ RelV p.2 q.2.2
theorem KT.val {H : Hp} {kvs : List (List Key × V)} {xs : List (List Key × Addr × Value)} (r : KT H kvs xs) (k : List Key) : RelO (valV kvs k) ((atKey xs k).map (·.2)) := by
  induction r with
  | nil => exact True.intro
  | @cons p q ps qs h t ih =>
    obtain ⟨h1, _, h2⟩ := h
    by_cases e : p.1 = k
    · have e' : q.1 = k := h1.symm.trans e
      have b : atKey (q :: qs) k = some q.2 := by simp [atKey, List.find?_cons, e']
      rw [valV_pos e, b]; exact h2
    · have e' : ¬ q.1 = k := fun z => e (h1.trans z)
      have b : atKey (q :: qs) k = atKey qs k := by simp [atKey, List.find?_cons, e']
      rw [valV_neg e, b]; exact ih
theorem KT.repl {H : Hp} {kvs : List (List Key × V)} {xs : List (List Key × Addr × Value)} (r : KT H kvs xs) (k : List Key) {y : V} {u : Value} (ry : RelV y u) :
    KT H (kvs.map fun kv => if kv.1 = k then (kv.1, y) else kv) (xs.map (putAt k u)) := by
  induction r with
  | nil => exact .nil
  | @cons p q ps qs h t ih =>
    rw [List.map_cons, List.map_cons]
    refine .cons ?_ ih
    obtain ⟨h1, h2, h3⟩ := h
    unfold putAt
    by_cases e : p.1 = k
    · rw [if_pos e, if_pos (h1.symm.trans e)]; exact ⟨h1, h2, ry⟩
    · rw [if_neg e, if_neg (fun z => e (h1.trans z))]; exact ⟨h1, h2, h3⟩
theorem KT.put {H : Hp} {kvs : List (List Key × V)} {xs : List (List Key × Addr × Value)} (r : KT H kvs xs) (k : List Key) {b : Addr} {y : V} {u : Value} (hb : H b = some (.tup (k.map kV))) (ry : RelV y u) :
    KT H (putK kvs k y) (storedH xs k b u) := by
  have e : (kvs.any fun kv => decide (kv.1 = k)) = (atKey xs k).isSome := by
    rw [valV_any, (r.val k).isSome_eq, Option.isSome_map]
  unfold putK storedH
  rw [e]
  by_cases q : (atKey xs k).isSome = true
  · rw [if_pos q, if_pos q]; exact r.repl k ry
  · rw [if_neg q, if_neg q]; exact Paired.snoc r ⟨rfl, hb, ry⟩
theorem KT.keeps {H H' : Hp} {kvs : List (List Key × V)} {xs : List (List Key × Addr × Value)} (r : KT H kvs xs) (ht : ∀ b ys, H b = some (.tup ys) → H' b = some (.tup ys)) : KT H' kvs xs :=
  Paired.mapP r fun _ _ z => ⟨z.1, ht _ _ z.2.1, z.2.2⟩

section
variable {P : Program} {w : World} {H : Hp} {h : Heap} {a : Addr}
theorem rd_of {u : HO} (ok : HOk P w H h) (e : Rd H a u) : ObjOk P w H h a u := e.ok ok
theorem dk_rd {kvs : List (Key × V)} (ok : HOk P w H h) (e : Rd H a (.dK kvs)) : kvs.length ≤ sizeLine ∧ (a == sysModules) = false ∧ ∃ vs, KV kvs vs ∧ h.DictOf (mixKind P w) a vs :=
  show ObjOk P w H h a (.dK kvs) from rd_of ok e
theorem dk_of {kvs : List (Key × V)} (ok : HOk P w H h) (e : H a = some (.dK kvs)) : kvs.length ≤ sizeLine ∧ (a == sysModules) = false ∧ ∃ vs, KV kvs vs ∧ h.DictOf (mixKind P w) a vs := dk_rd ok (.inl e)
/-- a tracked tuple of ints and texts is a key -/
theorem key_of {ks : List Key} (ok : HOk P w H h) (e : H a = some (.tup (ks.map kV))) : (tupleKind (mixKind P w)).is h ks a := by
  obtain ⟨_, its, r, o, h1, h2, n, h3⟩ := (show ObjOk P w H h a (.tup (ks.map kV)) from ok a _ e)
  exact ⟨o, its.toArray, n, h1, h2, h3, by simpa using items_are r⟩
theorem dt_rd {kvs : List (List Key × V)} (ok : HOk P w H h) (e : Rd H a (.dT kvs)) : kvs.length ≤ sizeLine ∧ (a == sysModules) = false ∧
    ∃ xs, KT H kvs xs ∧ h.DictOfH (tupleKind (mixKind P w)) a xs := by
  obtain ⟨z, y, xs, r, o, es, ep, h1, h2, h3, h4, h5⟩ := (show ObjOk P w H h a (.dT kvs) from rd_of ok e)
  refine ⟨z, y, xs, r, o, es, ep, h1, h2, h3, h4, fun x hx => ?_, h5⟩
  have all : ∀ {l : List (List Key × V)} {m : List (List Key × Addr × Value)}, KT H l m → ∀ x ∈ m, (tupleKind (mixKind P w)).is h x.1 x.2.1 := by
    intro l m q
    induction q with
    | nil => intro x hx; exact nomatch hx
    | @cons p q ps qs hq t ih =>
      intro x hx
      rcases List.mem_cons.mp hx with e | hx
      · subst e
        exact key_of ok (by rw [← hq.1]; exact hq.2.1)
      · exact ih x hx
  exact all r x hx
theorem dt_of {kvs : List (List Key × V)} (ok : HOk P w H h) (e : H a = some (.dT kvs)) : kvs.length ≤ sizeLine ∧ (a == sysModules) = false ∧
    ∃ xs, KT H kvs xs ∧ h.DictOfH (tupleKind (mixKind P w)) a xs := dt_rd ok (.inl e)
end

/-- what the dict at a holds at the key y -/
def DGet (H : Hp) (a : Addr) (y : V) (r : Option V) : Prop :=
  (∃ kvs k, Rd H a (.dK kvs) ∧ y = kV k ∧ r = valV kvs k) ∨ ∃ kvs k b, Rd H a (.dT kvs) ∧ y = .ref b ∧ H b = some (.tup (k.map kV)) ∧ r = valV kvs k
/-- the heap behind a[y] = v -/
def DPut (H : Hp) (a : Addr) (y v : V) (H' : Hp) : Prop :=
  (∃ kvs k, H a = some (.dK kvs) ∧ y = kV k ∧ kvs.length < sizeLine ∧ H' = upd H a (.dK (putK kvs k v))) ∨
  ∃ kvs k b, H a = some (.dT kvs) ∧ y = .ref b ∧ H b = some (.tup (k.map kV)) ∧ kvs.length < sizeLine ∧ H' = upd H a (.dT (putK kvs k v))
theorem DGet.k {H : Hp} {a : Addr} {kvs : List (Key × V)} {k : Key} (e : H a = some (.dK kvs)) : DGet H a (kV k) (valV kvs k) := .inl ⟨kvs, k, .inl e, rfl, rfl⟩
theorem DGet.t {H : Hp} {a b : Addr} {kvs : List (List Key × V)} {k : List Key} (e : H a = some (.dT kvs)) (eb : H b = some (.tup (k.map kV))) : DGet H a (.ref b) (valV kvs k) := .inr ⟨kvs, k, b, .inl e, rfl, eb, rfl⟩
theorem DPut.k {H : Hp} {a : Addr} {kvs : List (Key × V)} {k : Key} {v : V} (e : H a = some (.dK kvs)) (hl : kvs.length < sizeLine) : DPut H a (kV k) v (upd H a (.dK (putK kvs k v))) := .inl ⟨kvs, k, e, rfl, hl, rfl⟩
theorem DPut.t {H : Hp} {a b : Addr} {kvs : List (List Key × V)} {k : List Key} {v : V} (e : H a = some (.dT kvs)) (eb : H b = some (.tup (k.map kV))) (hl : kvs.length < sizeLine) :
    DPut H a (.ref b) v (upd H a (.dT (putK kvs k v))) := .inr ⟨kvs, k, b, e, rfl, eb, hl, rfl⟩


section
variable {X : Cx} {pins : List (Addr × Obj)} {σ : St} {H : Hp} {s : Shared} {a : Addr} {y v : V} {u r : Value} {o : Option V} {A : Around} {E : Value → Shared → Prop}

theorem Inv.big (I : Inv X pins σ H s) : sysModules < s.heap.objs.size := by
  have h : mainGlobals < s.heap.objs.size := (I.mod.glob.keeps I.bk).lt
  exact Nat.lt_trans (by decide) h

/-- d[y], there -/
theorem d_getItem {Q : Value → Shared → Prop} (hu : A.units + 1 < cLine) (I : Inv X pins σ H s) (g : DGet H a y (some v)) (ry : RelV y u) (h : ∀ w' s', Inv X pins σ H s' → RelV v w' → Q w' s') :
    wpAny (model X.prog X.w) A (getItem (.ref a) u) Q E s := by
  rcases g with ⟨kvs, k, e, ey, l⟩ | ⟨kvs, k, b, e, ey, eb, l⟩
  · subst ey
    obtain ⟨z, hd, vs, rel, dd⟩ := dk_rd I.hok e
    obtain ⟨w', hw, rw'⟩ := RelO.some_of (v := v) (o := valueAt vs k) (by rw [l]; exact rel.val k)
    exact wpAny_getItem_of (kV_is ry) dd.mapOf hw (h w' _ (I.tok _) rw')
  · subst ey
    cases (show u = Value.ref b from ry)
    obtain ⟨z, hd, xs, rel, dd⟩ := dt_rd I.hok e
    obtain ⟨w', hw, rw'⟩ := RelO.some_of (v := v) (o := (atKey xs k).map (·.2)) (by rw [l]; exact rel.val k)
    obtain ⟨p, hp, hp2⟩ := Option.map_eq_some_iff.mp hw
    refine wpAny_getItem_heap (tupleKind_room_in1 hu) (key_of I.hok eb) dd hp ?_
    rw [hp2]
    exact h w' _ (I.tok _) rw'
/-- y in d -/
theorem d_in {Q : Value → Shared → Prop} (hu : A.units + 1 < cLine) (I : Inv X pins σ H s) (g : DGet H a y o) (ry : RelV y u) (h : ∀ s', Inv X pins σ H s' → Q (.bool o.isSome) s') :
    wpAny (model X.prog X.w) A (compareOp .In u (.ref a)) Q E s := by
  rcases g with ⟨kvs, k, e, ey, l⟩ | ⟨kvs, k, b, e, ey, eb, l⟩
  · subst ey
    obtain ⟨z, hd, vs, rel, dd⟩ := dk_rd I.hok e
    refine wpAny_in_of (kV_is ry) hd dd.mapOf ?_
    rw [← (rel.val k).isSome_eq, ← l]
    exact h _ (I.tok _)
  · subst ey
    cases (show u = Value.ref b from ry)
    obtain ⟨z, hd, xs, rel, dd⟩ := dt_rd I.hok e
    refine wpAny_in_heap (tupleKind_room_in1 hu) (key_of I.hok eb) hd dd ?_
    have q := (rel.val k).isSome_eq
    rw [Option.isSome_map] at q
    rw [← q, ← l]
    exact h _ (I.tok _)
theorem d_notIn {Q : Value → Shared → Prop} (hu : A.units + 1 < cLine) (I : Inv X pins σ H s) (g : DGet H a y o) (ry : RelV y u) (h : ∀ s', Inv X pins σ H s' → Q (.bool (!o.isSome)) s') :
    wpAny (model X.prog X.w) A (compareOp .NotIn u (.ref a)) Q E s := by
  rcases g with ⟨kvs, k, e, ey, l⟩ | ⟨kvs, k, b, e, ey, eb, l⟩
  · subst ey
    obtain ⟨z, hd, vs, rel, dd⟩ := dk_rd I.hok e
    refine wpAny_notIn_of (kV_is ry) hd dd.mapOf ?_
    rw [← (rel.val k).isSome_eq, ← l]
    exact h _ (I.tok _)
  · subst ey
    cases (show u = Value.ref b from ry)
    obtain ⟨z, hd, xs, rel, dd⟩ := dt_rd I.hok e
    refine wpAny_notIn_heap (tupleKind_room_in1 hu) (key_of I.hok eb) hd dd ?_
    have q := (rel.val k).isSome_eq
    rw [Option.isSome_map] at q
    rw [← q, ← l]
    exact h _ (I.tok _)
/-- a dict's object is replaced -/
theorem d_write {h' : Heap} {t' : Nat} {ob : HO} (I : Inv X pins σ H s) (mu : Mut (H a)) (hs : Heap.SameBut a s.heap h') (he : ∃ q, h'.get? a = some q) (new : ObjOk X.prog X.w (upd H a ob) h' a ob) :
    Inv X pins σ (upd H a ob) { s with heap := h', toks := t' } :=
  I.write (x := a) (e := a) mu (.inl rfl) (fun b q hb z => (hs.2 b hb).trans z) he new
theorem dk_new {P : Program} {w : World} {H' : Hp} {h' : Heap} {kvs : List (Key × V)} {vs : List (Key × Value)} (z : kvs.length ≤ sizeLine) (hd : (a == sysModules) = false) (rel : KV kvs vs) (dd : h'.DictOf (mixKind P w) a vs) :
    ObjOk P w H' h' a (.dK kvs) := ⟨z, hd, vs, rel, dd⟩
/-- d[y] = v -/
theorem d_setItem {H' : Hp} {Q : Unit → Shared → Prop} (hu : A.units + 1 < cLine) (I : Inv X pins σ H s) (g : DPut H a y v H') (ry : RelV y u) (rv : RelV v r) (h : ∀ s', Inv X pins σ H' s' → Q () s') :
    wpAny (model X.prog X.w) A (setItem (.ref a) u r) Q E s := by
  rcases g with ⟨kvs, k, e, ey, l, eH⟩ | ⟨kvs, k, b, e, ey, eb, l, eH⟩
  · subst ey eH
    obtain ⟨z, hd, vs, rel, dd⟩ := dk_of I.hok e
    have hz : vs.length ≤ sizeLine := by rw [← rel.length]; exact z
    have hl : (putK kvs k v).length ≤ sizeLine := by have := length_putK kvs k v; omega
    refine wpAny_setItem_pairs (hsz := hz) (kV_is ry) dd fun h' dd' hs => h _ ?_
    have he : ∃ q, h'.get? a = some q := let ⟨q, _, _, hq, _⟩ := dd'; ⟨q, hq⟩
    exact d_write I (by rw [e]; exact True.intro) hs he (dk_new hl hd (rel.put k rv) dd')
  · subst ey eH
    cases (show u = Value.ref b from ry)
    obtain ⟨z, hd, xs, rel, dd⟩ := dt_of I.hok e
    have hz : xs.length ≤ sizeLine := by rw [← Paired.length rel]; exact z
    have hl : (putK kvs k v).length ≤ sizeLine := by have := length_putK kvs k v; omega
    refine wpAny_setItem_heap (hsz := hz) (tupleKind_room_in1 hu) (key_of I.hok eb) dd fun h' dd' hs => h _ ?_
    obtain ⟨q, es, ep, hq, h2, h3, h4, _, h5⟩ := dd'
    refine d_write I (by rw [e]; exact True.intro) hs ⟨q, hq⟩ ⟨hl, hd, _, (rel.put k eb rv).keeps fun c ys ec => ?_, q, es, ep, hq, h2, h3, h4, h5⟩
    rw [upd_ne (ne_of ec e (fun z => nomatch z))]
    exact ec
end

section
variable {X : Cx} {pins : List (Addr × Obj)} {σ : St} {H : Hp} {s : Shared} {a : Addr} {kvs : List (Key × V)} {k : Key} {u : Value} {A : Around} {E : Value → Shared → Prop}
/-- d.pop(k[, x]), there -/
theorem d_pop {v : V} {more : List Value} {Q : Value → Shared → Prop} (I : Inv X pins σ H s) (e : H a = some (.dK kvs)) (ry : RelV (kV k) u) (l : valV kvs k = some v) (hm : more = [] ∨ ∃ x, more = [x])
    (h : ∀ w' s', Inv X pins σ (upd H a (.dK (dropK kvs k))) s' → RelV v w' → Q w' s') : wpAny (model X.prog X.w) A (call (.builtin "dict.pop") (.ref a :: u :: more)) Q E s := by
  obtain ⟨z, hd, vs, rel, dd⟩ := dk_of I.hok e
  obtain ⟨w', hw, rw'⟩ := RelO.some_of (v := v) (o := valueAt vs k) (by rw [← l]; exact rel.val k)
  have hp : (keyPart u).isSome = true := by
    cases k with
    | inl i => obtain ⟨t, q⟩ := (show ∃ t, u = Value.int i t from ry); subst q; rfl
    | inr x => obtain ⟨t, q⟩ := (show ∃ t, u = Value.str x t from ry); subst q; rfl
  have ha : argsOk "dict.pop" ⟨.ref a :: u :: more, []⟩ := by
    rcases hm with q | ⟨x, q⟩
    · subst q; exact PySem.F.args_dict_pop_2 _ _
    · subst q; exact PySem.F.args_dict_pop_3 _ _ _
  refine call_meetsIn PySem.F.slot_dict_pop dd.typeIs PySem.F.entry_dict_pop ha (meets_dict_pop_there (mixKind X.prog X.w) a (kV_is ry) more hm hp)
    ⟨vs, w', dd, by rw [← rel.length]; exact z, hw, fun h' dd' hs => h w' _ ?_ rw'⟩
  have he : ∃ q, h'.get? a = some q := let ⟨q, _, _, hq, _⟩ := dd'; ⟨q, hq⟩
  exact d_write I (by rw [e]; exact True.intro) hs he (dk_new (Nat.le_trans (dropK_le kvs k) z) hd (rel.drop k) dd')
end


/-! ### readings and rules -/
/-- the element of a subscription, not a slice -/
def NoSl (i : Expr) : Prop := ∀ ov iv, subscripted i false ov iv = operate [ov, iv] (getItem ov iv)
theorem subD_of {prog : Program} {w : World} {A : Around} {E : Value → Shared → Prop} {s : Shared} {env : Env} {value slice : Expr} {pos : Pos} {T id : String} {Q : Value → Shared → Prop}
    (hl : typeLookup (.type T) "__getitem__" = pure (some (.builtin id))) (hs : NoSl slice)
    (h : wpAny (model prog w) A (eval value env) (fun o s₁ => wpAny (model prog w) A (eval slice env) (fun i s₂ => s₂.TypeIs o T ∧ wpAny (model prog w) A (getItem o i) Q E s₂) E s₁) E s) :
    wpAny (model prog w) A (eval (.Subscript value slice pos) env) Q E s := by
  refine Subscript_ (wpAny_mono h (fun o s₁ h₁ => wpAny_mono h₁ (fun i s₂ h₂ => ?_) fun _ _ x => x) fun _ _ x => x)
  obtain ⟨hT, h₂⟩ := h₂
  unfold subscriptTail
  refine wpAny_bind ?_
  rw [getitemInPython_of_ne hT.not_modules]
  refine wpAny_bind (wpAny_specialOf hT hl ?_)
  have fin : wpAny (model prog w) A (subscripted slice false o i) (fun r s₃ => wpAny (model prog w) A (letTemporaryGo value o r >>= fun _ => pure r) Q E s₃) E s₂ := by
    rw [hs o i]
    exact wpAny_operating (wpAny_mono h₂ (fun r s₃ h₃ => wpAny_bind (wpAny_letTemporaryGo (wpAny_pure h₃))) fun _ _ x => x)
  first
    | exact wpAny_pure (wpAny_bind fin)
    | exact wpAny_bind (wpAny_pure (wpAny_bind fin))
    | exact wpAny_bind fin

theorem dict_typeIs {X : Cx} {pins : List (Addr × Obj)} {σ : St} {H : Hp} {s : Shared} {a : Addr} {y : V} {o : Option V} (I : Inv X pins σ H s) (g : DGet H a y o) : s.TypeIs (.ref a) "dict" := by
  rcases g with ⟨kvs, k, e, _, _⟩ | ⟨kvs, k, b, e, _, _, _⟩
  · obtain ⟨_, _, vs, _, dd⟩ := dk_rd I.hok e
    exact dd.typeIs
  · obtain ⟨_, _, xs, _, dd⟩ := dt_rd I.hok e
    exact dd.typeIs
/-- d[y] -/
def tDGet (td ty : TE) : TE := fun σ H Q => td σ H fun x H1 => ty σ H1 fun y H2 => ∃ a v, x = .ref a ∧ DGet H2 a y (some v) ∧ Q v H2
/-- y in d, y not in d -/
def tDIn (ty td : TE) : TE := fun σ H Q => ty σ H fun y H1 => td σ H1 fun x H2 => ∃ a o, x = .ref a ∧ DGet H2 a y o ∧ Q (.bl o.isSome) H2
def tDNotIn (ty td : TE) : TE := fun σ H Q => ty σ H fun y H1 => td σ H1 fun x H2 => ∃ a o, x = .ref a ∧ DGet H2 a y o ∧ Q (.bl (!o.isSome)) H2
/-- d[y] = v -/
def sDPut (td ty tv : TE) : TS := fun D σ H => tv σ H fun v H1 => td σ H1 fun x H2 => ty σ H2 fun y H3 => ∃ a H4, x = .ref a ∧ DPut H3 a y v H4 ∧ D.nx σ H4
section
variable {X : Cx} {o i e value : Expr} {pos pos' tpos : Pos} {td ty tv : TE}
theorem pe_dget (hu : X.A.units + 1 < cLine) (ho : PE X o td) (hi : PE X i ty) (hs : NoSl i) : PE X (.Subscript o i pos) (tDGet td ty) := by
  intro pins s σ H Q I h
  refine subD_of PySem.F.slot_dict_getitem.lookup hs (thn (ho pins s σ H _ I h) fun u s1 ⟨x, H1, I1, rx, q1⟩ => thn (hi pins s1 σ H1 _ I1 q1) fun iv s2 ⟨y, H2, I2, ry, a, v, ex, g, q2⟩ => ?_)
  subst ex
  obtain rfl : u = Value.ref a := rx
  exact ⟨dict_typeIs I2 g, d_getItem hu I2 g ry fun w' s3 I3 rw' => ⟨v, H2, I3, rw', q2⟩⟩
theorem pc_din (hu : X.A.units + 1 < cLine) (hi : PE X i ty) (ho : PE X o td) : PC X .In i o (tDIn ty td) := by
  intro pins s σ H Q I h
  refine thn (hi pins s σ H _ I h) fun iv s1 ⟨y, H1, I1, ry, q1⟩ => thn (ho pins s1 σ H1 _ I1 q1) fun u s2 ⟨x, H2, I2, rx, a, ov, ex, g, q2⟩ => ?_
  subst ex
  obtain rfl : u = Value.ref a := rx
  exact d_in hu I2 g ry fun s3 I3 => ⟨.bl ov.isSome, H2, I3, rfl, q2⟩
theorem pc_dnotin (hu : X.A.units + 1 < cLine) (hi : PE X i ty) (ho : PE X o td) : PC X .NotIn i o (tDNotIn ty td) := by
  intro pins s σ H Q I h
  refine thn (hi pins s σ H _ I h) fun iv s1 ⟨y, H1, I1, ry, q1⟩ => thn (ho pins s1 σ H1 _ I1 q1) fun u s2 ⟨x, H2, I2, rx, a, ov, ex, g, q2⟩ => ?_
  subst ex
  obtain rfl : u = Value.ref a := rx
  exact d_notIn hu I2 g ry fun s3 I3 => ⟨.bl (!ov.isSome), H2, I3, rfl, q2⟩
theorem ps_dput (hu : X.A.units + 1 < cLine) (ho : PE X o td) (hi : PE X i ty) (hv : PE X value tv) (hs : swapsWith value (some (.Subscript o i pos')) pos.line X.env = pure false) :
    PS X (.Assign [.Subscript o i pos'] value pos) (sDPut td ty tv) := by
  intro pins s σ H D I h
  refine wpAny_Assign_Subscript (thn (hv pins s σ H _ I h) fun r s1 ⟨v, H1, I1, rv, q1⟩ => thn (ho pins s1 σ H1 _ I1 q1) fun u s2 ⟨x, H2, I2, rx, q2⟩ => thn (hi pins s2 σ H2 _ I2 q2) fun iv s3 ⟨y, H3, I3, ry, a, H4, ex, g, q3⟩ => ?_) hs
  subst ex
  obtain rfl : u = Value.ref a := rx
  exact d_setItem hu I3 g ry rv fun s4 I4 => ⟨σ, H4, I4, q3⟩
end


/-! ### displays -/
theorem dk_empty {P : Program} {w : World} {H : Hp} (h : Heap) (hb : sysModules < h.objs.size) : ObjOk P w H (h.push { cls := .type "dict", data := .dict #[] }) h.objs.size (.dK []) :=
  ⟨Nat.zero_le _, beq_eq_false_iff_ne.mpr (Ne.symm (Nat.ne_of_lt hb)), [], .nil, Heap.DictOf.new h⟩
/-- {}, to be a dict of the kind that is wanted -/
def tDNewK : TE := fun _ H Q => ∀ p, H p = none → Q (.ref p) (upd H p (.dK []))
section
variable {X : Cx} {pos : Pos}
theorem pe_dnewK : PE X (.Dict [] [] pos) tDNewK := fun pins s σ H Q I h =>
  wpAny_Dict_empty ⟨.ref s.heap.objs.size, _, I.laid (a := s.heap.objs.size) (o := .dK []) (t' := s.toks) (fun _ _ q => Heap.get?_push_of_some _ q) (Nat.le_refl _) (dk_empty s.heap I.big), rfl, h _ (I.hok.fresh (Nat.le_refl _))⟩
end

/-! ### methods -/
/-- a method call o.m(e) of a built-in, with one argument: what must be seen of the text -/
structure M1 (X : Cx) (o : Expr) (m : Str) (apos : Pos) (e : Expr) (cpos : Pos) : Prop where
  base : attributeBase o m X.env (eval o X.env) = eval o X.env
  few : ((backTo cpos (starEach [e] X.env)).all (fun x => !x.1) && (backToKw cpos (keywordEach [] X.env)).all (fun x => x.1.isSome)
    && decide (([e] : List Expr).length + ([] : List Keyword).length + (if ([] : List Keyword).isEmpty then 0 else 1) < 30)) = true
  line : (apos.endLine == cpos.line) = true
  trees : backTo cpos (starEach [e] X.env) = [(false, eval e X.env)]
structure M2 (X : Cx) (o : Expr) (m : Str) (apos : Pos) (e f : Expr) (cpos : Pos) : Prop where
  base : attributeBase o m X.env (eval o X.env) = eval o X.env
  few : ((backTo cpos (starEach [e, f] X.env)).all (fun x => !x.1) && (backToKw cpos (keywordEach [] X.env)).all (fun x => x.1.isSome)
    && decide (([e, f] : List Expr).length + ([] : List Keyword).length + (if ([] : List Keyword).isEmpty then 0 else 1) < 30)) = true
  line : (apos.endLine == cpos.line) = true
  trees : backTo cpos (starEach [e, f] X.env) = [(false, eval e X.env), (false, eval f X.env)]

/-- a is a dict, whatever its keys -/
def IsD (H : Hp) (a : Addr) : Prop := (∃ kvs, Rd H a (.dK kvs)) ∨ ∃ kvs, Rd H a (.dT kvs)
theorem isD_at {X : Cx} {pins : List (Addr × Obj)} {σ : St} {H : Hp} {s : Shared} {a : Addr} (I : Inv X pins σ H s) (d : IsD H a) :
    s.TypeIs (.ref a) "dict" ∧ (∀ b, Value.ref a = .ref b → ∃ ob, s.heap.get? b = some ob ∧ ob.dict = none) ∧ (a == sysModules) = false := by
  rcases d with ⟨kvs, e⟩ | ⟨kvs, e⟩
  · obtain ⟨_, hd, vs, _, dd⟩ := dk_rd I.hok e
    refine ⟨dd.typeIs, fun b q => ?_, hd⟩
    cases q
    obtain ⟨ob, _, _, h1, h2, _⟩ := dd
    exact ⟨ob, h1, h2.2.1⟩
  · obtain ⟨_, hd, xs, _, dd⟩ := dt_rd I.hok e
    refine ⟨dd.typeIs, fun b q => ?_, hd⟩
    cases q
    obtain ⟨ob, _, _, h1, h2, _⟩ := dd
    exact ⟨ob, h1, h2.2.1⟩

section
variable {X : Cx} {pins : List (Addr × Obj)} {σ : St} {H : Hp} {s : Shared} {a : Addr} {y d : V} {u r : Value} {o : Option V} {A : Around} {E : Value → Shared → Prop}
/-- d.get(y, x) -/
theorem d_get2 {Q : Value → Shared → Prop} (hu : A.units + 1 < cLine) (I : Inv X pins σ H s) (g : DGet H a y o) (ry : RelV y u) (rd : RelV d r) (h : ∀ w' s', Inv X pins σ H s' → RelV (o.getD d) w' → Q w' s') :
    wpAny (model X.prog X.w) A (call (.builtin "dict.get") [.ref a, u, r]) Q E s := by
  rcases g with ⟨kvs, k, e, ey, l⟩ | ⟨kvs, k, b, e, ey, eb, l⟩
  · subst ey
    obtain ⟨z, hd, vs, rel, dd⟩ := dk_rd I.hok e
    refine call_meetsIn PySem.F.slot_dict_get dd.typeIs PySem.F.entry_dict_get (PySem.F.args_dict_get_3 _ _ _) (meets_dict_get_default (mixKind X.prog X.w) a (kV_is ry) hd r) ⟨_, dd.mapOf, h _ _ (I.tok _) ?_⟩
    rw [l]
    exact (rel.val k).getD rd
  · subst ey
    cases (show u = Value.ref b from ry)
    obtain ⟨z, hd, xs, rel, dd⟩ := dt_rd I.hok e
    refine call_meetsIn PySem.F.slot_dict_get dd.typeIs PySem.F.entry_dict_get (PySem.F.args_dict_get_3 _ _ _) (meetsH_dict_get_default (tupleKind (mixKind X.prog X.w)) a b hd r) ⟨tupleKind_room_in1 hu, k, xs, key_of I.hok eb, dd, h _ _ (I.tok _) ?_⟩
    rw [l]
    exact (rel.val k).getD rd
end

def tDGet2 (td ty tx : TE) : TE := fun σ H Q => td σ H fun x H1 => ∃ a, x = .ref a ∧ IsD H1 a ∧ ty σ H1 fun y H2 => tx σ H2 fun z H3 => ∃ o, DGet H3 a y o ∧ Q (o.getD z) H3
/-- d.pop(k): there; d.pop(k, x): there or not -/
def tDPop1 (td ty : TE) : TE := fun σ H Q => td σ H fun x H1 => ∃ a, x = .ref a ∧ IsD H1 a ∧ ty σ H1 fun y H2 => ∃ kvs k v, H2 a = some (.dK kvs) ∧ y = kV k ∧ valV kvs k = some v ∧ Q v (upd H2 a (.dK (dropK kvs k)))
section
variable {X : Cx} {o e f : Expr} {apos cpos : Pos} {td ty tx : TE}
theorem pe_dget2 (hu : X.A.units + 1 < cLine) (ho : PE X o td) (he : PE X e ty) (hf : PE X f tx) (m : M2 X o "get" apos e f cpos) : PE X (.Call (.Attribute o "get" apos) [e, f] [] cpos) (tDGet2 td ty tx) := by
  intro pins s σ H Q I h
  refine wpAny_Call_method m.base m.few m.line PySem.F.plainAttrs_dict PySem.F.slot_dict_get PySem.F.type_dict_get (thn (ho pins s σ H _ I h) fun u s1 ⟨x, H1, I1, rx, a, ex, d, q1⟩ => ?_)
  subst ex
  obtain rfl : u = Value.ref a := rx
  obtain ⟨t1, t2, _⟩ := isD_at I1 d
  refine ⟨t1, t2, ?_⟩
  rw [m.trees]
  refine Calls.callWith_builtin rfl (Calls.evalArgs_plain (Calls.spliced_cons (thn (he pins s1 σ H1 _ I1 q1) fun iv s2 ⟨y, H2, I2, ry, q2⟩ =>
    Calls.spliced_cons (thn (hf pins s2 σ H2 _ I2 q2) fun fv s3 ⟨z, H3, I3, rz, ov, g, q3⟩ => Calls.spliced_nil ?_))))
  exact d_get2 hu I3 g ry rz fun w' s4 I4 rw' => ⟨_, H3, I4, rw', q3⟩
theorem pe_dpop1 (ho : PE X o td) (he : PE X e ty) (m : M1 X o "pop" apos e cpos) : PE X (.Call (.Attribute o "pop" apos) [e] [] cpos) (tDPop1 td ty) := by
  intro pins s σ H Q I h
  refine wpAny_Call_method m.base m.few m.line PySem.F.plainAttrs_dict PySem.F.slot_dict_pop PySem.F.type_dict_pop (thn (ho pins s σ H _ I h) fun u s1 ⟨x, H1, I1, rx, a, ex, d, q1⟩ => ?_)
  subst ex
  obtain rfl : u = Value.ref a := rx
  obtain ⟨t1, t2, _⟩ := isD_at I1 d
  refine ⟨t1, t2, ?_⟩
  rw [m.trees]
  refine Calls.callWith_builtin rfl (Calls.evalArgs_plain (Calls.spliced_cons (thn (he pins s1 σ H1 _ I1 q1) fun iv s2 ⟨y, H2, I2, ry, kvs, k, v, ea, ey, l, q2⟩ => Calls.spliced_nil ?_)))
  subst ey
  exact d_pop I2 ea ry l (.inl rfl) fun w' s3 I3 rw' => ⟨v, _, I3, rw', q2⟩
end

/-! ### dict(d): a copy -/
section
variable {X : Cx} {pins : List (Addr × Obj)} {σ : St} {H : Hp} {s : Shared} {a : Addr} {kvs : List (Key × V)} {A : Around} {E : Value → Shared → Prop}
end


section
variable {X : Cx} {pins : List (Addr × Obj)} {σ : St} {H : Hp} {s : Shared} {a : Addr} {y : V} {u : Value} {A : Around} {E : Value → Shared → Prop}
end
end L2

namespace Att
open PySem PySem.W PySem.Calls PyProof.Rows

/-! ### the script -/
theorem ints_of_wellAll {P : Params} {h : Heap} : ∀ (ns : List Int) (vs : List Value), WellAll P h vs (ns.map WData.int) → IntsAre vs ns := by
  intro ns
  induction ns with
  | nil =>
    intro vs w
    rw [List.map_nil] at w
    cases w
    exact .nil
  | cons n ns ih =>
    intro vs w
    rw [List.map_cons] at w
    cases w with
    | cons a b =>
      cases a
      exact .cons _ _ (ih _ b)

theorem script_of {l : OpenLaw} {n : Nat} (hn : l.most = some n) {P : Params} {h : Heap} {args : List WData} {vals : List Value}
    (hpre : l.row.toRowW.claim.pre args = true) (hwl : WellAll P h vals args) :
    ∃ a vs ns, vals = [Value.ref a] ∧ args = [WData.list (ns.map WData.int)] ∧ h.get? a = some { cls := .type "list", data := .seq vs.toArray } ∧ IntsAre vs ns ∧ ns.length ≤ n := by
  have hsh : WShape.hasAll [] args [.list .int] = true := (pre_splitW hpre).1
  have hc : l.pre.holds [] { args := args } = true := (pre_splitW hpre).2
  obtain ⟨d, r, rfl, h1, h2⟩ := hasAllW_cons hsh
  obtain rfl := hasAllW_nil h2
  obtain ⟨xs, rfl, h3⟩ := hasW_list h1
  obtain ⟨ns, rfl⟩ := items_int h3
  have hlen : ns.length ≤ n := by
    unfold OpenLaw.pre at hc
    have h4 : (WTm.not (.lt (.lit (.int (n : Int))) (.len (.arg 0)))).holds [] { args := [.list (ns.map .int)] } = true := by
      have h4 := (holds_andW hc).1
      rw [hn] at h4
      exact h4
    have h5 := condW_of h4 (w_not (w_lt w_lit (w_len_list (w_arg rfl))))
    rw [List.length_map] at h5
    refine Nat.le_of_not_lt fun q => ?_
    have q' : (n : Int) < ((ns.length : Nat) : Int) := by omega
    first
      | (rw [decide_eq_true q'] at h5; exact absurd h5 (by decide))
      | (simp at h5; omega)
  cases hwl with
  | cons w1 w2 =>
    cases w2
    cases w1 with
    | list ho hall => exact ⟨_, _, ns, rfl, rfl, ho, ints_of_wellAll ns _ hall, hlen⟩

theorem post_true (l : OpenLaw) (args : List WData) : l.row.toRowW.claim.post args (.bool true) args = true :=
  postW_of (r := l.row.toRowW) (X := (true == true))
    (show WShape.has [] (.bool true) .bool = true by first | rfl | decide | simp [WShape.has, WShape.arms, WShape.armsAll])
    (show (WTm.eq .res (.lit (.bool true))).value [] { args := args, res := some (.bool true), after := args } = some (.bool (true == true)) from w_eq_bool (w_res rfl) w_lit) rfl

/-! ### the attachment: holds_open's last premise (the goal 'hc' behind k_head) from a wpAny of the law's body -/
/-- the same from a codeAny of the CALL (for a layer whose function contracts speak of calls) -/
theorem attach_call {l : OpenLaw} {n : Nat} {q : Program} {loose : List Str} {XP : (Str → Option Value) → Heap → Prop} {YP : World → Heap → Prop} {d : DefRec}
    (hn : l.most = some n) (hdf : d.params.defaults = [])
    (call : ∀ (w : World) (s₀ s₁ : Shared) (mg mb : Str → Option Value) (fa : Addr) (o : Obj) (pm cd doc : Value) (a : Addr) (vs : List Value) (ns : List Int),
      Ground q loose [] XP w s₀ mg mb s₁.heap → YP w s₁.heap →
      s₁.heap.get? fa = some o → o.data = .func (docDef d.name d.params d.body d.scope pm cd doc) → s₁.heap.CodeRec cd d.name → mg d.name = some (.ref fa) →
      s₁.heap.get? a = some { cls := .type "list", data := .seq vs.toArray } → IntsAre vs ns → ns.length ≤ n → s₁.gens = #[] →
      codeAny (model l.prog w) callerA (.call (.ref fa) ⟨[.ref a], []⟩) (fun r s' => r = .ok (.ret (.bool true)) ∧ OldK s₁.heap s'.heap ∧ s'.os = s₁.os ∧ AllBare s'.gens) s₁) :
    WalkO q loose XP YP l.row.toRowW d [] (fun f vs => PySem.call f vs) := by
  intro w s₀ s₁ mg mb G Y fa o pm cd doc dV kV ho hd hcd hD hmg hg args vals as hpre hlay hrd hwl hlo
  obtain rfl : dV = .none := Dflts.none hD hdf
  obtain rfl : kV = .none := Dflts.noKw hD
  obtain ⟨a, vs, ns, rfl, rfl, hobj, hints, hlen⟩ := script_of hn hpre hwl
  refine enter_call (codeAny_mono (call w s₀ s₁ mg mb fa o pm cd doc a vs ns G Y ho (fd_plain hd) hcd hmg hobj hints hlen hg) fun r s' hq => ?_)
  obtain ⟨rfl, h2, h3, h4⟩ := hq
  exact ⟨.inl ⟨.bool true, .bool true, [], rfl, fun _ => rfl, .bool true, post_true l _, fun _ => ⟨List.Pairwise.nil, fun _ hm => (nomatch hm)⟩⟩, h2, h3, h4⟩

/-! ### rules over ANY heap (no ledger) from facts about the written part K: the library's own take a ledger (News) for what they write -/
section
variable {prog : Program} {w : World} {A : Around} {E : Value → Shared → Prop} {s : Shared} {K : Frag}

/-! the whole heap as the ledger: makes every rule that writes through a ledger a rule over any heap -/
def ledger (h : Heap) (L d : Addr) : List (Addr × Obj) := (List.range h.objs.size).filterMap fun a => if a = L ∨ a = d then none else (h.get? a).map fun o => (a, o)
end
end Att

namespace L2
open PySem PySem.Spec PyProof.Rows

theorem vals_ints : ∀ {vs : List Value} {ns : List Int}, IntsAre vs ns → Vals (ns.map V.int) vs
  | _, _, .nil => .nil
  | _, _, .cons n t h => .cons ⟨t, rfl⟩ (vals_ints h)

/-- nothing is tracked but the script, known to the object (or it is an object of the module) -/
def Only (H : Hp) : Prop := ∀ b, H b = none ∨ ∃ o xs, H b = some (.frz o (.lst xs))

/-- THE HEAD: the law's promise, at the heap behind the top. F, the promise of the law's def, may use that base is part of the heap (so K.In base, base.Ns mainGlobals mg stand in Mod) -/
theorem law_call {P : Program} {w : World} {K : PySem.W.Frag} {mg mb : Str → Option Value} {CX : CXT} {k : Nat} {fa a : Addr} {fd : FuncData} {x : Str} {sp : Sp} {s₁ : Shared} {vs : List Value} {ns : List Int}
    (KX : K.In s₁.heap) (hns : s₁.heap.Ns mainGlobals mg) (hb : s₁.heap.Ns builtinsNs mb) (hbb : ∀ x : Str, x ≠ "__name__" → mb x = bootBuiltins x) (hlim : s₁.heap.NoLimit) (hg : s₁.gens = #[])
    (ha : s₁.heap.get? a = some { cls := .type "list", data := .seq vs.toArray }) (hi : IntsAre vs ns) (hl : ns.length ≤ sizeLine) (hr : Room k callerA)
    (F : ∀ base : Heap, K.In base → base.Ns mainGlobals mg → FnOk P w K mg base CX k fa fd [x] sp) (hbind : ∀ (s : Shared) (u : Value), BindsTo s fd ⟨[u], []⟩ [(x, u)])
    (hsp : ∀ H : Hp, Only H → SqL K H a (ns.map V.int) → sp [.ref a] H (fun v _ => v = .bl true) fun _ _ _ => False)
    (hCX : ∀ H e s', CX [] H s₁ (fun _ _ _ => False) e s' → False) :
    codeAny (model P w) callerA (.call (.ref fa) ⟨[.ref a], []⟩) (fun r s' => r = .ok (.ret (.bool true)) ∧ OldK s₁.heap s'.heap ∧ s'.os = s₁.os ∧ AllBare s'.gens) s₁ := by
  have rv := vals_ints hi
  have lenV := hi.length
  -- from an abstract heap in which nothing but the script may be tracked
  have core : ∀ H : Hp, Only H → SqL K H a (ns.map V.int) → HOk P w H s₁.heap → (∀ b, H b ≠ none → b = a) → (H a ≠ none → K.lookup a = none) →
      codeAny (model P w) callerA (.call (.ref fa) ⟨[.ref a], []⟩) (fun r s' => r = .ok (.ret (.bool true)) ∧ OldK s₁.heap s'.heap ∧ s'.os = s₁.os ∧ AllBare s'.gens) s₁ := by
    intro H hO hS hok hA hK
    have base_of : ∀ {b : Addr} {o : Obj}, s₁.heap.get? b = some o → H b = none → (hidT s₁.heap H).get? b = some o := fun e n => hidT_get e n
    have noA : ∀ {b : Addr} {o : Obj} {es : Array DictEntry} {ep : Nat}, s₁.heap.get? b = some o → o.data = .dict es ep → H b = none := fun {b o es ep} e d => by
      cases q : H b with
      | none => rfl
      | some u =>
        have e' : b = a := hA b (by rw [q]; simp)
        subst e'
        rw [ha] at e; cases e
        have d' : Data.seq vs.toArray _ = Data.dict es ep := d
        cases d'
    have nsK : ∀ {b : Addr} {m : Str → Option Value}, s₁.heap.Ns b m → (hidT s₁.heap H).Ns b m := fun {b m} ⟨o, es, ep, e, d, r⟩ => ⟨o, es, ep, base_of e (noA e d), d, r⟩
    have hKb : K.In (hidT s₁.heap H) := fun b o e => base_of (KX b o e) (by
      cases q : H b with
      | none => rfl
      | some u =>
        have e' : b = a := hA b (by rw [q]; simp)
        subst e'
        rw [hK (by rw [q]; simp)] at e; cases e)
    have hM : Mod K mg (hidT s₁.heap H) := ⟨hKb, nsK hns, ⟨mb, nsK hb, hbb⟩, let ⟨mc, h1, h2⟩ := hlim; ⟨mc, nsK h1, h2⟩⟩
    have e0 : Env0 P w K mg (hidT s₁.heap H) callerA [] s₁ H := ⟨rfl, hM, fun b o e => of_hidT e, Nat.le_of_eq (hidT_size _ _), trivial, fun b hb => absurd (show b ∈ ([] : List Addr) from hb) (by simp), hok, .of_eq hg⟩
    refine codeAny_mono ((F _ hKb (nsK hns)).run callerA [] s₁ H ⟨[.ref a], []⟩ [.ref a] [.ref a] _ _ hr e0 (hbind s₁ (.ref a)) (.cons rfl .nil) (hsp H hO hS)) fun r s' h => ?_
    cases r with
    | error e => exact (hCX H e s' h).elim
    | ok fl =>
      cases fl with
      | next => exact False.elim h
      | brk => exact False.elim h
      | cont => exact False.elim h
      | ret u =>
        obtain ⟨v, H', os, bare, un, hok', r', q⟩ := h
        have q' : v = .bl true := q
        subst q'
        obtain rfl : u = Value.bool true := r'
        refine ⟨rfl, OldK.of_keep fun b o e => ?_, os, bare⟩
        cases q : H b with
        | none => exact un.keep b o e q (by intro z; exact absurd (show b ∈ ([] : List Addr) from z) (by simp)) (by simp)
        | some u =>
          rcases hO b with z | ⟨ob, xs, z⟩
          · rw [q] at z; cases z
          · have z2 := un.frzs b ob _ z
            obtain ⟨e1, _⟩ := hok b _ z
            obtain ⟨e2, _⟩ := hok' b _ z2
            rw [e] at e1; cases e1
            exact e2
  cases hk : K.lookup a with
  | some o =>
    -- the script is one of the module's own objects
    have e := KX a o hk
    rw [ha] at e
    cases e
    refine core (fun _ => none) (fun _ => .inl rfl) (.inr ⟨_, vs.toArray, _, hk, rfl, rfl, rfl, by rw [List.size_toArray, lenV]; exact hl, by simpa using rv⟩) (fun b u z => by have z' : (none : Option HO) = some u := z; cases z') (fun b z => absurd rfl z) fun z => absurd rfl z
  | none =>
    refine core (fun b => if b = a then some (.frz { cls := .type "list", data := .seq vs.toArray } (.lst (ns.map V.int))) else none) (fun b => ?_) (.inl (.inr ⟨{ cls := .type "list", data := .seq vs.toArray }, if_pos rfl⟩)) (fun b u z => ?_) (fun b z => ?_) fun _ => hk
    · by_cases hb : b = a
      · exact .inr ⟨_, _, if_pos hb⟩
      · exact .inl (if_neg hb)
    · by_cases hb : b = a
      · have z' := (if_pos hb).symm.trans z
        cases z'
        subst hb
        exact ⟨ha, by rw [List.length_map]; exact hl, vs, _, rv, ha⟩
      · have z' := (if_neg hb).symm.trans z
        cases z'
    · by_cases hb : b = a
      · exact hb
      · exact absurd (if_neg hb) z
end L2

namespace L2
open PySem PySem.Spec PyProof.Rows

/-- the goal that k_head leaves (case hc), from the law's promise. F gives the function object fd (K's own) once, then the promise over every base -/
theorem walk_of {l : PySem.W.OpenLaw} {n k : Nat} {q : Program} {loose : List Str} {XP : (Str → Option Value) → Heap → Prop} {YP : World → Heap → Prop} {d : DefRec} {K : Params → PySem.W.Frag} {CX : World → CXT} {sp : World → Sp} {x : Str}
    (hn : l.most = some n) (hn2 : n ≤ sizeLine) (hdf : d.params.defaults = []) (hr : Room k callerA)
    (hY : ∀ (w : World) (h : Heap), YP w h → (K w.params).In h)
    (F : ∀ (w : World) (mg : Str → Option Value) (fa : Addr) (h : Heap), (K w.params).In h → h.Ns mainGlobals mg → mg d.name = some (.ref fa) →
      ∃ fd : FuncData, (∀ (s : Shared) (u : Value), BindsTo s fd ⟨[u], []⟩ [(x, u)]) ∧
        ∀ base : Heap, (K w.params).In base → base.Ns mainGlobals mg → FnOk l.prog w (K w.params) mg base (CX w) k fa fd [x] (sp w))
    (hsp : ∀ (w : World) (H : Hp) (a : Addr) (ns : List Int), ns.length ≤ n → Only H → SqL (K w.params) H a (ns.map V.int) → sp w [.ref a] H (fun v _ => v = .bl true) fun _ _ _ => False)
    (hCX : ∀ (w : World) (H : Hp) (s : Shared) (e : Value) (s' : Shared), CX w [] H s (fun _ _ _ => False) e s' → False) :
    PySem.W.WalkO q loose XP YP l.row.toRowW d [] (fun f vs => PySem.call f vs) := by
  refine Att.attach_call hn hdf fun w s₀ s₁ mg mb fa o pm cd doc a vs ns G Y ho hd hcd hmg hobj hints hlen hg => ?_
  have KX := hY w _ Y
  obtain ⟨fd, hb, hF⟩ := F w mg fa _ KX G.T.g hmg
  exact law_call KX G.T.g G.T.b G.T.builtins G.T.nolimit hg hobj hints (Nat.le_trans hlen hn2) hr hF hb (fun H hO hS => hsp w H a ns hlen hO hS) fun H e s' => hCX w H s₁ e s'
end L2


/-! SHORT WORDS over the layer: a def of the text, its body, what a loop and a test want. -/
namespace L2
open PySem PySem.Spec PyProof.Rows

/-! ### the text by places -/
/-- the j-th statement of a class's body -/
def inClass (s : Stmt) (j : Nat) : Stmt := match s with
  | .ClassDef _ _ _ body _ _ _ _ _ _ _ => body.getD j (.Pass ⟨0, 0, 0, 0⟩)
  | _ => .Pass ⟨0, 0, 0, 0⟩
def defArgs (s : Stmt) : Arguments := match s with
  | .FunctionDef _ a _ _ _ _ _ _ _ _ => a
  | _ => { posonlyargs := [], args := [], vararg := none, kwonlyargs := [], kw_defaults := [], kwarg := none, defaults := [] }
def defBody (s : Stmt) : List Stmt := match s with
  | .FunctionDef _ _ b _ _ _ _ _ _ _ => b
  | _ => []
def defScope (s : Stmt) : Scope := match s with
  | .FunctionDef _ _ _ _ _ _ sc _ _ _ => sc
  | _ => { kind := .function, names := [], isGenerator := false, isCoroutine := false }

/-! ### no exception leaves a def -/
abbrev CX0 : CXT := fun _ _ _ _ _ _ => False
abbrev E0 : XK := fun _ _ _ => False
theorem pass0 {X : Cx} : Passes CX0 X E0 := fun _ _ _ _ _ _ _ h => h.elim

/-! ### a def (or method) of the text as it stands behind the top -/
structure Fun (K : PySem.W.Frag) (x qual : Str) (st : Stmt) (f : Addr) (fd : FuncData) : Prop where
  ex : ∃ (oc : Value) (od : Option Addr) (kV doc pm : Value) (an : Option Addr) (cdv ct : Value) (osl : Array (Option Value)),
    fd = PySem.W.fnOf x qual (defArgs st) (defBody st) (defScope st) .none kV doc pm an cdv ct ∧ K.lookup f = some ⟨oc, od, .func fd, osl⟩ ∧ PySem.W.codeIn K cdv qual = true
  kp : PySem.W.keepIn K (.ref f) = true
section
variable {P : Program} {w : World} {K : PySem.W.Frag} {mg : Str → Option Value} {base : Heap}
/-- THE RULE for a def: its body as a term of rules, and the reading of that term -/
theorem Fun.ok {x qual : Str} {st : Stmt} {f : Addr} {fd : FuncData} {N ps : List Str} {k : Nat} {sp : Sp} (F : Fun K x qual st f fd) (S : FnScope N ps (defScope st)) (len : ∀ vs H Q E, sp vs H Q E → vs.length = ps.length)
    (hbody : ∀ (cdv : Value) (A : Around) (outer : List Env) (s : Shared) (H : Hp) (vs : List V) (Q : VK) (E : XK), Room k (A.deeper (envOfC qual (defScope st) s.heap.objs.size f cdv)) → sp vs H Q E →
      ∃ t, PSs (cxOf CX0 P w K mg base N qual (defScope st) f cdv A outer s H E).nox (defBody st) t ∧ t { nx := fun _ H' => Q .non H', rt := Q } (start N vs) H) : FnOk P w K mg base CX0 (k + 1) f fd ps sp := by
  obtain ⟨oc, od, kV, doc, pm, an, cdv, ct, osl, rfl, lk, hcd⟩ := F.ex
  refine fn_of lk hcd S len fun A outer s H vs Q E hr hsp => ?_
  obtain ⟨t, h, q⟩ := hbody cdv A outer s H vs Q E hr hsp
  exact ⟨t, h.nox, q⟩
/-- how its arguments bind (no defaults): h is «fun _ _ _ _ _ _ us hl => match us, hl with | [_, _], _ => rfl», one _ a parameter -/
theorem Fun.binds {x qual : Str} {st : Stmt} {f : Addr} {fd : FuncData} {ps : List Str} (F : Fun K x qual st f fd)
    (h : ∀ (kV doc pm : Value) (an : Option Addr) (cdv ct : Value) (us : List Value), us.length = ps.length → bindArgs (PySem.W.fnOf x qual (defArgs st) (defBody st) (defScope st) .none kV doc pm an cdv ct) ⟨us, []⟩ = pure (ps.zip us)) : Binds K fd ps [] := by
  obtain ⟨oc, od, kV, doc, pm, an, cdv, ct, osl, rfl, lk, hcd⟩ := F.ex
  exact .all (h kV doc pm an cdv ct)
theorem fun_mk {x qual : Str} {st : Stmt} {f : Addr} {oc : Value} {od an : Option Addr} {osl : Array (Option Value)} {kV doc pm cdv ct : Value} (l : K.lookup f = some ⟨oc, od, .func (PySem.W.fnOf x qual (defArgs st) (defBody st) (defScope st) .none kV doc pm an cdv ct), osl⟩)
    (c : PySem.W.codeIn K cdv qual = true) (k : PySem.W.keepIn K (.ref f) = true) : Fun K x qual st f (PySem.W.fnOf x qual (defArgs st) (defBody st) (defScope st) .none kV doc pm an cdv ct) := ⟨⟨oc, od, kV, doc, pm, an, cdv, ct, osl, rfl, l, c⟩, k⟩
end
theorem hu_of {A : Around} {k : Nat} (hr : Room k A) : A.units + 1 < cLine := Nat.lt_of_le_of_lt (Nat.add_le_add_left (by decide : 1 ≤ 64) _) hr.units
/-! ### expressions in short: the name that stands in the i-th slot -/
section
variable {X : Cx}
theorem pv (i : Nat) {x : Str} {pos : Pos} (hN : X.N[i]? = some x := by rfl) (hv : Vis X.env.scope x := by first | exact Or.inl rfl | exact Or.inr (Or.inl rfl) | exact Or.inr (Or.inr rfl)) (hd : (x == ("__debug__" : Str)) = false := by decide)
    (hcd : (x == ("__classdict__" : Str)) = false := by decide) : PE X (.Name x pos) (tVar i) := pe_var hN hv hd hcd
end

/-! ### tests -/
theorem iteF {A B : Prop} (h : B) : if false = true then A else B := by
  rw [if_neg Bool.false_ne_true]
  exact h
theorem iteT {A B : Prop} (h : A) : if true = true then A else B := by
  rw [if_pos rfl]
  exact h
theorem ite2 {c A B : Prop} [Decidable c] (h1 : c → A) (h2 : ¬ c → B) : if c then A else B := by
  by_cases h : c
  · rw [if_pos h]
    exact h1 h
  · rw [if_neg h]
    exact h2 h
/-! ### heaps -/
/-- all that was tracked is as it was -/
def Same (H H' : Hp) : Prop := ∀ b o, H b = some o → H' b = some o
theorem Same.refl (H : Hp) : Same H H := fun _ _ h => h
theorem Same.trans {H H1 H2 : Hp} (a : Same H H1) (b : Same H1 H2) : Same H H2 := fun c o h => b c o (a c o h)
theorem Same.free {H H' : Hp} (e : Same H H') {l : Addr} (h : H' l = Option.none) : H l = Option.none := by
  cases q : H l with
  | none => rfl
  | some o =>
    rw [e l o q] at h
    cases h
theorem Same.seq {K : PySem.W.Frag} {H H' : Hp} {a : Addr} {xs : List V} (e : Same H H') (h : SqL K H a xs) : SqL K H' a xs := by
  rcases h with (h | ⟨o, h⟩) | h
  · exact .inl (.inl (e _ _ h))
  · exact .inl (.inr ⟨o, e _ _ h⟩)
  · exact .inr h

/-! ### a dict's pairs: keys that differ -/
section
variable {κ : Type} [DecidableEq κ]
end
end L2


set_option maxHeartbeats 4000000
/-! A LIST COMPREHENSION with one clause and no or one test, over the hand layer. -/
namespace L2
open PySem PySem.Spec PyProof.Rows

/-- the cells that a block inside takes along -/
def clOf (cells : List (Str × Addr)) : List (Str × NameKind) → List (Str × Addr) → List (Str × Addr)
  | [], acc => acc
  | (n, k) :: r, acc => if k == .free then clOf cells r ((n, (cells.lookup n).getD 0) :: acc) else clOf cells r acc
theorem closure_of {env : Env} {names : List (Str × NameKind)} (h : ∀ n, (n, NameKind.free) ∈ names → ∃ c, env.cells.lookup n = some c) :
    ∀ acc, (forIn names acc fun (x : Str × NameKind) (cs : List (Str × Addr)) => (match x with
      | (name, kind) => if (kind == NameKind.free) = true then do let c ← cellOf env name; pure (ForInStep.yield ((name, c) :: cs)) else pure (ForInStep.yield cs) : Sem (ForInStep (List (Str × Addr))))) = pure (clOf env.cells names acc) := by
  induction names with
  | nil => intro acc; rfl
  | cons x r ih =>
    intro acc
    obtain ⟨n, k⟩ := x
    have ih' := ih fun m hm => h m (List.mem_cons_of_mem _ hm)
    rw [List.forIn_cons]
    by_cases hk : k = .free
    · subst hk
      obtain ⟨c, hc⟩ := h n List.mem_cons_self
      have e : cellOf env n = pure c := by unfold cellOf; rw [hc]
      simp only [beq_self_eq_true, if_true, e, pure_bind]
      rw [ih']
      show _ = pure (clOf env.cells r ((n, (env.cells.lookup n).getD 0) :: acc))
      rw [hc]; rfl
    · have hb : (k == NameKind.free) = false := by simpa using hk
      simp only [hb, Bool.false_eq_true, if_false, pure_bind]
      rw [ih']
      show _ = pure (if (k == NameKind.free) = true then _ else clOf env.cells r acc)
      rw [hb]; rfl
theorem closureFor_of {scope : Scope} {env : Env} (h : ∀ n, (n, NameKind.free) ∈ scope.names → ∃ c, env.cells.lookup n = some c) : closureFor scope env = pure (clOf env.cells scope.names []) := by
  have e := closure_of h []
  unfold closureFor
  simp only [bind_pure_comp] at *
  first
    | exact e
    | (rw [show (forIn scope.names ([] : List (Str × Addr)) _) = _ from e]; rfl)

theorem cl_sub {cells : List (Str × Addr)} : ∀ {names : List (Str × NameKind)} {acc : List (Str × Addr)}, (∀ n, (n, NameKind.free) ∈ names → ∃ c, cells.lookup n = some c) → (∀ x c, acc.lookup x = some c → cells.lookup x = some c) →
    ∀ x c, (clOf cells names acc).lookup x = some c → cells.lookup x = some c
  | [], _, _, ha, x, c, e => ha x c e
  | (n, k) :: r, acc, h, ha, x, c, e => by
    by_cases hk : k = .free
    · subst hk
      obtain ⟨d, hd⟩ := h n List.mem_cons_self
      refine cl_sub (names := r) (acc := (n, (cells.lookup n).getD 0) :: acc) (fun m hm => h m (List.mem_cons_of_mem _ hm)) (fun y z q => ?_) x c e
      rw [List.lookup_cons] at q
      by_cases hy : y = n
      · subst hy
        simp only [beq_self_eq_true, hd, Option.getD_some] at q
        rw [hd]; exact q
      · have hb : (y == n) = false := beq_eq_false_iff_ne.mpr hy
        simp only [hb] at q
        exact ha y z q
    · have hb : (k == NameKind.free) = false := by simpa using hk
      have e' : (clOf cells r acc).lookup x = some c := by
        have : clOf cells ((n, k) :: r) acc = clOf cells r acc := by show (if (k == NameKind.free) = true then _ else _) = _; rw [hb]; rfl
        rw [← this]; exact e
      exact cl_sub (names := r) (fun m hm => h m (List.mem_cons_of_mem _ hm)) ha x c e'
theorem cl_has {cells : List (Str × Addr)} : ∀ {names : List (Str × NameKind)} {acc : List (Str × Addr)} {x : Str}, ((x, NameKind.free) ∈ names ∨ ∃ c, acc.lookup x = some c) → ∃ c, (clOf cells names acc).lookup x = some c
  | [], _, _, h => by
    rcases h with h | h
    · simp at h
    · exact h
  | (n, k) :: r, acc, x, h => by
    by_cases hk : k = .free
    · subst hk
      show ∃ c, (clOf cells r ((n, (cells.lookup n).getD 0) :: acc)).lookup x = some c
      refine cl_has (names := r) ?_
      by_cases hx : x = n
      · subst hx
        exact .inr ⟨_, by rw [List.lookup_cons]; simp only [beq_self_eq_true]; rfl⟩
      · have hb : (x == n) = false := beq_eq_false_iff_ne.mpr hx
        rcases h with h | ⟨c, h⟩
        · rcases List.mem_cons.mp h with q | q
          · exact absurd (Prod.mk.inj q).1 hx
          · exact .inl q
        · exact .inr ⟨c, by rw [List.lookup_cons]; simp only [hb]; exact h⟩
    · have hb : (k == NameKind.free) = false := by simpa using hk
      have : clOf cells ((n, k) :: r) acc = clOf cells r acc := by show (if (k == NameKind.free) = true then _ else _) = _; rw [hb]; rfl
      rw [this]
      refine cl_has (names := r) ?_
      rcases h with h | h
      · rcases List.mem_cons.mp h with q | q
        · exact absurd (Prod.mk.inj q).2.symm hk
        · exact .inl q
      · exact .inr h
def relK (env : Env) (x : Str) (k : NameKind) : NameKind := if (k == NameKind.free && env.scope.kind == .function && env.kindOf x == some .cell) = true then .cell else k
theorem relabel_lookup {env : Env} {x : Str} : ∀ {names : List (Str × NameKind)},
    (names.map fun (n, k) => if (k == NameKind.free && env.scope.kind == .function && env.kindOf n == some .cell) then (n, NameKind.cell) else (n, k)).lookup x = (names.lookup x).map (relK env x)
  | [] => rfl
  | (n, k) :: r => by
    have ih := @relabel_lookup env x r
    show List.lookup x ((if (k == NameKind.free && env.scope.kind == .function && env.kindOf n == some .cell) = true then (n, NameKind.cell) else (n, k)) :: _) = _
    by_cases hx : x = n
    · subst hx
      rw [List.lookup_cons]
      unfold relK
      by_cases hc : (k == NameKind.free && env.scope.kind == .function && env.kindOf x == some .cell) = true
      · rw [if_pos hc, List.lookup_cons]; simp only [beq_self_eq_true, Option.map_some]; rw [if_pos hc]
      · rw [if_neg hc, List.lookup_cons]; simp only [beq_self_eq_true, Option.map_some]; rw [if_neg hc]
    · have hb : (x == n) = false := beq_eq_false_iff_ne.mpr hx
      rw [List.lookup_cons (k := n)]
      by_cases hc : (k == NameKind.free && env.scope.kind == .function && env.kindOf n == some .cell) = true
      · rw [if_pos hc, List.lookup_cons]; simp only [hb]; exact ih
      · rw [if_neg hc, List.lookup_cons]; simp only [hb]; exact ih
theorem mem_of_lookup {κ β : Type} [BEq κ] [LawfulBEq κ] {x : κ} {b : β} : ∀ {l : List (κ × β)}, l.lookup x = some b → (x, b) ∈ l
  | [], h => by simp at h
  | (n, k) :: r, h => by
    rw [List.lookup_cons] at h
    cases hb : x == n with
    | true =>
      rw [hb] at h
      have e1 := LawfulBEq.eq_of_beq hb
      have e2 : k = b := by simpa using h
      subst e1 e2
      exact List.mem_cons_self
    | false =>
      rw [hb] at h
      exact List.mem_cons_of_mem _ (mem_of_lookup h)

/-- the context of a comprehension's block: its own names and those that it takes along -/
def Cx.blk (X : Cx) (scope : Scope) (N' : List Str) (C : Addr) (s₂ : Shared) (H₂ : Hp) (ex : List Addr) : Cx :=
  { X with N := N', s₀ := s₂, H₀ := H₂, env := compEnvC scope (clOf X.env.cells scope.names []) C X.env, outer := X.stack, stack := X.stack, ex := ex, fn := fun _ => false, pn := [], xe := fun _ _ => False }

/-- what is asked of a comprehension's scope: no cells of its own; its names are locals or taken along; ix: where each of N' stands outside (none: its own) -/
structure CompScope (X : Cx) (scope : Scope) (N' : List Str) (ix : List (Option Nat)) : Prop where
  kind : scope.kind = .function
  cell : ∀ y ∈ scope.names, y.2 ≠ .cell
  own : ∀ y ∈ scope.names, y.2 = .local → scope.names.lookup y.1 = some .local
  free : ∀ y ∈ scope.names, y.2 = .free → (X.env.kindOf y.1 = some .cell ∨ X.env.kindOf y.1 = some .free)
  once : ∀ x, (x, NameKind.local) ∈ scope.names → (x, NameKind.free) ∈ scope.names → False
  len : ix.length = N'.length
  out : ∀ (i j : Nat), ix[i]? = some (some j) → X.N[j]? = N'[i]? ∧ ∀ x, N'[i]? = some x → (x, NameKind.free) ∈ scope.names ∧ Vis X.env.scope x
/-- the values that the block sees at its start -/
def takes (ix : List (Option Nat)) (σ : St) : St := ix.map fun o => o.bind fun j => (σ[j]?).join

section
variable {X : Cx} {pins : List (Addr × Obj)} {σ : St} {H : Hp} {s : Shared} {scope : Scope} {N' : List Str} {ix : List (Option Nat)} {fp : List Addr}
theorem blk_free (I : Inv X pins σ H s) (S : CompScope X scope N' ix) : ∀ n, (n, NameKind.free) ∈ scope.names → ∃ c, X.env.cells.lookup n = some c := fun n hn => I.ok.has n (S.free _ hn rfl)
theorem blk_sub (I : Inv X pins σ H s) (S : CompScope X scope N' ix) : ∀ x c, (clOf X.env.cells scope.names []).lookup x = some c → X.env.cells.lookup x = some c :=
  cl_sub (blk_free I S) fun x c e => by simp at e
theorem blk_has (I : Inv X pins σ H s) (S : CompScope X scope N' ix) {x : Str} (h : (x, NameKind.free) ∈ scope.names) : ∃ c, (clOf X.env.cells scope.names []).lookup x = some c ∧ X.env.cells.lookup x = some c := by
  obtain ⟨c, e⟩ := cl_has (cells := X.env.cells) (acc := []) (.inl h)
  exact ⟨c, e, blk_sub I S x c e⟩
theorem blk_kind {C : Addr} (x : Str) : (compEnvC scope (clOf X.env.cells scope.names []) C X.env).kindOf x = (scope.names.lookup x).map (relK X.env x) := relabel_lookup
theorem blk_ok {C : Addr} (I : Inv X pins σ H s) (S : CompScope X scope N' ix) (hC : s.heap.objs.size ≤ C) (hf : ∀ b ∈ fp, FpOk X pins H b) (hfo : ∀ b ∈ fp, b < C) : (X.blk scope N' C s H fp).Ok where
  mod := I.ok.mod
  kind := S.kind
  glob := I.ok.glob
  blt := I.ok.blt
  above := hC
  inj := fun x y c h1 h2 => I.ok.inj x y c (blk_sub I S x c h1) (blk_sub I S y c h2)
  has := fun x hx => by
    have hx' : (scope.names.lookup x).map (relK X.env x) = some .cell ∨ (scope.names.lookup x).map (relK X.env x) = some .free := by
      rw [← blk_kind (C := C)]; exact hx
    cases e : scope.names.lookup x with
    | none => rw [e] at hx'; rcases hx' with z | z <;> cases z
    | some k =>
      have hm := mem_of_lookup e
      have hk : k = .free := by
        rw [e] at hx'
        have h1 := S.cell _ hm
        unfold relK at hx'
        by_cases hc : (k == NameKind.free && X.env.scope.kind == .function && X.env.kindOf x == some .cell) = true
        · simp only [Bool.and_eq_true, beq_iff_eq] at hc
          exact hc.1.1
        · simp only [Option.map_some, hc, if_false, Bool.false_eq_true] at hx'
          rcases hx' with z | z
          · exact absurd (Option.some.inj z) h1
          · exact Option.some.inj z
      subst hk
      obtain ⟨c, h1, _⟩ := blk_has I S hm
      exact ⟨c, h1⟩
  cab := fun x c h => by cases h
  hd := I.ok.hd
  frames := I.ok.frames
  stk := .inl rfl
  exf := fun b hb => ⟨Nat.ne_of_lt (hfo b hb), fun x c e => (hf b hb).2.2.2.2.1 x c (blk_sub I S x c e)⟩
  bs := I.bs
  bsz := Nat.le_trans I.ok.bsz I.sz
  noex := fun b o e hb => by
    rcases (hf b hb).2.2.2.1 with z | z
    · exact I.ok.noex b o e z
    · exact absurd (Nat.lt_of_lt_of_le (Heap.lt_size e) (Nat.le_trans I.ok.bsz z)) (Nat.lt_irrefl _)
  exfs := fun b hb z => by
    rcases List.mem_cons.mp (I.stkSub b z) with q | q
    · exact (hf b hb).2.1 q
    · exact (hf b hb).2.2.1 q
  funs := I.stack
  frf := I.stkFree

/-- the block's state at its start: the frame at C, all else kept -/
theorem blk_inv {C : Addr} {h' : Heap} {t' : Nat} {m : Str → Option Value} (I : Inv X pins σ H s) (S : CompScope X scope N' ix) (hC : s.heap.objs.size ≤ C) (hf : ∀ b ∈ fp, FpOk X pins H b) (hfo : ∀ b ∈ fp, b < C)
    (k : ∀ b o, s.heap.get? b = some o → h'.get? b = some o) (hn : h'.Ns C m) : Inv (X.blk scope N' C s H fp) [] (takes ix σ) H { s with heap := h', toks := t' } where
  ok := blk_ok I S hC hf hfo
  os := rfl
  bare := I.bare
  base := Un.kept k
  loc := ⟨m, hn, fun i x v e1 e2 e3 => by
    have e2' : (ix[i]?).map (fun o => o.bind fun j => (σ[j]?).join) = some (some v) := by rw [← List.getElem?_map]; exact e2
    cases q : ix[i]? with
    | none => rw [q] at e2'; cases e2'
    | some o =>
      rw [q] at e2'
      cases o with
      | none => cases e2'
      | some j =>
        have e2'' : (σ[j]?).join = some v := by simpa using e2'
        have e4 : σ[j]? = some (some v) := by
          cases z : σ[j]? with
          | none => rw [z] at e2''; cases e2''
          | some y => rw [z] at e2''; exact congrArg some e2''
        obtain ⟨o1, o2⟩ := S.out i j q
        have e1' : N'[i]? = some x := e1
        obtain ⟨o3, o4⟩ := o2 x e1'
        obtain ⟨m0, hn0, hl⟩ := I.loc
        obtain ⟨u, r, l⟩ := hl j x v (o1.trans e1') e4 o4
        refine ⟨u, r, .inr ?_⟩
        obtain ⟨c, c1, c2⟩ := blk_has I S o3
        have fk := S.free _ o3 rfl
        have hcell : h'.IsCell c (some u) := by
          rcases l with ⟨lk, _⟩ | ⟨_, c', lc, lz⟩
          · rcases fk with z | z <;> (rw [lk] at z; cases z)
          · rw [c2] at lc; cases lc
            exact lz.keeps k
        refine ⟨?_, c, c1, hcell⟩
        have hkd : (scope.names.lookup x).map (relK X.env x) = some (relK X.env x ((scope.names.lookup x).getD .free)) := by
          cases z : scope.names.lookup x with
          | none =>
            exfalso
            have : ∀ {l : List (Str × NameKind)}, (x, NameKind.free) ∈ l → l.lookup x ≠ none := by
              intro l
              induction l with
              | nil => intro h; simp at h
              | cons y r ih =>
                intro h
                rw [List.lookup_cons]
                rcases List.mem_cons.mp h with q | q
                · rw [← q]; simp
                · cases hb : x == y.1 with
                  | true => simp
                  | false => exact ih q
            exact this o3 z
          | some k => rfl
        have hvis : Vis (compEnvC scope (clOf X.env.cells scope.names []) C X.env).scope x := e3
        have hkx : (compEnvC scope (clOf X.env.cells scope.names []) C X.env).kindOf x = some .local ∨ (compEnvC scope (clOf X.env.cells scope.names []) C X.env).kindOf x = some .cell ∨ (compEnvC scope (clOf X.env.cells scope.names []) C X.env).kindOf x = some .free := hvis
        rcases hkx with z | z
        · exfalso
          rw [blk_kind] at z
          cases w : scope.names.lookup x with
          | none => rw [w] at z; cases z
          | some k =>
            rw [w] at z
            have z' : relK X.env x k = .local := Option.some.inj z
            unfold relK at z'
            split at z'
            · cases z'
            · subst z'
              -- a name that is local and taken along at once
              have := S.once x (mem_of_lookup w) o3
              exact this
        · exact z⟩
  cell := fun x c e => by
    obtain ⟨v, z⟩ := I.cell x c (blk_sub I S x c e)
    exact ⟨v, z.keeps k⟩
  free := I.hok.fresh hC
  freeC := fun x c e => I.freeC x c (blk_sub I S x c e)
  pin := fun p hp => nomatch hp
  hok := I.hok.kept k
  len := by
    show (takes ix σ).length = N'.length
    unfold takes
    rw [List.length_map]; exact S.len
/-- behind the block: the frame is let go, the list at D is tracked -/
theorem blk_back {C D : Addr} {h' : Heap} {s' : Shared} {H' : Hp} {σ' : St} {pins' : List (Addr × Obj)} {ys : List V} {its : List Value} {n : Nat} (I : Inv X pins σ H s) (hD : s.heap.objs.size ≤ D) (hDC : D < C) (hf : ∀ b ∈ fp, FpOk X pins H b)
    (I' : Inv (X.blk scope N' C s H (D :: fp)) pins' σ' H' s') (hs : Heap.SameBut C s'.heap h') (hDn : H' D = none) (hl : ys.length ≤ sizeLine) (rv : Vals ys its) (ho : s'.heap.get? D = some { cls := .type "list", data := .seq its.toArray n }) :
    Inv X pins σ (upd H' D (.lst ys)) { s' with heap := h' } := by
  have nD : ∀ b o, s.heap.get? b = some o → b ≠ D := fun b o e => Nat.ne_of_lt (Nat.lt_of_lt_of_le (Heap.lt_size e) hD)
  have nC : ∀ b o, s.heap.get? b = some o → b ≠ C := fun b o e => Nat.ne_of_lt (Nat.lt_trans (Nat.lt_of_lt_of_le (Heap.lt_size e) hD) hDC)
  have nt : ∀ b o, H b = some o → b ≠ D := fun b o e => Nat.ne_of_lt (Nat.lt_of_lt_of_le (I.hok.lt e) hD)
  have nx : ∀ b o, s.heap.get? b = some o → b ∉ fp → b ∉ D :: fp := fun b o e hb z => by
    rcases List.mem_cons.mp z with q | q
    · exact nD b o e q
    · exact hb q
  have ho' : h'.get? D = some { cls := .type "list", data := .seq its.toArray n } := (hs.2 D (Nat.ne_of_lt hDC)).trans ho
  have hbase : Un (frs X.stack) (D :: fp) H H' s.heap s'.heap := I'.base
  have hfreeC : H' C = none := I'.free
  refine I.call' (ch := fp) (s' := { s' with heap := h' }) I'.os ⟨fun b o e n hb hx => ?_, fun b o e n hb hx => ?_, fun b o e n hx => ?_, fun b o e hx => ?_, fun b xs e => ?_, fun b o u e => ?_, fun b ps e => ?_⟩ (fun b u e => ?_) I'.bare (fun b hb => ?_)
  · exact (hs.2 b (nC b o e)).trans (hbase.keep b o e n hb (nx b o e hx))
  · obtain ⟨sl, q⟩ := hbase.slot b o e n hb (nx b o e hx)
    exact ⟨sl, (hs.2 b (nC b o e)).trans q⟩
  · rw [upd_ne (nD b o e)]; exact hbase.free b o e n (nx b o e hx)
  · obtain ⟨o', q⟩ := hbase.there b o e (nx b o e hx)
    exact ⟨o', (hs.2 b (nC b o e)).trans q⟩
  · rw [upd_ne (nt b _ e)]; exact hbase.tups b xs e
  · rw [upd_ne (nt b _ e)]; exact hbase.frzs b o u e
  · rw [upd_ne (nt b _ e)]; exact hbase.tbls b ps e
  · by_cases hb : b = D
    · subst hb
      rw [upd_same] at e; cases e
      exact ⟨hl, its, n, rv, ho'⟩
    · rw [upd_ne hb] at e
      refine (I'.hok b u e).stay (fun c v hc q => (hs.2 c ?_).trans q) (fun c q => ?_) fun c xs q => ?_
      · rintro rfl
        rcases hc with z | z
        · subst z; rw [hfreeC] at e; cases e
        · rw [hfreeC] at z; cases z
      · rw [upd_ne (ne_of_none q hDn)]; exact q
      · rw [upd_ne (ne_of_none q hDn)]; exact q
  · exact ⟨(hf b hb).2.2.2.1, (hf b hb).2.1, (hf b hb).2.2.2.2.1, (hf b hb).2.2.2.2.2⟩
end

/-! ### the tests of a clause -/
def PIfs (X : Cx) (ifs : List Expr) (tc : TT) : Prop :=
  ∀ (pins : List (Addr × Obj)) (s : Shared) (σ : St) (H : Hp) (Q : Bool → Hp → Prop), Inv X pins σ H s → tc σ H Q →
    wpAny (model X.prog X.w) X.A (forIn ifs true fun c r => if r = true then do let ok ← isTrue c X.env (eval c X.env); pure (ForInStep.yield ok) else pure (ForInStep.yield r)) (TP X pins σ Q) X.xe s
def tYes : TT := fun _ H Q => Q true H
theorem pifs_nil {X : Cx} : PIfs X [] tYes := fun _ _ _ H _ I h => wpAny_tests_nil ⟨H, I, h⟩
theorem pifs_one {X : Cx} {c : Expr} {tc : TT} (hc : PT X c tc) : PIfs X [c] tc := fun pins s σ H Q I h => wpAny_tests_one (hc pins s σ H Q I h)

def TgOwn (g : TG) (own : List Nat) : Prop := ∀ v σ H (Q : St → Hp → Prop), g v σ H Q → g v σ H fun σ' H' => Q σ' H' ∧ σ'.length = σ.length ∧ ∀ k, k ∉ own → σ'[k]? = σ[k]?
theorem own_name {i : Nat} : TgOwn (gName i) [i] := fun v σ H Q h => ⟨h, List.length_set, fun k hk => List.getElem?_set_ne (fun e => hk (by simp [e]))⟩
/-- [elt for tg in iter if ..] -/
def tComp (wi : TI) (ix : List (Option Nat)) (g : TG) (tc : TT) (te : TE) : TE := fun σ H Q => wi σ H fun J H1 => ∃ (n : Nat) (Pv : Nat → List V → Hp → Prop), n ≤ sizeLine ∧ Pv 0 [] H1 ∧
  (∀ i ys H2, i < n → Pv i ys H2 → J.go i H2 ∧ ∀ x H3, J.yld i H2 x H3 → g x (takes ix σ) H3 fun σ4 H4 => tc σ4 H4 fun b H5 => if b = true then te σ4 H5 fun y H6 => Pv (i + 1) (ys ++ [y]) H6 else Pv (i + 1) ys H5) ∧
  ∀ ys H2, Pv n ys H2 → J.stop n H2 ∧ ∀ D, H2 D = none → Q (.ref D) (upd H2 D (.lst ys))

section
variable {X : Cx} {elt iter tg : Expr} {ifs : List Expr} {scope : Scope} {pos : Pos} {N' : List Str} {ix : List (Option Nat)} {own : List Nat} {wi : TI} {g : TG} {tc : TT} {te : TE}
theorem comp_core {use : Option (Value → Sem Unit)} {QQ : Value → Shared → Prop} (hcalm : X.calm = true) (S : CompScope X scope N' ix) (hown : ∀ k ∈ own, ix[k]? = some none) (hi : PI X tg iter wi)
    (hg : ∀ C s₂ H₂ ex, PG (X.blk scope N' C s₂ H₂ ex) tg g) (hgo : TgOwn g own) (hc : ∀ C s₂ H₂ ex, PIfs (X.blk scope N' C s₂ H₂ ex) ifs tc) (he : ∀ C s₂ H₂ ex, PE (X.blk scope N' C s₂ H₂ ex) elt te)
    (hs : ∀ x, foldedSetIterable iter X.env x = pure x) {pins : List (Addr × Obj)} {s : Shared} {σ : St} {H : Hp} {Q : VK} (I : Inv X pins σ H s) (h : tComp wi ix g tc te σ H Q)
    (hend : ∀ (s2 : Shared) (H2 : Hp) (fp : List Addr) (C D : Addr) (s4 : Shared) (H' : Hp) (ys : List V) (its : List Value) (k : Nat) (pins' : List (Addr × Obj)) (σ' : St), Inv X pins σ H2 s2 → s2.heap.objs.size ≤ D → D < C → (∀ b ∈ fp, FpOk X pins H2 b) →
      Inv (X.blk scope N' C s2 H2 (D :: fp)) pins' σ' H' s4 → H' D = none → ys.length ≤ sizeLine → Vals ys its → s4.heap.get? D = some { cls := .type "list", data := .seq its.toArray k } → Q (.ref D) (upd H' D (.lst ys)) →
      compPost (model X.prog X.w) X.A X.xe use QQ (.ref D) C (.ok .next) s4) (p' : Pos) :
    wpAny (model X.prog X.w) X.A (comprehension (.ListComp elt [⟨tg, iter, ifs, 0⟩] scope pos) scope X.env p' (newList []) false (eval iter X.env) use) QQ X.xe s := by
  refine wpAny_comprehension_free (use := use) (cl := clOf X.env.cells scope.names []) rfl hs (closureFor_of (blk_free I S)) S.kind S.own ?_
  refine thn (hi pins s σ H _ I h) fun v s1 h1 => thn h1 fun itv s2 h2 => ?_
  obtain ⟨it, fp, tn, J, H2, e, I2, T, st2, f2, n, Pv, hn, p0, turn, fin⟩ := h2
  subst e
  refine wpAny_newObj_type (wpAny_newFunctionEnv S.cell (by intro y hy; simp at hy) (fun h₁ hns₁ hsb₁ => ?_) S.kind)
  dsimp only at hns₁ hsb₁ ⊢
  generalize hH2 : s2.heap.push { cls := .type "list", dict := none, data := .seq ([] : List Value).toArray } = G2 at hns₁ hsb₁ ⊢
  have hC : G2.objs.size = s2.heap.objs.size + 1 := by rw [← hH2, Heap.size_push]
  have hDC : s2.heap.objs.size < G2.objs.size := by rw [hC]; exact Nat.lt_succ_self _
  have hCle : s2.heap.objs.size ≤ G2.objs.size := Nat.le_of_lt hDC
  have old : ∀ b o, s2.heap.get? b = some o → h₁.get? b = some o := fun b o e => hsb₁.extBut b o (Nat.ne_of_lt (Nat.lt_trans (Heap.lt_size e) hDC)) (Heap.get?_push_of_some _ (hH2 ▸ Heap.get?_push_of_some _ e))
  have hacc : h₁.get? s2.heap.objs.size = some { cls := .type "list", data := .seq #[] } := hsb₁.extBut _ _ (Nat.ne_of_lt hDC) (Heap.get?_push_of_some _ (hH2 ▸ Heap.get?_push_size _ rfl))
  have hDn : H2 s2.heap.objs.size = none := I2.hok.fresh (Nat.le_refl _)
  have fD : ∀ b ∈ s2.heap.objs.size :: fp, FpOk X pins H2 b := fun b hb => by
    rcases List.mem_cons.mp hb with q | q
    · rw [q]; exact I2.fpOk (Nat.le_refl _) hDn
    · exact f2 b q
  have lfp : ∀ b ∈ fp, b < s2.heap.objs.size := fun b hb => by
    obtain ⟨o, ho, _⟩ := T.obj 0 _ st2 b hb
    exact Heap.lt_size ho
  have lD : ∀ b ∈ s2.heap.objs.size :: fp, b < G2.objs.size := fun b hb => by
    rcases List.mem_cons.mp hb with q | q
    · rw [q]; exact hDC
    · exact Nat.lt_trans (lfp b q) hDC
  have I3 : Inv (X.blk scope N' G2.objs.size s2 H2 (s2.heap.objs.size :: fp)) [] (takes ix σ) H2 { s2 with heap := h₁, toks := s2.toks + ([] : List (Str × Value)).length } := blk_inv I2 S hCle fD lD old hns₁
  have st3 : tn 0 h₁ := T.keep 0 _ _ st2 fun b hb o e => old b o e
  have noxE : ∀ {α : Type} {t : Sem α} {Q' : α → Shared → Prop} {E' : Value → Shared → Prop} {s' : Shared}, wpAny (model X.prog X.w) X.A t Q' (fun _ _ => False) s' → wpAny (model X.prog X.w) X.A t Q' E' s' := fun w => wpAny_mono w (fun _ _ q => q) fun _ _ z => False.elim z
  -- a record of the block's own
  have fpB : ∀ {H' : Hp} {pins' : List (Addr × Obj)}, (∀ b ∈ s2.heap.objs.size :: fp, H' b = none) → pins' = [] → ∀ b ∈ s2.heap.objs.size :: fp, FpOk (X.blk scope N' G2.objs.size s2 H2 (s2.heap.objs.size :: fp)) pins' H' b := by
    intro H' pins' hn' hp b hb
    subst hp
    have ok := I3.ok
    exact ⟨hn' b hb, (ok.exf b hb).1, ok.exfs b hb, .inl hb, (ok.exf b hb).2, fun p hp => nomatch hp⟩
  have loop : ∀ s3 : Shared, s3 = { s2 with heap := h₁, toks := s2.toks + ([] : List (Str × Value)).length } →
      codeAny (model X.prog X.w) X.A (.compLoop (.ListComp elt [⟨tg, iter, ifs, 0⟩] scope pos) 0 (.ref it) (.ref s2.heap.objs.size) (compEnvC scope (clOf X.env.cells scope.names []) G2.objs.size X.env))
        (compPost (model X.prog X.w) X.A X.xe use QQ (.ref s2.heap.objs.size) G2.objs.size) s3 := by
    rintro s3 rfl
    refine codeAny_loop rfl (fun mm s' => ∃ i ys its k H', mm = n - i ∧ i ≤ n ∧ ys.length ≤ i ∧ Inv (X.blk scope N' G2.objs.size s2 H2 (s2.heap.objs.size :: fp)) [] (takes ix σ) H' s' ∧ tn i s'.heap ∧
        (∀ b ∈ s2.heap.objs.size :: fp, H' b = none) ∧ Vals ys its ∧ s'.heap.get? s2.heap.objs.size = some { cls := .type "list", data := .seq its.toArray k } ∧ Pv i ys H') ?_ n
      ⟨0, [], [], _, H2, rfl, Nat.zero_le _, Nat.le_refl _, I3, st3, fun b hb => (fD b hb).1, .nil, hacc, p0⟩
    rintro mm s' ⟨i, ys, its, k, H', rfl, hin, hyl, I', st', fr', rv, hob, pv⟩
    show wpAny _ X.A ((compTurn (.ListComp elt [⟨tg, iter, ifs, 0⟩] scope pos) 0 (.ref it) (.ref s2.heap.objs.size) (compEnvC scope (clOf X.env.cells scope.names []) G2.objs.size X.env)).onRaise (fun x => do noteFrame x (compEnvC scope (clOf X.env.cells scope.names []) G2.objs.size X.env); theTreesLotGoes x)) _ _ s'
    refine wpAny_noted ?_
    rw [compTurn_list]
    refine wpAny_bind (wpAny_standAt (wpAny_bind ?_))
    have fpT : ∀ b ∈ fp, FpOk (X.blk scope N' G2.objs.size s2 H2 (s2.heap.objs.size :: fp)) [] H' b := fun b hb => fpB fr' rfl b (List.mem_cons_of_mem _ hb)
    by_cases hlt : i < n
    · obtain ⟨go, step⟩ := turn i ys H' hlt pv
      -- the list is pinned while the iterator turns
      refine noxE (thn (T.item (X.blk scope N' G2.objs.size s2 H2 (s2.heap.objs.size :: fp)) rfl rfl rfl hcalm i [(s2.heap.objs.size, ({ cls := .type "list", data := .seq its.toArray k } : Obj))] s' _ H' (fun _ _ => False) (I'.pins_of fun p hp => ?_) (fun b hb => ?_) st' go) fun r s4 ⟨u, hr, h4⟩ => ?_)
      · obtain rfl := List.mem_singleton.mp hp
        refine ⟨hob, fr' _ List.mem_cons_self, Nat.ne_of_lt hDC, ?_, fun v z => ?_⟩
        · exact I3.ok.exfs _ List.mem_cons_self
        · have z' : Data.seq _ _ = Data.cell v := z
          cases z'
      · obtain ⟨f0, f1, f2', f3, f4, f5⟩ := fpT b hb
        refine ⟨f0, f1, f2', f3, f4, fun p hp => ?_⟩
        obtain rfl := List.mem_singleton.mp hp
        exact Nat.ne_of_gt (lfp b hb)
      · subst hr
        refine wpAny_bind (noxE (thn h4 fun _ s5 ⟨x, H5, I5, r5, y5, st5, fr5⟩ => ?_))
        -- from here on the iterator's records and the list are pinned
        have D5 := I5.pin (s2.heap.objs.size, ({ cls := .type "list", data := .seq its.toArray k } : Obj)) (by simp [Cx.blk])
        have fr5' : ∀ b ∈ s2.heap.objs.size :: fp, H5 b = none := fun b hb => by
          rcases List.mem_cons.mp hb with q | q
          · rw [q]; exact D5.2.1
          · exact fr5 b q
        have I5' : Inv (X.blk scope N' G2.objs.size s2 H2 (s2.heap.objs.size :: fp)) ([] ++ pinsAt (s2.heap.objs.size :: fp) s5.heap) (takes ix σ) H5 s5 :=
          (I5.pins_of (pins' := []) fun p hp => nomatch hp).pinned (fpB fr5' rfl) fun b hb => by
            rcases List.mem_cons.mp hb with q | q
            · subst q
              exact ⟨_, D5.1, D5.2.2.2.2⟩
            · exact T.obj _ _ st5 b q
        refine wpAny_bind (noxE (thn (hg _ _ _ _ _ s5 _ H5 x u _ I5' r5 (hgo _ _ _ _ (step x H5 y5))) fun _ s6 ⟨σ6, H6, I6, q6, l6, k6⟩ => ?_))
        refine wpAny_bind (noxE (thn (hc _ _ _ _ _ s6 σ6 H6 _ I6 q6) fun ok s7 ⟨H7, I7, q7⟩ => ?_))
        have back : ∀ {H8 : Hp} {s8 : Shared}, Inv (X.blk scope N' G2.objs.size s2 H2 (s2.heap.objs.size :: fp)) ([] ++ pinsAt (s2.heap.objs.size :: fp) s5.heap) σ6 H8 s8 →
            Inv (X.blk scope N' G2.objs.size s2 H2 (s2.heap.objs.size :: fp)) [] (takes ix σ) H8 s8 ∧ tn (i + 1) s8.heap ∧ (∀ b ∈ s2.heap.objs.size :: fp, H8 b = none) ∧ s8.heap.get? s2.heap.objs.size = some { cls := .type "list", data := .seq its.toArray k } := by
          intro H8 s8 I8
          have hp : ∀ b ∈ s2.heap.objs.size :: fp, ∀ o, s5.heap.get? b = some o → s8.heap.get? b = some o ∧ H8 b = none := fun b hb o e =>
            let z := I8.pin (b, o) (List.mem_append_right _ (List.mem_append_right _ (mem_pinsAt hb e)))
            ⟨z.1, z.2.1⟩
          refine ⟨(I8.pins_of (pins' := []) fun p hp => nomatch hp).weak (by rw [l6]) (fun j v ej => ?_), T.keep _ _ _ st5 (fun b hb o e => (hp b (List.mem_cons_of_mem _ hb) o e).1), fun b hb => ?_, (hp _ List.mem_cons_self _ D5.1).1⟩
          · by_cases hj : j ∈ own
            · exfalso
              have e1 : (ix[j]?).map (fun o => o.bind fun j => (σ[j]?).join) = some (some v) := by rw [← List.getElem?_map]; exact ej
              rw [hown j hj] at e1
              cases e1
            · rw [k6 j hj]; exact ej
          · rcases List.mem_cons.mp hb with q | q
            · rw [q]; exact (hp _ List.mem_cons_self _ D5.1).2
            · obtain ⟨o, ho, _⟩ := T.obj _ _ st5 b q
              exact (hp b hb o ho).2
        cases ok with
        | false =>
          have q7' : Pv (i + 1) ys H7 := by simpa using q7
          obtain ⟨b1, b2, b3, b4⟩ := back I7
          exact wpAny_pure ⟨rfl, n - (i + 1), by omega, i + 1, ys, its, k, H7, rfl, hlt, Nat.le_succ_of_le hyl, b1, b2, b3, rv, b4, q7'⟩
        | true =>
          have q7' : te σ6 H7 fun y H6 => Pv (i + 1) (ys ++ [y]) H6 := by simpa using q7
          refine wpAny_bind (wpAny_bind (noxE (thn (he _ _ _ _ _ s7 σ6 H7 _ I7 q7') fun z s8 ⟨y, H8, I8, r8, q8⟩ => ?_)))
          obtain ⟨b1, b2, b3, b4⟩ := back I8
          have hsz : its.toArray.size ≤ sizeLine := by rw [List.size_toArray, ← rv.length]; omega
          refine wpAny_bind (append_at (hsz := hsz) b4 fun h9 hs9 hD9 => ?_)
          · refine wpAny_pure (wpAny_pure ⟨rfl, n - (i + 1), by omega, i + 1, ys ++ [y], its ++ [z], k + 1, H8, rfl, hlt, ?_, ?_, ?_, b3, ?_, ?_, q8⟩)
            · rw [List.length_append, List.length_singleton]; exact Nat.succ_le_succ hyl
            · have fd := fpB b3 rfl _ List.mem_cons_self
              exact b1.turned (t' := s8.toks) (fun b o hb e => hs9.extBut b o hb e) fd.1 fd.2.1 fd.2.2.2.1 fd.2.2.2.2.1 fd.2.2.2.2.2
            · exact T.keep _ _ _ b2 fun b hb o e => hs9.extBut b o (Nat.ne_of_lt (lfp b hb)) e
            · exact rv.append (.cons r8 .nil)
            · rw [hD9]; simp
    · have hieq : i = n := by omega
      subst hieq
      obtain ⟨stop, qf⟩ := fin ys H' pv
      refine noxE (thn (T.done (X.blk scope N' G2.objs.size s2 H2 (s2.heap.objs.size :: fp)) rfl rfl rfl hcalm i [(s2.heap.objs.size, ({ cls := .type "list", data := .seq its.toArray k } : Obj))] s' _ H' (fun _ _ => False) (I'.pins_of fun p hp => ?_) (fun b hb => ?_) st' stop) fun r s4 ⟨hr, I4⟩ => ?_)
      · obtain rfl := List.mem_singleton.mp hp
        refine ⟨hob, fr' _ List.mem_cons_self, Nat.ne_of_lt hDC, ?_, fun v z => ?_⟩
        · exact I3.ok.exfs _ List.mem_cons_self
        · have z' : Data.seq _ _ = Data.cell v := z
          cases z'
      · obtain ⟨f0, f1, f2', f3, f4, f5⟩ := fpT b hb
        refine ⟨f0, f1, f2', f3, f4, fun p hp => ?_⟩
        obtain rfl := List.mem_singleton.mp hp
        exact Nat.ne_of_gt (lfp b hb)
      · subst hr
        have D4 := I4.pin (s2.heap.objs.size, ({ cls := .type "list", data := .seq its.toArray k } : Obj)) (by simp [Cx.blk])
        refine wpAny_pure ?_
        exact hend s2 H2 fp _ _ s4 H' ys its k _ _ I2 (Nat.le_refl _) hDC f2 I4 D4.2.1 (Nat.le_trans hyl hn) rv D4.1 (qf _ D4.2.1)
  refine codeAny_compStart_list (loop _ rfl) (T.self X.A 0 _ _ _ st3 (loop _ rfl))
theorem pe_comp (hcalm : X.calm = true) (S : CompScope X scope N' ix) (hown : ∀ k ∈ own, ix[k]? = some none) (hi : PI X tg iter wi)
    (hg : ∀ C s₂ H₂ ex, PG (X.blk scope N' C s₂ H₂ ex) tg g) (hgo : TgOwn g own) (hc : ∀ C s₂ H₂ ex, PIfs (X.blk scope N' C s₂ H₂ ex) ifs tc) (he : ∀ C s₂ H₂ ex, PE (X.blk scope N' C s₂ H₂ ex) elt te)
    (hs : ∀ x, foldedSetIterable iter X.env x = pure x := by intro _; rfl) :
    PE X (.ListComp elt [⟨tg, iter, ifs, 0⟩] scope pos) (tComp wi ix g tc te) := by
  intro pins s σ H Q I h
  rw [eval_ListComp]
  refine comp_core (use := none) hcalm S hown hi hg hgo hc he hs I h (fun s2 H2 fp C D s4 H' ys its k pins' σ' I2 hD hDC f2 I4 hDn hl rv ho q => ?_) _
  obtain ⟨m4, hn4, _⟩ := id I4.loc
  exact ⟨m4, hn4, fun h' hs' => ⟨.ref D, upd H' D (.lst ys), blk_back I2 hD hDC f2 I4 hs' hDn hl rv ho, rfl, q⟩⟩
end
end L2

namespace L2
open PySem PySem.Spec PyProof.Rows

/-! ### a walk of the library's as a loop's source -/
section
variable {P : Program} {w : World} {K : PySem.W.Frag} {tg : Expr}
end
section
variable {X : Cx} {tg : Expr}
/-! ### all(list of bools), ''.join, isinstance -/
/-! ### () + t is t -/
end
end L2

namespace L2
open PySem PySem.Spec PyProof.Rows

/-! ### a[::-1] -/
section
variable {prog : Program} {w : World} {A : Around} {E : Value → Shared → Prop} {s : Shared}
end
section
variable {X : Cx} {e st : Expr} {te : TE} {pos p2 p3 p4 : Pos}
end
end L2

namespace L2
open PySem PySem.Spec PyProof.Rows

/-! ### data that stands in the heap -/
mutual
def Has (H : Hp) : V → PyData → Prop
  | v, .none => v = .non
  | v, .bool b => v = .bl b
  | v, .int i => v = .int i
  | v, .str x => v = .str x
  | v, .list ds => ∃ a xs, v = .ref a ∧ H a = some (.lst xs) ∧ HasL H xs ds
  | v, .tuple ds => ∃ a xs, v = .ref a ∧ H a = some (.tup xs) ∧ HasL H xs ds
  | _, .dict _ => False
def HasL (H : Hp) : List V → List PyData → Prop
  | xs, [] => xs = []
  | xs, d :: ds => ∃ x r, xs = x :: r ∧ Has H x d ∧ HasL H r ds
end
mutual
theorem Has.same {H H' : Hp} (e : Same H H') : ∀ {v : V} {d : PyData}, Has H v d → Has H' v d
  | v, .none, h => by unfold Has at h ⊢; exact h
  | v, .bool b, h => by unfold Has at h ⊢; exact h
  | v, .int i, h => by unfold Has at h ⊢; exact h
  | v, .str x, h => by unfold Has at h ⊢; exact h
  | v, .list ds, h => by
    unfold Has at h ⊢
    obtain ⟨a, xs, h1, h2, h3⟩ := h
    exact ⟨a, xs, h1, e _ _ h2, HasL.same e h3⟩
  | v, .tuple ds, h => by
    unfold Has at h ⊢
    obtain ⟨a, xs, h1, h2, h3⟩ := h
    exact ⟨a, xs, h1, e _ _ h2, HasL.same e h3⟩
  | v, .dict kvs, h => by unfold Has at h; exact h.elim
theorem HasL.same {H H' : Hp} (e : Same H H') : ∀ {xs : List V} {ds : List PyData}, HasL H xs ds → HasL H' xs ds
  | xs, [], h => by unfold HasL at h ⊢; exact h
  | xs, d :: ds, h => by
    unfold HasL at h ⊢
    obtain ⟨x, r, h1, h2, h3⟩ := h
    exact ⟨x, r, h1, Has.same e h2, HasL.same e h3⟩
end
theorem HasL.length {H : Hp} : ∀ {xs : List V} {ds : List PyData}, HasL H xs ds → xs.length = ds.length
  | xs, [], h => by unfold HasL at h; subst h; rfl
  | xs, d :: ds, h => by
    unfold HasL at h
    obtain ⟨x, r, rfl, h2, h3⟩ := h
    simp [HasL.length h3]
theorem HasL.get {H : Hp} : ∀ {xs : List V} {ds : List PyData} {i : Nat} {d : PyData}, HasL H xs ds → ds[i]? = some d → ∃ x, xs[i]? = some x ∧ Has H x d
  | xs, [], i, d, h, e => by simp at e
  | xs, d' :: ds, 0, d, h, e => by
    unfold HasL at h
    obtain ⟨x, r, rfl, h2, h3⟩ := h
    simp at e; subst e
    exact ⟨x, rfl, h2⟩
  | xs, d' :: ds, i + 1, d, h, e => by
    unfold HasL at h
    obtain ⟨x, r, rfl, h2, h3⟩ := h
    obtain ⟨y, h4, h5⟩ := HasL.get (i := i) h3 (by simpa using e)
    exact ⟨y, by simpa using h4, h5⟩
theorem HasL.append {H : Hp} : ∀ {xs ys : List V} {ds es : List PyData}, HasL H xs ds → HasL H ys es → HasL H (xs ++ ys) (ds ++ es)
  | xs, ys, [], es, h, h' => by unfold HasL at h; subst h; simpa using h'
  | xs, ys, d :: ds, es, h, h' => by
    unfold HasL at h
    obtain ⟨x, r, rfl, h2, h3⟩ := h
    show HasL H (x :: (r ++ ys)) (d :: (ds ++ es))
    unfold HasL
    exact ⟨x, r ++ ys, rfl, h2, HasL.append h3 h'⟩
theorem hasL_nil {H : Hp} : HasL H [] [] := by unfold HasL; rfl
theorem hasL_cons {H : Hp} {x : V} {xs : List V} {d : PyData} {ds : List PyData} (h : Has H x d) (t : HasL H xs ds) : HasL H (x :: xs) (d :: ds) := by unfold HasL; exact ⟨x, xs, rfl, h, t⟩
theorem has_int {H : Hp} (i : Int) : Has H (.int i) (.int i) := by unfold Has; rfl
theorem has_str {H : Hp} (x : Str) : Has H (.str x) (.str x) := by unfold Has; rfl
theorem has_lst {H : Hp} {a : Addr} {xs : List V} {ds : List PyData} (h : H a = some (.lst xs)) (t : HasL H xs ds) : Has H (.ref a) (.list ds) := by unfold Has; exact ⟨a, xs, rfl, h, t⟩
theorem has_tup {H : Hp} {a : Addr} {xs : List V} {ds : List PyData} (h : H a = some (.tup xs)) (t : HasL H xs ds) : Has H (.ref a) (.tuple ds) := by unfold Has; exact ⟨a, xs, rfl, h, t⟩

section
variable {X : Cx} {pins : List (Addr × Obj)} {σ : St} {H : Hp} {s : Shared}
mutual
theorem has_reads (I : Inv X pins σ H s) : ∀ {v : V} {d : PyData} {u : Value}, Has H v d → RelV v u → ∃ as, Reads s.heap u d as
  | v, .none, u, h, r => by unfold Has at h; subst h; cases (show u = Value.none from r); exact ⟨_, .none⟩
  | v, .bool b, u, h, r => by unfold Has at h; subst h; cases (show u = Value.bool b from r); exact ⟨_, .bool b⟩
  | v, .int i, u, h, r => by unfold Has at h; subst h; obtain ⟨t, rfl⟩ := r; exact ⟨_, .int i t⟩
  | v, .str x, u, h, r => by unfold Has at h; subst h; obtain ⟨t, rfl⟩ := r; exact ⟨_, .str x t⟩
  | v, .list ds, u, h, r => by
    unfold Has at h
    obtain ⟨a, xs, rfl, h2, h3⟩ := h
    cases (show u = Value.ref a from r)
    obtain ⟨z, its, n, rv, e⟩ := (show ObjOk X.prog X.w H s.heap a (.lst xs) from I.hok a _ h2)
    obtain ⟨as, ra⟩ := hasL_reads I h3 rv
    exact ⟨_, .list e rfl rfl (by simpa using ra)⟩
  | v, .tuple ds, u, h, r => by
    unfold Has at h
    obtain ⟨a, xs, rfl, h2, h3⟩ := h
    cases (show u = Value.ref a from r)
    obtain ⟨z, its, rv, p⟩ := (show ObjOk X.prog X.w H s.heap a (.tup xs) from I.hok a _ h2)
    obtain ⟨o, e, c, n, d⟩ := p
    obtain ⟨as, ra⟩ := hasL_reads I h3 rv
    exact ⟨_, .tuple e c d (by simpa using ra)⟩
  | v, .dict kvs, u, h, r => by unfold Has at h; exact h.elim
theorem hasL_reads (I : Inv X pins σ H s) : ∀ {xs : List V} {ds : List PyData} {us : List Value}, HasL H xs ds → Vals xs us → ∃ as, ReadsAll s.heap us ds as
  | xs, [], us, h, r => by
    unfold HasL at h
    subst h
    cases Vals.zero r
    exact ⟨_, .nil⟩
  | xs, d :: ds, us, h, r => by
    unfold HasL at h
    obtain ⟨x, rr, rfl, h2, h3⟩ := h
    cases r with
    | cons r1 r2 =>
      obtain ⟨as, a1⟩ := has_reads I h2 r1
      obtain ⟨bs, a2⟩ := hasL_reads I h3 r2
      exact ⟨_, .cons a1 a2⟩
end
/-- == and != of data -/
def rEqD : R2 := fun x y H Q => ∃ d e, Has H x d ∧ Has H y e ∧ SeqAt.shaped d = true ∧ SeqAt.shaped e = true ∧ Q (.bl (PyData.eqv d e)) H
def rNeD : R2 := fun x y H Q => ∃ d e, Has H x d ∧ Has H y e ∧ SeqAt.shaped d = true ∧ SeqAt.shaped e = true ∧ Q (.bl (!PyData.eqv d e)) H
theorem op_eqD (hu : X.A.units + 64 < cLine) : OpR X (compareOp .Eq) rEqD := by
  rintro pins s σ H x y v u Q I rx ry ⟨d, e, h1, h2, s1, s2, q⟩
  obtain ⟨as, r1⟩ := has_reads I h1 rx
  obtain ⟨bs, r2⟩ := has_reads I h2 ry
  exact eq_dataH r1 r2 s1 s2 hu ⟨.bl _, H, I, rfl, q⟩
theorem op_neD (hu : X.A.units + 64 < cLine) : OpR X (compareOp .NotEq) rNeD := by
  rintro pins s σ H x y v u Q I rx ry ⟨d, e, h1, h2, s1, s2, q⟩
  obtain ⟨as, r1⟩ := has_reads I h1 rx
  obtain ⟨bs, r2⟩ := has_reads I h2 ry
  exact ne_dataH r1 r2 s1 s2 hu ⟨.bl _, H, I, rfl, q⟩
end

/-! ### a def that is called by its name -/
structure Callee (P : Program) (w : World) (K : PySem.W.Frag) (mg : Str → Option Value) (base : Heap) (k : Nat) (x : Str) (ps : List Str) (sp : Sp) : Prop where
  ex : ∃ f fd, FnOk P w K mg base CX0 k f fd ps sp ∧ mg x = some (.ref f) ∧ PySem.W.keepIn K (.ref f) = true ∧ Binds K fd ps []
section
variable {X : Cx} {k : Nat} {x : Str} {ps : List Str} {sp : Sp} {e : Expr} {es : List Expr} {t : TA} {p pos : Pos}
theorem pe_fn (C : Callee X.prog X.w X.K X.mg X.base k x ps sp) (hr : Room k X.A) (ha : PA X (e :: es) t) (hg : Gl X x := by rfl) (hdb : (x == ("__debug__" : Str)) = false := by decide)
    (he : starEach (e :: es) X.env = (false, eval e X.env) :: starEach es X.env := by rfl) (hpl : (backTo pos (starEach es X.env)).any (·.1) = false := by rfl) :
    PE X (.Call (.Name x p) (e :: es) [] pos) (tCall sp [] E0 t) := by
  obtain ⟨f, fd, F, hm, hk, hb⟩ := C.ex
  exact pe_call F hr hg hm hk hb .nil pass0 ha hdb he hpl
end

/-! ### the scope of a comprehension, by a look -/
def visB (o : Option NameKind) : Bool := o == some .local || o == some .cell || o == some .free
def compOk (osc : Scope) (ON : List Str) (scope : Scope) (N' : List Str) (ix : List (Option Nat)) : Bool :=
  scope.kind == .function && scope.names.all (fun y => y.2 != .cell) && scope.names.all (fun y => y.2 != .local || scope.names.lookup y.1 == some .local) &&
  scope.names.all (fun y => y.2 != .free || (osc.names.lookup y.1 == some .cell || osc.names.lookup y.1 == some .free)) &&
  scope.names.all (fun y => y.2 != .local || !(scope.names.any fun z => z.1 == y.1 && z.2 == .free)) && ix.length == N'.length &&
  (List.range ix.length).all fun i => match ix[i]? with
    | some (some j) => ON[j]? == N'[i]? && (match N'[i]? with | some x => (scope.names.any fun z => z.1 == x && z.2 == .free) && visB (osc.names.lookup x) | none => true)
    | _ => true
theorem cs_of {X : Cx} {osc : Scope} {ON : List Str} {scope : Scope} {N' : List Str} {ix : List (Option Nat)} (h1 : X.env.scope = osc) (h2 : X.N = ON) (h : compOk osc ON scope N' ix = true) : CompScope X scope N' ix := by
  unfold compOk at h
  simp only [Bool.and_eq_true] at h
  obtain ⟨⟨⟨⟨⟨⟨a1, a2⟩, a3⟩, a4⟩, a5⟩, a6⟩, a7⟩ := h
  rw [List.all_eq_true] at a2 a3 a4 a5 a7
  refine ⟨eq_of_beq a1, fun y hy => by simpa using a2 y hy, fun y hy hl => ?_, fun y hy hl => ?_, fun x h3 h4 => ?_, eq_of_beq a6, fun i j hij => ?_⟩
  · have := a3 y hy
    rw [hl] at this
    simpa using this
  · have := a4 y hy
    rw [hl] at this
    have e : X.env.kindOf y.1 = osc.names.lookup y.1 := by rw [← h1]; rfl
    rw [e]
    simpa using this
  · have := a5 _ h3
    simp only [bne_self_eq_false, Bool.false_or, Bool.not_eq_true'] at this
    rw [List.any_eq_false] at this
    have z := this _ h4
    simp at z
  · have hi : i < ix.length := (List.getElem?_eq_some_iff.mp hij).1
    have := a7 i (List.mem_range.mpr hi)
    rw [hij] at this
    simp only [Bool.and_eq_true] at this
    obtain ⟨b1, b2⟩ := this
    refine ⟨by rw [h2]; exact eq_of_beq b1, fun x hx => ?_⟩
    rw [hx] at b2
    simp only [Bool.and_eq_true] at b2
    obtain ⟨c1, c2⟩ := b2
    obtain ⟨z, hz, hz2⟩ := List.any_eq_true.mp c1
    simp only [Bool.and_eq_true, beq_iff_eq] at hz2
    obtain ⟨z1, z2⟩ := z
    obtain ⟨rfl, rfl⟩ := hz2
    refine ⟨hz, ?_⟩
    unfold visB at c2
    simp only [Bool.or_eq_true, beq_iff_eq] at c2
    unfold Vis
    rw [h1]
    rcases c2 with (c2 | c2) | c2
    · exact .inl c2
    · exact .inr (.inl c2)
    · exact .inr (.inr c2)

/-! ### isinstance of data -/
/-! ### heaps that grow -/
theorem Same.new {H : Hp} {p : Addr} {o : HO} (h : H p = none) : Same H (upd H p o) := fun b u e => by rw [upd_ne (ne_of_none e h)]; exact e
theorem Same.tup {K : PySem.W.Frag} {H H' : Hp} (e : Same H H') {a : Addr} {xs : List V} (h : SqT K H a xs) : SqT K H' a xs := by
  rcases h with (h | ⟨o, h⟩) | h
  · exact .inl (.inl (e _ _ h))
  · exact .inl (.inr ⟨o, e _ _ h⟩)
  · exact .inr h
theorem SqT.ofT {K : PySem.W.Frag} {H : Hp} {a : Addr} {xs : List V} (h : H a = some (.tup xs)) : SqT K H a xs := .inl (.inl h)
theorem SqL.ofL {K : PySem.W.Frag} {H : Hp} {a : Addr} {xs : List V} (h : H a = some (.lst xs)) : SqL K H a xs := .inl (.inl h)
theorem rd_yes {σ : St} {H : Hp} {Q : Bool → Hp → Prop} (h : Q true H) : tYes σ H Q := h
theorem rd_name {i : Nat} {v : V} {σ : St} {H : Hp} {Q : St → Hp → Prop} (h : Q (σ.set i (some v)) H) : gName i v σ H Q := h
end L2
namespace L2
open PySem PySem.Spec PyProof.Rows
section
variable {X : Cx}
/-- xs == [], xs != [] -/
def rEq0 (K : PySem.W.Frag) : R2 := fun x y H Q => ∃ a b xs, x = .ref a ∧ y = .ref b ∧ SqL K H a xs ∧ SqL K H b [] ∧ Q (.bl xs.isEmpty) H
def rNe0 (K : PySem.W.Frag) : R2 := fun x y H Q => ∃ a b xs, x = .ref a ∧ y = .ref b ∧ SqL K H a xs ∧ SqL K H b [] ∧ Q (.bl (!xs.isEmpty)) H
theorem op_eq0 (hu : X.A.units < cLine) : OpR X (compareOp .Eq) (rEq0 X.K) := by
  rintro pins s σ H x y v u Q I rx ry ⟨a, b, xs, rfl, rfl, ha, hb, q⟩
  cases rx; cases ry
  obtain ⟨its, r1, p1, _⟩ := I.list ha
  obtain ⟨its2, r2, p2, _⟩ := I.list hb
  cases Vals.zero r2
  by_cases h : xs = []
  · subst h
    cases Vals.zero r1
    exact SeqAt.RcAt.lists (e := fun _ => true) p1.isList p2.isList rfl hu (fun j h1 _ => absurd h1 (by simp)) _ _ _ _ ⟨.bl true, H, I, rfl, q⟩
  · have e : xs.isEmpty = false := by simpa using h
    rw [e] at q
    have hl := r1.length
    refine SeqAt.RcAt.lists_lengths p1.isList p2.isList ?_ hu _ _ _ _ ⟨.bl false, H, I, rfl, q⟩
    have : xs.length ≠ 0 := fun z => h (List.length_eq_zero_iff.mp z)
    simp; intro z; subst z; simp at hl; exact this (by simpa using hl)
theorem op_ne0 (hu : X.A.units < cLine) : OpR X (compareOp .NotEq) (rNe0 X.K) := by
  rintro pins s σ H x y v u Q I rx ry ⟨a, b, xs, rfl, rfl, ha, hb, q⟩
  cases rx; cases ry
  obtain ⟨its, r1, p1, _⟩ := I.list ha
  obtain ⟨its2, r2, p2, _⟩ := I.list hb
  cases Vals.zero r2
  by_cases h : xs = []
  · subst h
    cases Vals.zero r1
    exact SeqAt.RcNeAt.lists (e := fun _ => true) p1.isList p2.isList rfl hu (fun j h1 _ => absurd h1 (by simp)) _ _ _ _ ⟨.bl false, H, I, rfl, q⟩
  · have e : xs.isEmpty = false := by simpa using h
    rw [e] at q
    have hl := r1.length
    refine SeqAt.RcNeAt.lists_lengths p1.isList p2.isList ?_ hu _ _ _ _ ⟨.bl true, H, I, rfl, q⟩
    have : xs.length ≠ 0 := fun z => h (List.length_eq_zero_iff.mp z)
    simp; intro z; subst z; simp at hl; exact this (by simpa using hl)
end
end L2
namespace L2
open PySem PySem.Spec PyProof.Rows
section
variable {X : Cx}
end
end L2
namespace L2
end L2

namespace L2
open PySem PySem.Spec PyProof.Rows
/-! ### argument lists whose looks are cheap -/
def plainE : Expr → Bool
  | .Starred _ _ => false
  | _ => true
theorem star_of {e : Expr} {es : List Expr} {env : Env} (h : plainE e = true) : starEach (e :: es) env = (false, eval e env) :: starEach es env := by
  cases e <;> first | rfl | (exact absurd (show false = true from h) Bool.false_ne_true)
structure PAs (X : Cx) (es : List Expr) (t : TA) : Prop where
  pa : PA X es t
  st : ∀ env, starEach es env = es.map fun e => (false, eval e env)
section
variable {X : Cx} {e : Expr} {es : List Expr} {te : TE} {t : TA} {pos p : Pos} {x : Str} {k : Nat} {ps : List Str} {sp : Sp} {id T : String} {r : List V → Hp → VK → Prop}
theorem as_nil : PAs X [] tNil := ⟨pa_nil, fun _ => rfl⟩
theorem as_cons (ha : PE X e te) (hr : PAs X es t) (hp : plainE e = true := by rfl) : PAs X (e :: es) (tCons te t) :=
  ⟨pa_cons ha hr.pa (star_of hp), fun env => by rw [star_of hp, hr.st]; rfl⟩
theorem back_any (pos : Pos) (env : Env) : ∀ es : List Expr, (backTo pos (es.map fun e => (false, eval e env))).any (·.1) = false
  | [] => rfl
  | e :: es => by
    show (false || (backTo pos (es.map fun e => (false, eval e env))).any (·.1)) = false
    rw [back_any pos env es]; rfl
theorem PAs.he (h : PAs X (e :: es) t) (ht : ∀ env, starEach es env = es.map fun e => (false, eval e env)) : starEach (e :: es) X.env = (false, eval e X.env) :: starEach es X.env := by
  rw [h.st, ht]; rfl
/-- the tail is plain as well -/
structure PAt (X : Cx) (e : Expr) (es : List Expr) (t : TA) : Prop where
  all : PAs X (e :: es) t
  tl : ∀ env, starEach es env = es.map fun e => (false, eval e env)
theorem at_cons (ha : PE X e te) (hr : PAs X es t) (hp : plainE e = true := by rfl) : PAt X e es (tCons te t) := ⟨as_cons ha hr hp, hr.st⟩
theorem as_lst (h : PAs X es t) : PE X (.List es pos) (tLst t) := pe_lst h.pa
theorem as_tup {x1} (h : PAs X es t) : PE X (.Tuple es x1 pos) (tTup t) := pe_tup h.pa
theorem as_fn (C : Callee X.prog X.w X.K X.mg X.base k x ps sp) (hr : Room k X.A) (ha : PAt X e es t) (hg : Gl X x := by rfl) (hdb : (x == ("__debug__" : Str)) = false := by decide) :
    PE X (.Call (.Name x p) (e :: es) [] pos) (tCall sp [] E0 t) := pe_fn C hr ha.all.pa hg hdb (ha.all.he ha.tl) (by rw [ha.tl]; exact back_any _ _ _)
theorem as_callB (hc : CallR X (.builtin id) r) (hg : Gl X x) (hm : X.mg x = none) (hv : bootBuiltins x = some (.builtin id)) (ha : PAt X e es t) (hn : x ≠ "__name__" := by decide) (hdb : (x == ("__debug__" : Str)) = false := by decide) :
    PE X (.Call (.Name x p) (e :: es) [] pos) (tCB r t) := pe_callB hc hg hm hv ha.all.pa hn hdb (ha.all.he ha.tl) (by rw [ha.tl]; exact back_any _ _ _)
theorem as_callTy (hc : CallR X (.type T) r) (hg : Gl X x) (hm : X.mg x = none) (hv : bootBuiltins x = some (.type T)) (ha : PAt X e es t) (hn : x ≠ "__name__" := by decide) (hdb : (x == ("__debug__" : Str)) = false := by decide) :
    PE X (.Call (.Name x p) (e :: es) [] pos) (tCB r t) := pe_callTy hc hg hm hv ha.all.pa hn hdb (ha.all.he ha.tl) (by rw [ha.tl]; exact back_any _ _ _)
end

/-! ### the rules with the written part named (a block's own context is not to be in a reading) -/
section
variable {X : Cx} {e a : Expr} {te : TE} {tg : Expr} (K : PySem.W.Frag)
theorem k_sl_list (h : X.K = K := by rfl) : SlR X (rSlL K) := h ▸ sl_list
theorem k_ix_list (h : X.K = K := by rfl) : IxR X (rIxL K) := h ▸ ix_list
theorem k_ix_tup (h : X.K = K := by rfl) : IxR X (rIxT K) := h ▸ ix_tup
theorem k_in_seq (h : X.K = K := by rfl) : OpR X (compareOp .In) (rIn K false) := h ▸ op_in_seq
theorem k_len_seq (h : X.K = K := by rfl) : CallR X (.builtin "len") (fun xs H Q => ∃ p ys, xs = [.ref p] ∧ (SqL K H p ys ∨ SqT K H p ys) ∧ Q (.int ys.length) H) := h ▸ call_len_seq
theorem k_list_of (h : X.K = K := by rfl) : CallR X (.type "list") (fun xs H Q => ∃ p ys, xs = [.ref p] ∧ (SqL K H p ys ∨ SqT K H p ys) ∧ ∀ l, H l = none → Q (.ref l) (upd H l (.lst ys))) := h ▸ call_list_of
theorem k_eq0 (hu : X.A.units < cLine) (h : X.K = K := by rfl) : OpR X (compareOp .Eq) (rEq0 K) := h ▸ op_eq0 hu
theorem k_ne0 (hu : X.A.units < cLine) (h : X.K = K := by rfl) : OpR X (compareOp .NotEq) (rNe0 K) := h ▸ op_ne0 hu
theorem k_it_list (he : PE X e te) (h : X.K = K := by rfl) : PI X tg e (iList K te) := h ▸ pi_list he
theorem k_fld {f : Str} {pos : Pos} (he : PE X e te) (hb : attributeBase e f X.env (eval e X.env) = eval e X.env) (h : X.K = K := by rfl) : PE X (.Attribute e f pos) (tFld K te f) := h ▸ pe_fld he hb
theorem k_bm {o : Expr} {es : List Expr} {to : TE} {t : TA} {name : Str} {apos cpos : Pos} {T id : String} {r : V → List V → Hp → VK → Prop} (pa : PlainAttrs T) (slot : Slot T name id) (hty : typeOf (.builtin id) = pure (.type "method_descriptor")) (hm : MtR X id r) (ho : PE X o to) (ha : PA X (e :: es) t) (h : X.K = K := by rfl)
    (hbase : attributeBase o name X.env (eval o X.env) = eval o X.env := by rfl)
    (hfew : ((backTo cpos (starEach (e :: es) X.env)).all (fun x => !x.1) && (backToKw cpos (keywordEach [] X.env)).all (fun x => x.1.isSome)
      && decide ((e :: es).length + ([] : List Keyword).length + (if ([] : List Keyword).isEmpty then 0 else 1) < 30)) = true := by rfl)
    (hline : (apos.endLine == cpos.line) = true := by rfl) (hs : starEach (e :: es) X.env = (false, eval e X.env) :: starEach es X.env := by rfl) (hplain : (backTo cpos (starEach es X.env)).any (·.1) = false := by rfl) :
    PE X (.Call (.Attribute o name apos) (e :: es) [] cpos) (tBM K T r to t) := h ▸ pe_bm pa slot hty hm ho ha hbase hfew hline hs hplain
end
end L2

namespace L2
open PySem PySem.Spec PyProof.Rows
section
variable {X : Cx} {pins : List (Addr × Obj)} {σ : St} {H : Hp} {s : Shared}
/-- an object of ours that was not tracked is tracked from here on -/
theorem Inv.track {D : Addr} {o : HO} (I : Inv X pins σ H s) (f : FpOk X pins H D) (ok : ObjOk X.prog X.w (upd H D o) s.heap D o) : Inv X pins σ (upd H D o) s := by
  obtain ⟨f0, f1, f2, f3, f4, f5⟩ := f
  have nt : ∀ b u, H b = some u → b ≠ D := fun b u e => ne_of_none e f0
  have r := I.step (H' := upd H D o) (h' := s.heap) (g' := s.gens) (d' := s.drawn) (t' := s.toks) (ch := [D]) (fun b hb => by
      obtain rfl : b = D := by simpa using hb
      exact ⟨f3, f1, f4, f5⟩) (fun b ob _ _ _ e _ => e) (fun b ob _ _ _ e _ => ⟨ob.slots, e⟩)
    (fun b ob hb _ n => by rw [upd_ne (fun z => hb (by simp [z]))]; exact n) (fun b ob _ e => ⟨ob, e⟩) (fun b xs e => by rw [upd_ne (nt b _ e)]; exact e) (fun b ob u e => by rw [upd_ne (nt b _ e)]; exact e)
    (fun b ps e => ⟨#[], by rw [upd_ne (nt b _ e), e]; simp⟩) (fun m hm => hm) (fun b u e => by
      by_cases hb : b = D
      · subst hb; rw [upd_same] at e; cases e; exact ok
      · rw [upd_ne hb] at e
        exact (I.hok b u e).stay (fun c v _ q => q) (fun c q => by rw [upd_ne (nt c _ q)]; exact q) fun c xs q => by rw [upd_ne (nt c _ q)]; exact q) I.bare
  exact r
end

section
variable {X : Cx} {pins : List (Addr × Obj)} {σ : St} {H : Hp} {s : Shared} {A : Around} {E : Value → Shared → Prop} {a kS : Addr} {vs : List Value} {kz : List Int} {keys : Array Value} {e e1 : Nat} {P : PySem.Fin → Shared → Prop}
end
end L2

namespace L2
open PySem PySem.Spec PyProof.Rows
/-- the items of a thing that may be walked, by values -/
def Coll (X : Cx) (x : V) (H : Hp) (xs : List V) : Prop :=
  ∀ (pins : List (Addr × Obj)) (s : Shared) (σ : St) (v : Value) (A : Around) (E : Value → Shared → Prop) (Q : List Value → Shared → Prop), Inv X pins σ H s → RelV x v → A.handled = none →
    (∀ vs s', Vals xs vs → Inv X pins σ H s' → Q vs s') → wpAny (model X.prog X.w) A (collect v) Q E s
section
variable {X : Cx}
/-- a list is walked -/
theorem coll_list {a : Addr} {H : Hp} {xs : List V} (h : SqL X.K H a xs) : Coll X (.ref a) H xs := by
  intro pins s σ v A E Q I r hh hq
  cases r
  obtain ⟨its, rv, pl, hz⟩ := I.list h
  refine collect_list pl.isList (hq its _ rv ?_) (by rw [← rv.length]; exact hz)
  refine I.kept (t' := s.toks) fun b o e => ?_
  have hb : b ≠ s.heap.objs.size := Nat.ne_of_lt (Heap.lt_size e)
  exact (Heap.get?_update_other _ _ (Ne.symm hb)).trans (Heap.get?_push_of_some _ e)
/-- d.values() -/
def ValsO (p d : Addr) : HO := .ext fun h => h.IsValuesView p d
def rValues : V → List V → Hp → VK → Prop := fun x vs H Q => ∃ d kvs, x = .ref d ∧ vs = [] ∧ H d = some (.dK kvs) ∧ ∀ p, H p = none → Q (.ref p) (upd H p (ValsO p d))
theorem mt_values : MtM X "dict.values" rValues := by
  intro pins s σ H x vs v us Q I rx rv h
  obtain ⟨d, kvs, rfl, rfl, hd, q⟩ := h
  cases rx
  cases Vals.zero rv
  obtain ⟨hz, lo, ws, rk, hD⟩ := (show ObjOk X.prog X.w H s.heap d (.dK kvs) from I.hok d _ hd)
  refine call_meetsIn PySem.F.slot_dict_values hD.typeIs PySem.F.entry_dict_values (PySem.F.args_dict_values_1 _) (meets_dict_values (mixKind X.prog X.w) d lo) ⟨⟨ws, hD⟩, ?_⟩
  refine ⟨.ref s.heap.objs.size, _, I.laid (t' := s.toks) (o := ValsO s.heap.objs.size d) (fun b u e => Heap.get?_push_of_some _ e) (Nat.le_refl _) ?_, rfl, q _ (I.hok.fresh (Nat.le_refl _))⟩
  have e : (s.heap.push { cls := .type "dict_values", data := .fields #[.ref d] }).get? s.heap.objs.size = some { cls := .type "dict_values", data := .fields #[.ref d] } := Heap.get?_push_size _ rfl
  exact ⟨⟨_, e, rfl, rfl⟩, ⟨_, e⟩, fun h1 h2 ⟨o, e1, c, dd⟩ k => ⟨o, k o e1, c, dd⟩⟩
theorem kv_vals : ∀ {kvs : List (Key × V)} {ws : List (Key × Value)}, KV kvs ws → Vals (kvs.map (·.2)) (ws.map (·.2))
  | _, _, .nil => .nil
  | _, _, .cons r t => .cons r.2 (kv_vals t)
theorem view_at {pins : List (Addr × Obj)} {σ : St} {H : Hp} {s : Shared} {p d : Addr} {kvs : List (Key × V)} (I : Inv X pins σ H s) (hp : H p = some (ValsO p d)) (hd : H d = some (.dK kvs)) :
    ∃ ws ep, KV kvs ws ∧ kvs.length ≤ sizeLine ∧ s.heap.IsValuesView p d ∧ s.heap.DictAt (mixKind X.prog X.w) d ws ep := by
  obtain ⟨hz, lo, ws, rk, hD⟩ := (show ObjOk X.prog X.w H s.heap d (.dK kvs) from I.hok d _ hd)
  obtain ⟨hv, _, _⟩ := (show ObjOk X.prog X.w H s.heap p (ValsO p d) from I.hok p _ hp)
  obtain ⟨ep, hat⟩ := hD.dictAt
  exact ⟨ws, ep, rk, hz, hv, hat⟩
theorem items_vals {ws : List (Key × Value)} {acc : Array Value} (h : ItemsOf (fun i v => ∃ k, ws[i]? = some (k, v)) acc ws.length) : acc.toList = ws.map (·.2) :=
  PySem.W.kdl_vals_eq acc.toList (by rw [Array.length_toList]; exact h.1) fun j v e => h.2 j v (by rw [← Array.getElem?_toList]; exact e)
theorem coll_vals {p d : Addr} {H : Hp} {kvs : List (Key × V)} (hp : H p = some (ValsO p d)) (hd : H d = some (.dK kvs)) : Coll X (.ref p) H (kvs.map (·.2)) := by
  intro pins s σ v A E Q I r hh hq
  cases r
  obtain ⟨ws, ep, rk, hz, hv, hat⟩ := view_at I hp hd
  have hl : kvs.length = ws.length := Paired.length rk
  have kp : ∀ b o, s.heap.get? b = some o → (s.heap.push (seqObj "list" #[] 0)).get? b = some o := fun b o e => Heap.get?_push_of_some _ e
  have hv' : (s.heap.push (seqObj "list" #[] 0)).IsValuesView p d := let ⟨o, e, x⟩ := hv; ⟨o, kp _ _ e, x⟩
  have hat' : (s.heap.push (seqObj "list" #[] 0)).DictAt (mixKind X.prog X.w) d ws ep := hat.at' fun o e => kp _ _ e
  have lp : p < s.heap.objs.size := let ⟨o, e, _⟩ := hv; Heap.lt_size e
  have ld : d < s.heap.objs.size := hat.lt_size
  unfold collect
  refine wpAny_bind (wpAny_runValue (codeAny_builtin entry_proto_collect' ?_))
  show wpAny _ _ (do again (.builtin "list.__iadd__" ⟨[← newList [], .ref p], []⟩)) _ _ s
  refine wpAny_bind (wpAny_newList (wpAny_pure ⟨Code.quiet_builtin _ (by decide +kernel), codeAny_builtin entry_list_iadd' ?_⟩))
  show wpAny _ _ (Builtin.List.listExtendWith (.ref s.heap.objs.size) (.ref p) (.ref s.heap.objs.size)) _ _ { s with heap := s.heap.push (seqObj "list" #[] 0) }
  rw [Around.under_plainId (show plainId "list.__iadd__" = true by decide +kernel) _]
  have fin : ∀ s' : Shared, (∃ acc c, s'.heap.get? s.heap.objs.size = some { cls := .type "list", dict := none, data := .seq acc c, slots := #[] } ∧ acc.toList = ws.map (·.2) ∧ Inv X pins σ H s') →
      wpAny (model X.prog X.w) A (do
        let o ← load s.heap.objs.size
        match o.data with
        | .seq xs _ => pure xs.toList
        | _ => unsupported "internal:collect") Q E s' := by
    rintro s' ⟨acc, c, hS, e, I'⟩
    refine wpAny_bind (wpAny_load hS ?_)
    show wpAny _ _ (pure acc.toList) Q E _
    exact wpAny_pure (hq _ _ (by rw [e]; exact kv_vals rk) I')
  refine wpAny_mono (PySem.W.kdl_extend (R := fun r s' => r = .ok (.ret (.ref s.heap.objs.size)) ∧ ∃ acc c, s'.heap.get? s.heap.objs.size = some { cls := .type "list", dict := none, data := .seq acc c, slots := #[] } ∧ acc.toList = ws.map (·.2) ∧ Inv X pins σ H s')
    (s := { s with heap := s.heap.push (seqObj "list" #[] 0) }) (PySem.W.kdl_values (knd := mixKind X.prog X.w) (kvs := ws) (ep := ep)) hh ⟨hv', hat'⟩ s.heap.objs.size (Nat.ne_of_gt lp) (Nat.ne_of_gt ld) _ 0 (Heap.get?_push_size _ rfl) (fun h' tk acc c hk hS hacc => ?_) (show ws.length ≤ sizeLine by omega))
    (fun fi s' hf => ?_) (fun e s' he => nomatch he.1)
  · exact ⟨rfl, acc, c, hS, items_vals hacc, I.kept fun b o eb => hk b o (Nat.ne_of_lt (Heap.lt_size eb)) (kp b o eb)⟩
  · cases fi with
    | done f =>
      obtain ⟨e, g⟩ := hf
      cases e
      exact fin s' g
    | again c' =>
      refine ⟨hf.1, codeAny_mono hf.2 fun r s2 ⟨e, g⟩ => ?_⟩
      subst e
      exact fin s2 g
end

/-! ### sorted(x, key=number_of), of messages -/
/-- what an item of a tuple of three is, asked of a def -/
def spItem (i : Nat) : Sp := fun vs H Q _ => ∃ a x y z, vs = [.ref a] ∧ H a = some (.tup [x, y, z]) ∧ Q ([x, y, z].getD i .non) H
def CollV (K : PySem.W.Frag) (x : V) (H : Hp) (xs : List V) : Prop :=
  (∃ a, x = .ref a ∧ SqL K H a xs) ∨ ∃ p d kvs, x = .ref p ∧ H p = some (ValsO p d) ∧ H d = some (.dK kvs) ∧ xs = kvs.map (·.2)
theorem CollV.coll {X : Cx} {x : V} {H : Hp} {xs : List V} (h : CollV X.K x H xs) : Coll X x H xs := by
  rcases h with ⟨a, rfl, h⟩ | ⟨p, d, kvs, rfl, hp, hd, rfl⟩
  · exact coll_list h
  · exact coll_vals hp hd
theorem Vals.back : ∀ {xs : List V} {vs : List Value} {i : Nat} {v : Value}, Vals xs vs → vs[i]? = some v → ∃ x, xs[i]? = some x ∧ RelV x v
  | _, _, _, _, .nil, e => by simp at e
  | _, _, 0, _, .cons r _, e => by simp at e; subst e; exact ⟨_, rfl, r⟩
  | _, _, i + 1, v, .cons _ t, e => by
    obtain ⟨u, h1, h2⟩ := Vals.back (i := i) (v := v) t (by simpa using e)
    exact ⟨u, by simpa using h1, h2⟩
section
variable {X : Cx} {e : Expr} {te : TE} {p p2 kpos pos : Pos} {x : Str} {ps : List Str}
end
end L2

namespace L2
open PySem PySem.Spec PyProof.Rows PySem.W
/-! ### sorted(x) of messages that rise already -/
section
variable {X : Cx} {pins : List (Addr × Obj)} {σ : St} {H : Hp} {s : Shared} {A : Around} {E : Value → Shared → Prop} {a : Addr} {vs : List Value} {P : PySem.Fin → Shared → Prop}
end
end L2

/-! Messages, tables and gaps, by themselves. -/
namespace L2
open PySem
/-! ### messages, by themselves -/
structure Msg where
  n : Int
  t : Str
  x : Str
deriving DecidableEq
/-- l rises by numbers -/
def Rise (l : List Msg) : Prop := l.Pairwise fun p q => p.n < q.n
theorem Rise.nil : Rise [] := List.Pairwise.nil
theorem rise_ext : ∀ {l r : List Msg}, Rise l → Rise r → (∀ m, m ∈ l ↔ m ∈ r) → l = r
  | [], [], _, _, _ => rfl
  | [], b :: r, _, _, h => absurd ((h b).mpr List.mem_cons_self) List.not_mem_nil
  | a :: l, [], _, _, h => absurd ((h a).mp List.mem_cons_self) List.not_mem_nil
  | a :: l, b :: r, h1, h2, h => by
    obtain ⟨a1, a2⟩ := List.pairwise_cons.mp h1
    obtain ⟨b1, b2⟩ := List.pairwise_cons.mp h2
    have e : a = b := by
      rcases List.mem_cons.mp ((h a).mp List.mem_cons_self) with e | e
      · exact e
      · rcases List.mem_cons.mp ((h b).mpr List.mem_cons_self) with e' | e'
        · exact e'.symm
        · have := a1 b e'; have := b1 a e; omega
    subst e
    refine congrArg (a :: ·) (rise_ext a2 b2 fun m => ⟨fun hm => ?_, fun hm => ?_⟩)
    · rcases List.mem_cons.mp ((h m).mp (List.mem_cons_of_mem _ hm)) with e | e
      · subst e; have := a1 m hm; omega
      · exact e
    · rcases List.mem_cons.mp ((h m).mpr (List.mem_cons_of_mem _ hm)) with e | e
      · subst e; have := b1 m hm; omega
      · exact e
/-- m is the last of its topic in ms -/
def Top (ms : List Msg) (m : Msg) : Prop := m ∈ ms ∧ ∀ k ∈ ms, k.t = m.t → k.n ≤ m.n
def Lasts (ms ls : List Msg) : Prop := Rise ls ∧ ∀ m, m ∈ ls ↔ Top ms m
theorem Top.perm {ms ms' : List Msg} {m : Msg} (h : ms.Perm ms') : Top ms m ↔ Top ms' m :=
  ⟨fun ⟨a, b⟩ => ⟨h.mem_iff.mp a, fun k hk => b k (h.mem_iff.mpr hk)⟩, fun ⟨a, b⟩ => ⟨h.mem_iff.mpr a, fun k hk => b k (h.mem_iff.mp hk)⟩⟩
theorem Lasts.perm {ms ms' ls : List Msg} (h : ms.Perm ms') (l : Lasts ms ls) : Lasts ms' ls := ⟨l.1, fun m => (l.2 m).trans (Top.perm h)⟩
theorem Lasts.uniq {ms l r : List Msg} (h1 : Lasts ms l) (h2 : Lasts ms r) : l = r := rise_ext h1.1 h2.1 fun m => (h1.2 m).trans (h2.2 m).symm
/-- the numbers differ -/
def Diff (ms : List Msg) : Prop := (ms.map (·.n)).Nodup
theorem Rise.diff {l : List Msg} (h : Rise l) : Diff l := by
  unfold Diff List.Nodup
  rw [List.pairwise_map]
  exact h.imp fun hlt => Int.ne_of_lt hlt
theorem Diff.perm {l r : List Msg} (h : l.Perm r) (d : Diff l) : Diff r := (h.map _).nodup_iff.mp d
theorem Diff.eq : ∀ {ms : List Msg}, Diff ms → ∀ {a b : Msg}, a ∈ ms → b ∈ ms → a.n = b.n → a = b
  | [], _, a, b, ha, _, _ => absurd ha List.not_mem_nil
  | m :: ms, d, a, b, ha, hb, e => by
    unfold Diff at d
    rw [List.map_cons, List.nodup_cons] at d
    rcases List.mem_cons.mp ha with h1 | h1 <;> rcases List.mem_cons.mp hb with h2 | h2
    · rw [h1, h2]
    · exact absurd (List.mem_map.mpr ⟨b, h2, by rw [← e, h1]⟩) d.1
    · exact absurd (List.mem_map.mpr ⟨a, h1, by rw [e, h2]⟩) d.1
    · exact Diff.eq d.2 h1 h2 e
theorem Top.topic {ms : List Msg} (d : Diff ms) {a b : Msg} (ha : Top ms a) (hb : Top ms b) (e : a.t = b.t) : a = b :=
  Diff.eq d ha.1 hb.1 (Int.le_antisymm (hb.2 a ha.1 e) (ha.2 b hb.1 e.symm))
/-! ### tables from topics on -/
section
variable {α β : Type}
def putD (D : List (Str × α)) (t : Str) (d : α) : List (Str × α) := if D.any (fun p => decide (p.1 = t)) = true then D.map fun p => if p.1 = t then (p.1, d) else p else D ++ [(t, d)]
theorem len_putD (D : List (Str × α)) (t : Str) (d : α) : (putD D t d).length ≤ D.length + 1 := by
  unfold putD
  split
  · rw [List.length_map]; omega
  · rw [List.length_append]; exact Nat.le_refl _
/-- all put, one behind the other -/
def puts (D : List (Str × α)) (l : List (Str × α)) : List (Str × α) := l.foldl (fun D p => putD D p.1 p.2) D
theorem puts_snoc (D l : List (Str × α)) (p : Str × α) : puts D (l ++ [p]) = putD (puts D l) p.1 p.2 := by unfold puts; rw [List.foldl_append]; rfl
theorem len_puts : ∀ (l D : List (Str × α)), (puts D l).length ≤ D.length + l.length
  | [], D => by show D.length ≤ _; omega
  | p :: l, D => by
    have h1 := len_puts l (putD D p.1 p.2)
    have h2 := len_putD D p.1 p.2
    show (puts (putD D p.1 p.2) l).length ≤ _
    rw [List.length_cons]; omega
end
/-- the newest of each topic -/
def kM (m : Msg) : Str × Msg := (m.t, m)
def newest (ms : List Msg) : List (Str × Msg) := puts [] (ms.map kM)
theorem newest_snoc (ms : List Msg) (m : Msg) : newest (ms ++ [m]) = putD (newest ms) m.t m := by unfold newest; rw [List.map_append, List.map_singleton, puts_snoc]; rfl
theorem newest_len (ms : List Msg) : (newest ms).length ≤ ms.length := by
  have := len_puts (ms.map kM) []
  rw [List.length_map] at this
  simpa [newest] using this
/-! ### gaps -/
end L2

namespace L2
open PySem PySem.Spec PyProof.Rows PySem.W
/-! ### sorted(x) of messages that rise already -/
section
variable {X : Cx}
/-- d.values(), by its rule -/
theorem k_bm0 (K : PySem.W.Frag) {o : Expr} {to : TE} {name : Str} {apos cpos : Pos} {T id : String} {r : V → List V → Hp → VK → Prop} (pa : PlainAttrs T) (slot : Slot T name id) (hty : typeOf (.builtin id) = pure (.type "method_descriptor")) (hm : MtR X id r) (ho : PE X o to) (h : X.K = K := by rfl)
    (hbase : attributeBase o name X.env (eval o X.env) = eval o X.env := by rfl) (hline : (apos.endLine == cpos.line) = true := by rfl) : PE X (.Call (.Attribute o name apos) [] [] cpos) (tBM0 K T r to) := h ▸ pe_bm0 pa slot hty hm ho hbase hline
end
/-! ### == of tables of texts -/
section
variable {X : Cx}
end
/-! ### messages in the heap -/
def mD (m : Msg) : PyData := .tuple [.int m.n, .str m.t, .str m.x]
def mT (m : Msg) : HO := .tup [.int m.n, .str m.t, .str m.x]
def mOk (m : Msg) : Prop := PyData.strOk m.t = true ∧ PyData.strOk m.x = true
theorem has_msg {H : Hp} {v : V} {m : Msg} (h : Has H v (mD m)) : ∃ c, v = .ref c ∧ H c = some (mT m) := by
  unfold mD Has at h
  obtain ⟨a, xs, rfl, h1, h2⟩ := h
  unfold HasL at h2
  obtain ⟨x1, r1, rfl, e1, h2⟩ := h2
  unfold HasL at h2
  obtain ⟨x2, r2, rfl, e2, h2⟩ := h2
  unfold HasL at h2
  obtain ⟨x3, r3, rfl, e3, h2⟩ := h2
  unfold HasL at h2
  subst h2
  unfold Has at e1 e2 e3
  subst e1 e2 e3
  exact ⟨a, rfl, h1⟩
theorem msg_has {H : Hp} {c : Addr} {m : Msg} (h : H c = some (mT m)) : Has H (.ref c) (mD m) := has_tup h (hasL_cons (has_int _) (hasL_cons (has_str _) (hasL_cons (has_str _) hasL_nil)))
/-- the list xs holds the messages ms -/
def Ms (H : Hp) (xs : List V) (ms : List Msg) : Prop := HasL H xs (ms.map mD)
theorem Ms.same {H H' : Hp} {xs : List V} {ms : List Msg} (h : Ms H xs ms) (e : Same H H') : Ms H' xs ms := HasL.same e h
theorem Ms.nil {H : Hp} : Ms H [] [] := hasL_nil
theorem Ms.len {H : Hp} {xs : List V} {ms : List Msg} (h : Ms H xs ms) : xs.length = ms.length := by have := HasL.length h; rw [List.length_map] at this; exact this
theorem Ms.append {H : Hp} {xs ys : List V} {ms ns : List Msg} (h : Ms H xs ms) (h' : Ms H ys ns) : Ms H (xs ++ ys) (ms ++ ns) := by unfold Ms; rw [List.map_append]; exact HasL.append h h'
theorem Ms.one {H : Hp} {c : Addr} {m : Msg} (h : H c = some (mT m)) : Ms H [.ref c] [m] := hasL_cons (msg_has h) hasL_nil
theorem Ms.get {H : Hp} {xs : List V} {ms : List Msg} (h : Ms H xs ms) {i : Nat} (hi : i < ms.length) : ∃ c, xs[i]? = some (.ref c) ∧ H c = some (mT ms[i]) := by
  obtain ⟨x, e, hx⟩ := HasL.get (i := i) (d := mD ms[i]) h (by rw [List.getElem?_map, List.getElem?_eq_getElem hi]; rfl)
  obtain ⟨c, rfl, hc⟩ := has_msg hx
  exact ⟨c, e, hc⟩
theorem Ms.cons_iff {H : Hp} {x : V} {xs : List V} {ms : List Msg} : Ms H (x :: xs) ms ↔ ∃ m r, ms = m :: r ∧ Has H x (mD m) ∧ Ms H xs r := by
  cases ms with
  | nil =>
    constructor
    · intro h; unfold Ms at h; rw [List.map_nil] at h; unfold HasL at h; exact absurd h (by simp)
    · rintro ⟨m, r, e, _⟩; exact absurd e (by simp)
  | cons m r =>
    constructor
    · intro h
      unfold Ms at h; rw [List.map_cons] at h; unfold HasL at h
      obtain ⟨x', r', e, h1, h2⟩ := h
      cases e
      exact ⟨m, r, rfl, h1, h2⟩
    · rintro ⟨m', r', e, h1, h2⟩
      cases e
      exact hasL_cons h1 h2
theorem Ms.head {H : Hp} {x : V} {xs : List V} {m : Msg} {r : List Msg} (h : Ms H (x :: xs) (m :: r)) : Has H x (mD m) ∧ Ms H xs r := by
  obtain ⟨m', r', e, h1, h2⟩ := Ms.cons_iff.mp h
  cases e
  exact ⟨h1, h2⟩
theorem Ms.take {H : Hp} : ∀ {xs : List V} {ms : List Msg} (n : Nat), Ms H xs ms → Ms H (xs.take n) (ms.take n)
  | [], [], n, h => by simpa using Ms.nil
  | [], m :: r, n, h => by have := h.len; simp at this
  | x :: xs, [], n, h => by have := h.len; simp at this
  | x :: xs, m :: r, 0, h => by simpa using Ms.nil
  | x :: xs, m :: r, n + 1, h => hasL_cons h.head.1 (Ms.take n h.head.2)
theorem Ms.drop {H : Hp} : ∀ {xs : List V} {ms : List Msg} (n : Nat), Ms H xs ms → Ms H (xs.drop n) (ms.drop n)
  | [], [], n, h => by simpa using Ms.nil
  | [], m :: r, n, h => by have := h.len; simp at this
  | x :: xs, [], n, h => by have := h.len; simp at this
  | x :: xs, m :: r, 0, h => h
  | x :: xs, m :: r, n + 1, h => Ms.drop n h.head.2
theorem lay_ms : ∀ {ms : List Msg}, (∀ m ∈ ms, mOk m) → PyData.canLayAll0 (ms.map mD) = true
  | [], _ => by simp [PyData.canLayAll0]
  | m :: r, h => by
    obtain ⟨h1, h2⟩ := h m List.mem_cons_self
    simp [PyData.canLayAll0, PyData.canLay0, mD, h1, h2, lay_ms fun k hk => h k (List.mem_cons_of_mem _ hk)]
theorem depth_ms : ∀ ms : List Msg, PyData.depthAll (ms.map mD) ≤ 3
  | [] => by simp [PyData.depthAll]
  | m :: r => by
    have := depth_ms r
    simp only [List.map_cons, PyData.depthAll, PyData.depth, mD]
    omega
theorem shaped_ms {ms : List Msg} (h : ∀ m ∈ ms, mOk m) : SeqAt.shaped (.list (ms.map mD)) = true := by
  have h1 := depth_ms ms
  have h2 : PyData.depth (.list (ms.map mD)) ≤ 64 := by simp only [PyData.depth]; omega
  show (PyData.canLay0 (.list (ms.map mD)) && decide (PyData.depth (.list (ms.map mD)) ≤ 64)) = true
  rw [Bool.and_eq_true]
  exact ⟨by simp only [PyData.canLay0]; exact lay_ms h, decide_eq_true h2⟩
theorem eqv_ms {ms : List Msg} (h : ∀ m ∈ ms, mOk m) : PyData.eqv (.list (ms.map mD)) (.list (ms.map mD)) = true :=
  SeqAt.eqv_refl _ (by simp only [PyData.canLay0]; exact lay_ms h)
/-- two lists of the same messages, compared -/
theorem ne_ms {H : Hp} {a b : Addr} {xs ys : List V} {ms : List Msg} {Q : VK} (ha : H a = some (.lst xs)) (hx : Ms H xs ms) (hb : H b = some (.lst ys)) (hy : Ms H ys ms) (ok : ∀ m ∈ ms, mOk m) (q : Q (.bl false) H) : rNeD (.ref a) (.ref b) H Q := by
  refine ⟨_, _, has_lst ha hx, has_lst hb hy, shaped_ms ok, shaped_ms ok, ?_⟩
  rw [eqv_ms ok]; exact q
/-! ### a table from topics to messages -/
inductive DM (H : Hp) : List (Key × V) → List (Str × Msg) → Prop
  | nil : DM H [] []
  | cons {t : Str} {v : V} {m : Msg} {r : List (Key × V)} {D : List (Str × Msg)} : Has H v (mD m) → DM H r D → DM H ((Sum.inr t, v) :: r) ((t, m) :: D)
theorem DM.same {H H' : Hp} (e : Same H H') : ∀ {kvs : List (Key × V)} {D : List (Str × Msg)}, DM H kvs D → DM H' kvs D
  | _, _, .nil => .nil
  | _, _, .cons h t => .cons (h.same e) (DM.same e t)
theorem DM.len {H : Hp} : ∀ {kvs : List (Key × V)} {D : List (Str × Msg)}, DM H kvs D → kvs.length = D.length
  | _, _, .nil => rfl
  | _, _, .cons _ t => by rw [List.length_cons, List.length_cons, DM.len t]
theorem DM.ms {H : Hp} : ∀ {kvs : List (Key × V)} {D : List (Str × Msg)}, DM H kvs D → Ms H (kvs.map (·.2)) (D.map (·.2))
  | _, _, .nil => Ms.nil
  | _, _, .cons h t => hasL_cons h (DM.ms t)
theorem DM.any {H : Hp} (t : Str) : ∀ {kvs : List (Key × V)} {D : List (Str × Msg)}, DM H kvs D → (kvs.any fun kv => decide (kv.1 = Sum.inr t)) = D.any fun p => decide (p.1 = t)
  | _, _, .nil => rfl
  | _, _, .cons (t := t') h r => by
    rw [List.any_cons, List.any_cons, DM.any t r]
    congr 1
    exact decide_eq_decide.mpr ⟨fun z => Sum.inr.inj z, fun z => congrArg Sum.inr z⟩
theorem DM.repl {H : Hp} (t : Str) {v : V} {m : Msg} (h : Has H v (mD m)) : ∀ {kvs : List (Key × V)} {D : List (Str × Msg)}, DM H kvs D → DM H (kvs.map fun kv => if kv.1 = Sum.inr t then (kv.1, v) else kv) (D.map fun p => if p.1 = t then (p.1, m) else p)
  | _, _, .nil => .nil
  | _, _, .cons (t := t') h' r => by
    rw [List.map_cons, List.map_cons]
    by_cases e : t' = t
    · rw [if_pos (by rw [e]), if_pos e]; exact .cons h (DM.repl t h r)
    · rw [if_neg (fun z => e (by injection z)), if_neg e]; exact .cons h' (DM.repl t h r)
theorem DM.snoc {H : Hp} (t : Str) {v : V} {m : Msg} (h : Has H v (mD m)) : ∀ {kvs : List (Key × V)} {D : List (Str × Msg)}, DM H kvs D → DM H (kvs ++ [(Sum.inr t, v)]) (D ++ [(t, m)])
  | _, _, .nil => .cons h .nil
  | _, _, .cons h' r => .cons h' (DM.snoc t h r)
theorem DM.put {H : Hp} (t : Str) {v : V} {m : Msg} (h : Has H v (mD m)) {kvs : List (Key × V)} {D : List (Str × Msg)} (d : DM H kvs D) : DM H (putK kvs (Sum.inr t) v) (putD D t m) := by
  unfold putK putD
  rw [d.any t]
  split
  · exact d.repl t h
  · exact d.snoc t h
/-! ### sorted by numbers -/
end L2

namespace L2
open PySem PySem.Spec PyProof.Rows PySem.W
/-- what was not there may be changed -/
theorem Same.put {H H' : Hp} (e : Same H H') {p : Addr} {o : HO} (h : H p = none) : Same H (upd H' p o) := fun b u hb => by
  rw [upd_ne (fun z => by rw [z, h] at hb; cases hb)]; exact e b u hb
theorem flat_strs : ∀ l : List Str, (l.map V.str).all flatV = true
  | [] => rfl
  | _ :: l => by rw [List.map_cons, List.all_cons, flat_strs l]; rfl
theorem in_strs (t : Str) : ∀ l : List Str, inV (.str t) (l.map V.str) = decide (t ∈ l)
  | [] => rfl
  | x :: l => by
    unfold inV
    rw [List.map_cons, List.any_cons]
    have ih := in_strs t l
    unfold inV at ih
    rw [ih]
    have e : eqV (.str x) (.str t) = decide (t = x) := by
      show (x == t) = _
      by_cases h : x = t
      · subst h; simp
      · rw [decide_eq_false (fun z => h z.symm)]; simpa using h
    rw [e]
    by_cases h1 : t = x <;> by_cases h2 : t ∈ l <;> simp [h1, h2]
theorem flt_succ {α : Type} {ms : List α} {i : Nat} (hi : i < ms.length) {b : α → Bool} : (ms.take (i + 1)).filter b = (ms.take i).filter b ++ if b ms[i] = true then [ms[i]] else [] := by
  rw [List.take_add_one, List.getElem?_eq_getElem hi, List.filter_append]
  show _ ++ List.filter b [ms[i]] = _
  rw [List.filter_cons]; rfl
/-! ### the promises of the program's message functions -/
/-- topics: None, or a list of texts -/
def TopV (K : PySem.W.Frag) (H : Hp) (tv : V) (ts : Option (List Str)) : Prop := (tv = .non ∧ ts = none) ∨ ∃ b l, tv = .ref b ∧ SqL K H b (l.map V.str) ∧ ts = some l
theorem TopV.same {K : PySem.W.Frag} {H H' : Hp} {tv : V} {ts : Option (List Str)} (h : TopV K H tv ts) (e : Same H H') : TopV K H' tv ts := by
  rcases h with h | ⟨b, l, h1, h2, h3⟩
  · exact .inl h
  · exact .inr ⟨b, l, h1, e.seq h2, h3⟩
def ofT : Option (List Str) → List Msg → List Msg
  | none, ms => ms
  | some l, ms => ms.filter fun m => decide (m.t ∈ l)
def spOfT (K : PySem.W.Frag) : Sp := fun vs H Q _ => ∃ a xs ms tv ts, vs = [.ref a, tv] ∧ H a = some (.lst xs) ∧ Ms H xs ms ∧ ms.length < 64 ∧ TopV K H tv ts ∧
  ∀ p ys H', Same H H' → H p = none → H' p = some (.lst ys) → Ms H' ys (ofT ts ms) → Q (.ref p) H'
/-! ### data without lists stands while a list is written -/
mutual
def noLst : PyData → Bool
  | .list _ => false
  | .dict _ => false
  | .tuple ds => noLstA ds
  | _ => true
def noLstA : List PyData → Bool
  | [] => true
  | d :: ds => noLst d && noLstA ds
end
theorem noLst_ms : ∀ ms : List Msg, noLstA (ms.map mD) = true
  | [] => by simp [noLstA]
  | m :: r => by simp [noLstA, noLst, mD, noLst_ms r]
theorem HasL.split {H : Hp} {e : PyData} : ∀ {xs : List V} {ds : List PyData}, HasL H xs (ds ++ [e]) → ∃ ys y, xs = ys ++ [y] ∧ HasL H ys ds ∧ Has H y e
  | xs, [], h => by
    rw [List.nil_append] at h
    unfold HasL at h
    obtain ⟨x, r, rfl, h1, h2⟩ := h
    unfold HasL at h2
    subst h2
    exact ⟨[], x, rfl, hasL_nil, h1⟩
  | xs, d :: ds, h => by
    rw [List.cons_append] at h
    unfold HasL at h
    obtain ⟨x, r, rfl, h1, h2⟩ := h
    obtain ⟨ys, y, rfl, h3, h4⟩ := HasL.split h2
    exact ⟨x :: ys, y, rfl, hasL_cons h1 h3, h4⟩
end L2
namespace L2
open PySem PySem.Spec PyProof.Rows PySem.W
/-! ### the law's own helpers -/
def Rows (ms : List Msg) : Prop := ∀ i (h : i < ms.length), ms[i].n = (i : Int) + 1
theorem Rows.nil : Rows [] := fun i h => absurd h (by simp)
theorem Rows.snoc {ms : List Msg} {m : Msg} (h : Rows ms) (e : m.n = (ms.length : Int) + 1) : Rows (ms ++ [m]) := by
  intro i hi
  rw [List.length_append, List.length_singleton] at hi
  by_cases hl : i < ms.length
  · rw [List.getElem_append_left hl]; exact h i hl
  · have e' : i = ms.length := by omega
    subst e'
    rw [List.getElem_append_right (Nat.le_refl _)]
    simpa using e
theorem Rows.rise {ms : List Msg} (h : Rows ms) : Rise ms := by
  refine List.pairwise_iff_getElem.mpr fun i j hi hj hij => ?_
  rw [h i hi, h j hj]; omega
/-! data without lists stands while a table is written -/
end L2

namespace L2
open PySem PySem.Spec PyProof.Rows PySem.W
/-! ### methods and classes, by their promises -/
structure CalleeM (P : Program) (w : World) (K : PySem.W.Frag) (mg : Str → Option Value) (base : Heap) (k : Nat) (C : Addr) (m : Str) (ps : List Str) (sp : Sp) : Prop where
  ex : ∃ f fd, FnOk P w K mg base CX0 k f fd ps sp ∧ Meth K C m f ∧ Binds K fd ps []
structure CalleeI (P : Program) (w : World) (K : PySem.W.Frag) (mg : Str → Option Value) (base : Heap) (k : Nat) (C : Addr) (ps : List Str) (sp : Sp) : Prop where
  ex : ∃ f fd, FnOk P w K mg base CX0 k f fd ps sp ∧ Mk K C f ∧ Binds K fd ps []
section
variable {X : Cx} {k : Nat} {C : Addr} {m x : Str} {ps : List Str} {sp : Sp} {o e : Expr} {es : List Expr} {ta tv : TE} {t : TA} {p apos pos pos' : Pos}
theorem as_meth {pl : Sem Bool} (M : CalleeM X.prog X.w X.K X.mg X.base k C m ps sp) (c : Cls X.K C) (hr : Room k X.A) (he : PE X o ta) (ha : PAt X e es t)
    (ht : eval (.Call (.Attribute o m apos) (e :: es) [] pos) X.env = (do
      let ov ← eval o X.env
      standAt apos.atName
      let (f, first) ← holding [ov] (getMethod ov m pl)
      callWith pos f first (backTo pos (starEach (e :: es) X.env)) (backToKw pos (keywordEach [] X.env))) := by rfl) :
    PE X (.Call (.Attribute o m apos) (e :: es) [] pos) (tMeth C m sp [] E0 ta t) := by
  obtain ⟨f, fd, F, hm, hb⟩ := M.ex
  exact pe_meth (pl := pl) he c hm F hr hb .nil pass0 ha.all.pa (ha.all.he ha.tl) (by rw [ha.tl]; exact back_any _ _ _) ht
theorem as_meth0 {pl : Sem Bool} (M : CalleeM X.prog X.w X.K X.mg X.base k C m ps sp) (c : Cls X.K C) (hr : Room k X.A) (he : PE X o ta)
    (ht : eval (.Call (.Attribute o m apos) [] [] pos) X.env = (do
      let ov ← eval o X.env
      standAt apos.atName
      let (f, first) ← holding [ov] (getMethod ov m pl)
      callWith pos f first (backTo pos (starEach [] X.env)) (backToKw pos (keywordEach [] X.env))) := by rfl) :
    PE X (.Call (.Attribute o m apos) [] [] pos) (tMeth C m sp [] E0 ta tNil) := by
  obtain ⟨f, fd, F, hm, hb⟩ := M.ex
  exact pe_meth0 (pl := pl) he c hm F hr hb .nil pass0 ht
theorem as_make (M : CalleeI X.prog X.w X.K X.mg X.base k C ps sp) (hr : Room (k + 1) X.A) (hm : X.mg x = some (.ref C)) (ha : PAt X e es t) (hg : Gl X x := by rfl) (hdb : (x == ("__debug__" : Str)) = false := by decide) :
    PE X (.Call (.Name x p) (e :: es) [] pos) (tMake C sp [] E0 t) := by
  obtain ⟨f, fd, F, hM, hb⟩ := M.ex
  exact pe_make hM F hr hg hm hb .nil pass0 ha.all.pa hdb (ha.all.he ha.tl) (by rw [ha.tl]; exact back_any _ _ _)
theorem as_make0 (M : CalleeI X.prog X.w X.K X.mg X.base k C ps sp) (hr : Room (k + 1) X.A) (hm : X.mg x = some (.ref C)) (hg : Gl X x := by rfl) (hdb : (x == ("__debug__" : Str)) = false := by decide) :
    PE X (.Call (.Name x p) [] [] pos) (tMake C sp [] E0 tNil) := by
  obtain ⟨f, fd, F, hM, hb⟩ := M.ex
  exact pe_make0 hM F hr hg hm hb .nil pass0 hdb
theorem k_sfld (K : PySem.W.Frag) {value : Expr} {f : Str} (ha : PE X o ta) (hv : PE X value tv) (hs : swapsWith value (some (.Attribute o f pos')) pos.line X.env = pure false) (h : X.K = K := by rfl) : PS X (.Assign [.Attribute o f pos'] value pos) (sFld K ta tv f) := h ▸ ps_fld ha hv hs
end
/-! ### attributes in a written order -/
theorem lk_hit {f : Str} {v : V} {r : List (Str × V)} : List.lookup f ((f, v) :: r) = some v := by simp [List.lookup]
theorem lk_miss {f g : Str} {v : V} {r : List (Str × V)} (h : ¬ f = g) : List.lookup f ((g, v) :: r) = List.lookup f r := by
  have hb : (f == g) = false := beq_eq_false_iff_ne.mpr h
  simp [List.lookup, hb]
theorem pf_hit {f : Str} {v x : V} {r : List (Str × V)} : putF f v ((f, x) :: r) = (f, v) :: r := by
  show (if f = f then _ else _) = _
  rw [if_pos rfl]
theorem pf_miss {f g : Str} {v x : V} {r : List (Str × V)} (h : ¬ g = f) : putF f v ((g, x) :: r) = (g, x) :: putF f v r := by
  show (if g = f then _ else _) = _
  rw [if_neg h]
/-! ### what tuples alone tell -/
def Tups (H H' : Hp) : Prop := ∀ c xs, H c = some (.tup xs) → H' c = some (.tup xs)
theorem Same.tups {H H' : Hp} (e : Same H H') : Tups H H' := fun c xs h => e _ _ h
theorem Tups.refl (H : Hp) : Tups H H := fun _ _ h => h
theorem Tups.trans {H H' H'' : Hp} (a : Tups H H') (b : Tups H' H'') : Tups H H'' := fun c xs h => b _ _ (a _ _ h)
theorem Tups.put {H H' : Hp} (a : Tups H H') {g : Addr} {u o : HO} (h : H' g = some u) (hn : ∀ xs, u ≠ .tup xs) : Tups H (upd H' g o) := fun c xs hc => by
  have h1 := a _ _ hc
  rw [upd_ne (fun e => by rw [e, h] at h1; exact hn xs (Option.some.inj h1))]; exact h1
theorem Tups.new {H H' : Hp} (a : Tups H H') {g : Addr} {o : HO} (h : H' g = none) : Tups H (upd H' g o) := fun c xs hc => by
  have h1 := a _ _ hc
  rw [upd_ne (ne_of_none h1 h)]; exact h1
mutual
theorem Has.tups {H H' : Hp} (e : Tups H H') : ∀ {v : V} {d : PyData}, noLst d = true → Has H v d → Has H' v d
  | v, .none, _, h => by unfold Has at h ⊢; exact h
  | v, .bool b, _, h => by unfold Has at h ⊢; exact h
  | v, .int i, _, h => by unfold Has at h ⊢; exact h
  | v, .str x, _, h => by unfold Has at h ⊢; exact h
  | v, .list ds, n, h => by unfold noLst at n; cases n
  | v, .tuple ds, n, h => by
    unfold noLst at n
    unfold Has at h ⊢
    obtain ⟨a, xs, h1, h2, h3⟩ := h
    exact ⟨a, xs, h1, e _ _ h2, HasL.tups e n h3⟩
  | v, .dict kvs, n, h => by unfold noLst at n; cases n
theorem HasL.tups {H H' : Hp} (e : Tups H H') : ∀ {xs : List V} {ds : List PyData}, noLstA ds = true → HasL H xs ds → HasL H' xs ds
  | xs, [], _, h => by unfold HasL at h ⊢; exact h
  | xs, d :: ds, n, h => by
    unfold noLstA at n
    rw [Bool.and_eq_true] at n
    unfold HasL at h ⊢
    obtain ⟨x, r, h1, h2, h3⟩ := h
    exact ⟨x, r, h1, Has.tups e n.1 h2, HasL.tups e n.2 h3⟩
end
theorem Ms.tups {H H' : Hp} {xs : List V} {ms : List Msg} (h : Ms H xs ms) (e : Tups H H') : Ms H' xs ms := HasL.tups e (noLst_ms ms) h
theorem noLst_m (m : Msg) : noLst (mD m) = true := by simp [noLst, noLstA, mD]
theorem DM.tups {H H' : Hp} (e : Tups H H') : ∀ {kvs : List (Key × V)} {D : List (Str × Msg)}, DM H kvs D → DM H' kvs D
  | _, _, .nil => .nil
  | _, _, .cons h t => .cons (h.tups e (noLst_m _)) (DM.tups e t)
/-- all stands but what is at ps -/
def But (ps : List Addr) (H H' : Hp) : Prop := ∀ c o, H c = some o → c ∉ ps → H' c = some o
/-! ### a teller -/
def lastK (k : Int) (all : List Msg) : List Msg := all.drop (all.length - k.toNat)
theorem lastK_len (k : Int) (all : List Msg) : (lastK k all).length = min all.length k.toNat := by unfold lastK; rw [List.length_drop]; omega
theorem lastK_small {k : Int} {all : List Msg} {m : Msg} (h : all.length + 1 ≤ k.toNat) : lastK k (all ++ [m]) = lastK k all ++ [m] := by
  unfold lastK
  rw [List.length_append, List.length_singleton, show all.length + 1 - k.toNat = 0 by omega, show all.length - k.toNat = 0 by omega]; rfl
theorem lastK_full {k : Int} {all : List Msg} {m : Msg} (h : k.toNat ≤ all.length) : lastK k (all ++ [m]) = (lastK k all ++ [m]).drop 1 := by
  unfold lastK
  rw [List.length_append, List.length_singleton]
  rw [← List.drop_append_of_le_length (by omega), List.drop_drop]
  congr 1
  omega
def tF (k r n : Int) (s d : Addr) : List (Str × V) := [("keep", .int k), ("turn", .int r), ("total", .int n), ("stored", .ref s), ("newest", .ref d)]
section
variable {k r n : Int} {s d : Addr}
theorem tF_keep : (tF k r n s d).lookup ("keep" : Str) = some (V.int k) := lk_hit
theorem tF_total : (tF k r n s d).lookup ("total" : Str) = some (V.int n) := (lk_miss (by decide +kernel)).trans ((lk_miss (by decide +kernel)).trans lk_hit)
theorem tF_stored : (tF k r n s d).lookup ("stored" : Str) = some (V.ref s) := (lk_miss (by decide +kernel)).trans ((lk_miss (by decide +kernel)).trans ((lk_miss (by decide +kernel)).trans lk_hit))
theorem tF_newest : (tF k r n s d).lookup ("newest" : Str) = some (V.ref d) := (lk_miss (by decide +kernel)).trans ((lk_miss (by decide +kernel)).trans ((lk_miss (by decide +kernel)).trans ((lk_miss (by decide +kernel)).trans lk_hit)))
theorem tF_no {f : Str} (h1 : ¬ f = "keep") (h2 : ¬ f = "turn") (h3 : ¬ f = "total") (h4 : ¬ f = "stored") (h5 : ¬ f = "newest") : (tF k r n s d).lookup f = none :=
  (lk_miss h1).trans ((lk_miss h2).trans ((lk_miss h3).trans ((lk_miss h4).trans (lk_miss h5))))
theorem tF_make : putF "newest" (.ref d) (putF "stored" (.ref s) (putF "total" (.int n) (putF "turn" (.int r) (putF "keep" (.int k) [])))) = tF k r n s d := by
  show putF "newest" (.ref d) (putF "stored" (.ref s) (putF "total" (.int n) (putF "turn" (.int r) [("keep", .int k)]))) = _
  rw [pf_miss (by decide +kernel)]
  show putF "newest" (.ref d) (putF "stored" (.ref s) (putF "total" (.int n) [("keep", .int k), ("turn", .int r)])) = _
  rw [pf_miss (by decide +kernel), pf_miss (by decide +kernel)]
  show putF "newest" (.ref d) (putF "stored" (.ref s) [("keep", .int k), ("turn", .int r), ("total", .int n)]) = _
  rw [pf_miss (by decide +kernel), pf_miss (by decide +kernel), pf_miss (by decide +kernel)]
  show putF "newest" (.ref d) [("keep", .int k), ("turn", .int r), ("total", .int n), ("stored", .ref s)] = _
  rw [pf_miss (by decide +kernel), pf_miss (by decide +kernel), pf_miss (by decide +kernel), pf_miss (by decide +kernel)]
  rfl
theorem tF_setTotal {n' : Int} : putF "total" (.int n') (tF k r n s d) = tF k r n' s d := by
  unfold tF
  rw [pf_miss (by decide +kernel), pf_miss (by decide +kernel), pf_hit]
end
/-- a teller stands at p: keep k, turn r, all that was told; its list at s, its table at d -/
structure TAt (C : Addr) (H : Hp) (p : Addr) (k r : Int) (all : List Msg) (s d : Addr) : Prop where
  ob : ∃ dx, H p = some (.ins C dx (tF k r (all.length : Int) s d))
  st : ∃ ys, H s = some (.lst ys) ∧ Ms H ys (lastK k all)
  nw : ∃ kvs, H d = some (.dK kvs) ∧ DM H kvs (newest all)
theorem TAt.same {C : Addr} {H H' : Hp} {p : Addr} {k r : Int} {all : List Msg} {s d : Addr} (h : TAt C H p k r all s d) (e : Same H H') : TAt C H' p k r all s d := by
  obtain ⟨⟨dx, h1⟩, ⟨ys, h2, h3⟩, ⟨kvs, h4, h5⟩⟩ := h
  exact ⟨⟨dx, e _ _ h1⟩, ⟨ys, e _ _ h2, h3.same e⟩, ⟨kvs, e _ _ h4, h5.same e⟩⟩
theorem TAt.but {C : Addr} {H H' : Hp} {p p' : Addr} {k r k' r' : Int} {all all' : List Msg} {s d s' d' : Addr} (h : TAt C H p k r all s d) (h' : TAt C H p' k' r' all' s' d') (hp : p ≠ p') (hs : s ≠ s') (hd : d ≠ d') (e : But [p', s', d'] H H') : TAt C H' p k r all s d := by
  obtain ⟨⟨dx, h1⟩, ⟨ys, h2, h3⟩, ⟨kvs, h4, h5⟩⟩ := h
  obtain ⟨⟨dx', g1⟩, ⟨ys', g2, g3⟩, ⟨kvs', g4, g5⟩⟩ := h'
  have tp : Tups H H' := fun c xs hc => e c _ hc (by
    have a1 := ne_of hc g1 (by intro z; cases z)
    have a2 := ne_of hc g2 (by intro z; cases z)
    have a3 := ne_of hc g4 (by intro z; cases z)
    simp [a1, a2, a3])
  refine ⟨⟨dx, e _ _ h1 ?_⟩, ⟨ys, e _ _ h2 ?_, h3.tups tp⟩, ⟨kvs, e _ _ h4 ?_, h5.tups tp⟩⟩
  · have a2 := ne_of h1 g2 (by intro z; cases z)
    have a3 := ne_of h1 g4 (by intro z; cases z)
    simp [hp, a2, a3]
  · have a1 := ne_of h2 g1 (by intro z; cases z)
    have a3 := ne_of h2 g4 (by intro z; cases z)
    simp [a1, hs, a3]
  · have a1 := ne_of h4 g1 (by intro z; cases z)
    have a2 := ne_of h4 g2 (by intro z; cases z)
    simp [a1, a2, hd]
theorem TAt.tups {C : Addr} {H H' : Hp} {p : Addr} {k r : Int} {all : List Msg} {s d : Addr} (h : TAt C H p k r all s d) (e : But [p, s, d] H H') : Tups H H' := by
  obtain ⟨⟨dx, g1⟩, ⟨ys, g2, g3⟩, ⟨kvs, g4, g5⟩⟩ := h
  exact fun c xs hc => e c _ hc (by
    have a1 := ne_of hc g1 (by intro z; cases z)
    have a2 := ne_of hc g2 (by intro z; cases z)
    have a3 := ne_of hc g4 (by intro z; cases z)
    simp [a1, a2, a3])
structure TellerC (K : PySem.W.Frag) (mg : Str → Option Value) (C : Addr) : Prop where
  cl_Teller : Cls K C
  mg_Teller : mg "Teller" = some (.ref C)
  n_keep : NoAttr K C "keep"
  n_turn : NoAttr K C "turn"
  n_total : NoAttr K C "total"
  n_stored : NoAttr K C "stored"
  n_newest : NoAttr K C "newest"
/-! the promises of a teller's methods -/
def spInitT (C : Addr) : Sp := fun vs H Q _ => ∃ (p dx : Addr) (k : Int), vs = [.ref p, .int k] ∧ H p = some (.ins C dx []) ∧
  ∀ s d H', H s = none → H d = none → TAt C H' p k 0 [] s d → (∀ b o, H b = some o → b ≠ p → H' b = some o) → Q .non H'
def spTell (C : Addr) : Sp := fun vs H Q _ => ∃ p t x k r all s d, vs = [.ref p, .str t, .str x] ∧ TAt C H p k r all s d ∧ all.length < 60 ∧ 0 ≤ k ∧
  ∀ H', TAt C H' p k r (all ++ [⟨(all.length : Int) + 1, t, x⟩]) s d → But [p, s, d] H H' → Q (.int ((all.length : Int) + 1)) H'
def spTold (C : Addr) : Sp := fun vs H Q _ => ∃ p k r all s d, vs = [.ref p] ∧ TAt C H p k r all s d ∧ Q (.int (all.length : Int)) H
def spOldest (C : Addr) : Sp := fun vs H Q _ => ∃ p k r all s d, vs = [.ref p] ∧ TAt C H p k r all s d ∧ Q (.int ((all.length : Int) - ((lastK k all).length : Int) + 1)) H
def spGreater : Sp := fun vs H Q _ => ∃ a xs ms n, vs = [.ref a, .int n] ∧ H a = some (.lst xs) ∧ Ms H xs ms ∧ ms.length < 64 ∧ ∀ p ys H', Same H H' → H p = none → H' p = some (.lst ys) → Ms H' ys (ms.filter fun m => decide (m.n > n)) → Q (.ref p) H'
def missedF (k n : Int) (all : List Msg) : Int := if (all.length : Int) - ((lastK k all).length : Int) + 1 - 1 - n > 0 then (all.length : Int) - ((lastK k all).length : Int) + 1 - 1 - n else 0
def spBehind (K : PySem.W.Frag) (C : Addr) : Sp := fun vs H Q _ => ∃ p n tv ts k r all s d, vs = [.ref p, .int n, tv] ∧ TAt C H p k r all s d ∧ all.length < 64 ∧ 0 ≤ n ∧ n ≤ (all.length : Int) ∧ TopV K H tv ts ∧
  ∀ q l ys H', Same H H' → H q = none → H l = none → H' q = some (.tup [.ref l, .int (missedF k n all)]) → H' l = some (.lst ys) → Ms H' ys (ofT ts ((lastK k all).filter fun m => decide (m.n > n))) → Q (.ref q) H'
theorem putF_len (f : Str) (v : V) : ∀ fs : List (Str × V), (putF f v fs).length ≤ fs.length + 1
  | [] => Nat.le_refl _
  | (g, x) :: r => by
    show (if g = f then (g, v) :: r else (g, x) :: putF f v r).length ≤ _
    have := putF_len f v r
    split
    · simp
    · simp only [List.length_cons]; omega
theorem But.same {ps : List Addr} {H0 H H' : Hp} (e : Same H0 H) (b : But ps H H') (hn : ∀ p ∈ ps, H0 p = none) : Same H0 H' := fun c o h => b c o (e _ _ h) fun hc => by rw [hn c hc] at h; cases h
/-! ### what behind tells -/
/-! ### rows behind a number -/
end L2

namespace L2
open PySem PySem.Spec PyProof.Rows PySem.W
/-! ### an exception in flight: B holds all that stood ahead of it, but the frames -/
section
variable {X : Cx} {pins : List (Addr × Obj)} {σ : St} {H H' : Hp} {s : Shared}
end
/-! ### raise C(e) in a def's own body -/
section
variable {P : Program} {w : World} {K : PySem.W.Frag} {mg : Str → Option Value} {base : Heap} {N : List Str} {qual : Str} {scope : Scope} {f : Addr} {cd : Value} {A : Around} {outer : List Env} {s : Shared} {H : Hp} {E : XK}
end
end L2

namespace L2
open PySem PySem.Spec PyProof.Rows PySem.W
/-! ### a def that may raise -/
section
variable {P : Program} {w : World} {K : PySem.W.Frag} {mg : Str → Option Value} {base : Heap}
end
section
variable {X : Cx} {k : Nat} {C : Addr} {m x : Str} {ps : List Str} {sp : Sp} {o e : Expr} {es : List Expr} {ta tv : TE} {t : TA} {p apos pos pos' : Pos} {E : XK}
end
/-! ### contexts within try -/
abbrev Cx.held (X : Cx) (e : Value) : Cx := { X with A := X.A.mark (some e), calm := false, xe := fun _ _ => False }
section
variable {X : Cx} {pins : List (Addr × Obj)} {σ : St} {H H' : Hp} {s : Shared} {xe : Value → Shared → Prop} {e : Value}
theorem Inv.held (I : Inv X pins σ H s) : Inv (X.held e) pins σ H s :=
  ⟨⟨I.ok.mod, I.ok.kind, I.ok.glob, I.ok.blt, I.ok.above, I.ok.inj, I.ok.has, I.ok.cab, (fun z => by cases z), I.ok.frames, I.ok.stk, I.ok.exf, I.ok.bs, I.ok.bsz, I.ok.noex, I.ok.exfs, I.ok.funs, I.ok.frf⟩, I.os, I.bare, I.base, I.loc, I.cell, I.free, I.freeC, I.pin, I.hok, I.len⟩
/-- a name has gone: nothing is known of the names -/
theorem Inv.gone {h' : Heap} {m' : Str → Option Value} {t' : Nat} (I : Inv X pins σ H s) (hn' : h'.Ns X.env.locals m') (hs : Heap.SameBut X.env.locals s.heap h') : Inv X pins (List.replicate X.N.length none) H { s with heap := h', toks := t' } := by
  have ne : ∀ b o, X.s₀.heap.get? b = some o → b ≠ X.env.locals := fun b o e => Nat.ne_of_lt (Nat.lt_of_lt_of_le (Heap.lt_size e) I.ok.above)
  refine ⟨I.ok, I.os, I.bare, ⟨fun b o e n hb hx => (hs.2 b (ne b o e)).trans (I.base.keep b o e n hb hx), fun b o e n hb hx => ?_, I.base.free, fun b o e hx => ?_, I.base.tups, I.base.frzs, I.base.tbls⟩, ⟨_, hn', fun j y v' e1 e2 e3 => ?_⟩, fun y c e => ?_, I.free, I.freeC, fun p hp => ?_, fun b u e => ?_, by simp⟩
  · obtain ⟨sl, e1⟩ := I.base.slot b o e n hb hx
    exact ⟨sl, (hs.2 b (ne b o e)).trans e1⟩
  · obtain ⟨o', e1⟩ := I.base.there b o e hx
    exact ⟨o', (hs.2 b (ne b o e)).trans e1⟩
  · rw [List.getElem?_replicate] at e2
    split at e2 <;> cases e2
  · obtain ⟨w', z⟩ := I.cell y c e
    exact ⟨w', z.sameBut hs (I.cne y c e)⟩
  · obtain ⟨e, n, ne', nf, d⟩ := I.pin p hp
    exact ⟨(hs.2 p.1 ne').trans e, n, ne', nf, d⟩
  · refine (I.hok b u e).stay (fun c w' hc q => (hs.2 c ?_).trans q) (fun _ q => q) fun _ _ q => q
    rintro rfl
    have hfree := I.free
    rcases hc with rfl | hc
    · rw [hfree] at e; cases e
    · rw [hfree] at hc; cases hc
end
/-! ### try: .. except C as n: .. -/
section
variable {X : Cx} {body : List Stmt} {x n : Str} {b0 : Stmt} {suite : List Stmt} {np hpos pos : Pos} {tb ts : TS} {E : XK} {i : Nat} {C : Addr}
end
end L2

namespace L2
open PySem PySem.Spec PyProof.Rows PySem.W
/-! ### a def that is called within an except suite -/
structure RoomH (k : Nat) (A : Around) : Prop where
  dp : A.depth + 3 * k + 5 < recursionLimit
  un : A.units + 16 * k + 200 < cLine
theorem RoomH.mono {j k : Nat} {A : Around} (r : RoomH k A) (h : j ≤ k) : RoomH j A := ⟨by have := r.dp; omega, by have := r.un; omega⟩
theorem RoomH.deeper {k : Nat} {A : Around} (r : RoomH (k + 1) A) (env : Env) : RoomH k (A.deeper env) := ⟨by have := r.dp; show A.depth + 1 + 3 * k + 5 < _; omega, by have := r.un; show A.units + 3 + 16 * k + 200 < _; omega⟩
theorem RoomH.depth {k : Nat} {A : Around} (r : RoomH k A) : A.depth < recursionLimit := by have := r.dp; omega
theorem RoomH.units {k : Nat} {A : Around} (r : RoomH k A) : A.units + 64 < cLine := by have := r.un; omega
theorem RoomH.units0 {k : Nat} {A : Around} (r : RoomH k A) : A.units < cLine := by have := r.un; omega
theorem Room.h {k : Nat} {A : Around} (r : Room k A) (e : Value) : RoomH k (A.mark (some e)) := ⟨r.dp, r.un⟩
section
variable {P : Program} {w : World} {K : PySem.W.Frag} {mg : Str → Option Value} {base : Heap}
end
section
variable {X : Cx} {CX : CXT} {k : Nat} {f C : Addr} {fd : FuncData} {ps : List Str} {sp : Sp} {dvs : List V} {ds : List Value} {E : XK} {x m : Str} {p pos apos : Pos} {e o : Expr} {es : List Expr} {ta : TE} {t : TA}

end
end L2

namespace L2
open PySem PySem.Spec PySem.Calls PyProof.Rows PySem.W Builtin Builtin.ObjectAttr Builtin.Getset_descriptor
/-! ### isinstance of an exception of one's own -/
section
variable {prog : Program} {w : World} {A : Around} {E : Value → Shared → Prop} {h : Heap} {g : Array GenState} {d : Drawn} {t : Nat} {os : OsState} {K : PySem.W.Frag} {C a : Addr} {o : Obj}
end
section
variable {X : Cx}
/-! ### bs.count(True), bs.index(True) -/
end
end L2

namespace L2
open PySem PySem.Spec PyProof.Rows PySem.W
/-! ### x in xs, x not in xs, of data -/
theorem lay_of {d : PyData} (h : SeqAt.shaped d = true) : d.canLay0 = true := by
  unfold SeqAt.shaped at h
  exact (Bool.and_eq_true_iff.mp h).1
section
variable {X : Cx} {pins : List (Addr × Obj)} {σ : St} {H : Hp} {s : Shared}
end
theorem shaped_m {m : Msg} (h : mOk m) : SeqAt.shaped (mD m) = true := by
  obtain ⟨h1, h2⟩ := h
  have d : PyData.depth (mD m) ≤ 64 := by simp [mD, PyData.depth, PyData.depthAll]
  show (PyData.canLay0 (mD m) && decide (PyData.depth (mD m) ≤ 64)) = true
  rw [Bool.and_eq_true]
  exact ⟨by simp [mD, PyData.canLay0, PyData.canLayAll0, h1, h2], decide_eq_true d⟩
end L2
namespace L2
open PySem PySem.Spec PyProof.Rows PySem.W
/-! ### enumerate(xs) -/
section
variable {X : Cx} {pins : List (Addr × Obj)} {σ : St} {H : Hp} {s : Shared}
end
end L2
namespace L2
open PySem PySem.Spec PyProof.Rows PySem.W
section
variable {X : Cx} {e : Expr} {te : TE} {elts : List Expr} {k : Nat} {tpos p pos : Pos}
end
end L2

namespace L2
open PySem PySem.Spec PyProof.Rows PySem.W
/-! ### a teller that refuses -/
def sBad (r : Int) (all : List Msg) (t n : Int) : Prop := t > r ∨ n < 0 ∨ (t = r ∧ n > (all.length : Int))
instance (r : Int) (all : List Msg) (t n : Int) : Decidable (sBad r all t n) := by unfold sBad; exact inferInstance
/-- two of the same data, compared -/
theorem ne_D {H : Hp} {x y : V} {d : PyData} {Q : VK} (hx : Has H x d) (hy : Has H y d) (s : SeqAt.shaped d = true) (q : Q (.bl false) H) : rNeD x y H Q := by
  refine ⟨_, _, hx, hy, s, s, ?_⟩
  rw [SeqAt.eqv_refl _ (lay_of s)]; exact q
end L2

namespace L2
open PySem PySem.Spec PyProof.Rows PySem.W
/-! ### steps: from a heap with the addresses ps of ours to one with ps' -/
structure Stp (ps : List Addr) (H : Hp) (ps' : List Addr) (H' : Hp) : Prop where
  but : But ps H H'
  tup : Tups H H'
  new : ∀ c ∈ ps', c ∈ ps ∨ H c = none
theorem Stp.free {ps ps' : List Addr} {H H' : Hp} (s : Stp ps H ps' H') {c : Addr} (h : H' c = none) (hc : c ∉ ps) : H c = none := by
  cases q : H c with
  | none => rfl
  | some o => rw [s.but c o q hc] at h; cases h
theorem Stp.free' {ps ps' : List Addr} {H H' : Hp} (s : Stp ps H ps' H') {c : Addr} (h : H' c = none) : c ∈ ps ∨ H c = none := by
  by_cases hc : c ∈ ps
  · exact .inl hc
  · exact .inr (s.free h hc)
theorem Stp.trans {ps ps' ps'' : List Addr} {H H' H'' : Hp} (s : Stp ps H ps' H') (t : Stp ps' H' ps'' H'') : Stp ps H ps'' H'' := by
  refine ⟨fun c o h hc => t.but c o (s.but c o h hc) fun hc' => ?_, s.tup.trans t.tup, fun c hc => ?_⟩
  · rcases s.new c hc' with z | z
    · exact hc z
    · rw [z] at h; cases h
  · rcases t.new c hc with z | z
    · exact s.new c z
    · exact s.free' z
theorem Stp.refl (ps : List Addr) (H : Hp) : Stp ps H ps H := ⟨fun _ _ h _ => h, Tups.refl H, fun _ h => .inl h⟩
theorem Same.step {H H' : Hp} (e : Same H H') (ps : List Addr) : Stp ps H ps H' := ⟨fun c o h _ => e c o h, e.tups, fun _ h => .inl h⟩
theorem Stp.weak {ps ps' qs qs' : List Addr} {H H' : Hp} (s : Stp ps H ps' H') (h : ∀ c ∈ ps, c ∈ qs) (h' : ∀ c ∈ qs', c ∈ ps' ∨ c ∈ qs) : Stp qs H qs' H' :=
  ⟨fun c o e hc => s.but c o e fun z => hc (h c z), s.tup, fun c hc => by
    rcases h' c hc with z | z
    · rcases s.new c z with y | y
      · exact .inl (h c y)
      · exact .inr y
    · exact .inl z⟩
theorem Stp.same {ps' : List Addr} {H H' : Hp} (s : Stp [] H ps' H') : Same H H' := fun c o h => s.but c o h List.not_mem_nil
theorem Stp.keep {ps ps' : List Addr} {H H' : Hp} (s : Stp ps H ps' H') {c : Addr} {o : HO} (h : H c = some o) (hc : c ∉ ps) : H' c = some o := s.but c o h hc
theorem Stp.out {ps ps' : List Addr} {H H' : Hp} (s : Stp ps H ps' H') {c : Addr} {o : HO} (h : H c = some o) (hc : c ∉ ps) : c ∉ ps' := fun z => by
  rcases s.new c z with y | y
  · exact hc y
  · rw [y] at h; cases h
theorem Stp.put {ps : List Addr} {H : Hp} {p : Addr} {u o : HO} (h : H p = some u) (hn : ∀ xs, u ≠ .tup xs) (hp : p ∈ ps) : Stp ps H ps (upd H p o) :=
  ⟨fun c o' e hc => by rw [upd_ne (fun z => hc (by rw [z]; exact hp))]; exact e, (Tups.refl H).put h hn, fun _ z => .inl z⟩
theorem Stp.make {ps : List Addr} {H : Hp} {p : Addr} {o : HO} (h : H p = none) : Stp ps H (p :: ps) (upd H p o) :=
  ⟨fun c o' e hc => by rw [upd_ne (ne_of_none e h)]; exact e, (Same.new h).tups, fun c z => by
    rcases List.mem_cons.mp z with rfl | z
    · exact .inr h
    · exact .inl z⟩
theorem Ms.step {ps ps' : List Addr} {H H' : Hp} {xs : List V} {ms : List Msg} (h : Ms H xs ms) (s : Stp ps H ps' H') : Ms H' xs ms := h.tups s.tup
theorem Stp.obj {H : Hp} {p dx : Addr} {o o' : HO} (np : H p = none) (nd : H dx = none) : Stp [] H [p] (upd (upd H dx o) p o') := by
  have e : Same H (upd (upd H dx o) p o') := fun b u h => by rw [upd_ne (ne_of_none h np), upd_ne (ne_of_none h nd)]; exact h
  exact ⟨fun c u h _ => e c u h, e.tups, fun c hc => by
    rw [List.mem_singleton] at hc
    rw [hc]; exact .inr np⟩
/-! ### a word between two statements -/
def tCut (t u : TS) : TS := fun D σ H => ∃ J : St → Hp → Prop, (∀ σ' H', J σ' H' → u D σ' H') ∧ t { D with nx := J } σ H
theorem pss_cut {X : Cx} {st : Stmt} {rest : List Stmt} {t u : TS} (h1 : PS X st t) (h2 : PSs X rest u) : PSs X (st :: rest) (tCut t u) := by
  intro pins s σ H D I h
  obtain ⟨J, hJ, h⟩ := h
  refine wpAny_execs_cons (thn (h1 pins s σ H { D with nx := J } I h) fun f s1 q => ?_)
  cases f with
  | next =>
    obtain ⟨σ', H', I', q⟩ := q
    exact h2 pins s1 σ' H' D I' (hJ _ _ q)
  | ret v => exact q
  | brk => exact q
  | cont => exact q
/-! ### lists of ints, compared -/
theorem hasL_ints {H : Hp} : ∀ ns : List Int, HasL H (ns.map V.int) (ns.map PyData.int)
  | [] => hasL_nil
  | n :: r => hasL_cons (has_int n) (hasL_ints r)
theorem lay_ints : ∀ ns : List Int, PyData.canLayAll0 (ns.map PyData.int) = true
  | [] => rfl
  | n :: r => by simp only [List.map_cons, PyData.canLayAll0, PyData.canLay0, lay_ints r, Bool.and_true]
theorem depth_ints : ∀ ns : List Int, PyData.depthAll (ns.map PyData.int) ≤ 3
  | [] => by simp [PyData.depthAll]
  | n :: r => by
    have := depth_ints r
    simp only [List.map_cons, PyData.depthAll, PyData.depth]; omega
theorem shaped_ints (ns : List Int) : SeqAt.shaped (.list (ns.map PyData.int)) = true := by
  have h1 := depth_ints ns
  have h2 : PyData.depth (.list (ns.map PyData.int)) ≤ 64 := by simp only [PyData.depth]; omega
  show (PyData.canLay0 (.list (ns.map PyData.int)) && decide (PyData.depth (.list (ns.map PyData.int)) ≤ 64)) = true
  rw [Bool.and_eq_true]
  exact ⟨by simp only [PyData.canLay0, lay_ints], decide_eq_true h2⟩
theorem eqv_ints (ns : List Int) : PyData.eqv (.list (ns.map PyData.int)) (.list (ns.map PyData.int)) = true :=
  SeqAt.eqv_refl _ (by simp only [PyData.canLay0, lay_ints])
theorem ne_ints {H : Hp} {a b : Addr} {ns : List Int} {Q : VK} (ha : H a = some (.lst (ns.map V.int))) (hb : H b = some (.lst (ns.map V.int))) (q : Q (.bl false) H) : rNeD (.ref a) (.ref b) H Q := by
  refine ⟨_, _, has_lst ha (hasL_ints ns), has_lst hb (hasL_ints ns), shaped_ints ns, shaped_ints ns, ?_⟩
  rw [eqv_ints]; exact q
/-! ### slices -/
theorem cut_from {xs : List V} {t : Int} (h0 : 0 ≤ t) : cutV xs (some t) none = xs.drop t.toNat := by
  obtain ⟨k, rfl⟩ : ∃ k : Nat, t = (k : Int) := ⟨t.toNat, by omega⟩
  unfold cutV
  rw [HT.sIx_nat, HT.sIx_none, Int.toNat_natCast]
  rw [List.take_of_length_le (by rw [List.length_drop]; exact Nat.le_refl _)]
  by_cases h : k ≤ xs.length
  · rw [Nat.min_eq_left h]
  · rw [Nat.min_eq_right (by omega), List.drop_of_length_le (Nat.le_refl _), List.drop_of_length_le (by omega)]
theorem cut_to {xs : List V} {t : Int} (h0 : 0 ≤ t) : cutV xs none (some t) = xs.take t.toNat := by
  obtain ⟨k, rfl⟩ : ∃ k : Nat, t = (k : Int) := ⟨t.toNat, by omega⟩
  unfold cutV
  rw [HT.sIx_nat, HT.sIx_none, Int.toNat_natCast, List.drop_zero, Nat.sub_zero]
  by_cases h : k ≤ xs.length
  · rw [Nat.min_eq_left h]
  · rw [Nat.min_eq_right (by omega), List.take_of_length_le (Nat.le_refl _), List.take_of_length_le (by omega)]
/-! ### comprehensions over messages -/
def PMap (H : Hp) (ms : List Msg) (f : Msg → V) : Nat → List V → Hp → Prop := fun i ys H2 => H2 = H ∧ ys = (ms.take i).map f
def PFlt (H : Hp) (ms : List Msg) (p : Msg → Bool) : Nat → List V → Hp → Prop := fun i ys H2 => H2 = H ∧ Ms H ys ((ms.take i).filter p)
section
variable {K : PySem.W.Frag} {a : Addr} {xs : List V} {ms : List Msg} {g : TG} {tc : TT} {te : TE} {τ : St} {H : Hp} {f : Msg → V} {p : Msg → Bool}
theorem PMap.zero : PMap H ms f 0 [] H := ⟨rfl, by simp⟩
theorem PFlt.zero : PFlt H ms p 0 [] H := ⟨rfl, Ms.nil⟩
theorem szl {n : Nat} (h : n < 1000) : n ≤ sizeLine := by rw [sizeLine_eq]; omega
theorem PMap.step (ha : H a = some (.lst xs)) (hm : Ms H xs ms)
    (hs : ∀ c m (R : VK) (N : Hp → Prop), m ∈ ms → H c = some (mT m) → R (f m) H → g (.ref c) τ H fun σ4 H4 => tc σ4 H4 fun b H5 => if b = true then te σ4 H5 R else N H5) :
    ∀ i ys H2, i < ms.length → PMap H ms f i ys H2 → (Itl K a).go i H2 ∧ ∀ x H3, (Itl K a).yld i H2 x H3 → g x τ H3 fun σ4 H4 => tc σ4 H4 fun b H5 => if b = true then te σ4 H5 fun y H6 => PMap H ms f (i + 1) (ys ++ [y]) H6 else PMap H ms f (i + 1) ys H5 := by
  rintro i ys H2 hi ⟨rfl, rfl⟩
  obtain ⟨c, ec, hc⟩ := hm.get hi
  refine ⟨⟨xs, .ref c, SqL.ofL ha, ec⟩, ?_⟩
  rintro x H3 ⟨rfl, hx⟩
  have hx' := hx xs (SqL.ofL ha)
  rw [ec] at hx'
  obtain rfl := Option.some.inj hx'
  refine hs c _ _ _ (List.getElem_mem hi) hc ⟨rfl, ?_⟩
  rw [List.take_add_one, List.getElem?_eq_getElem hi, List.map_append]; rfl
theorem PMap.done (ha : H a = some (.lst xs)) (hm : Ms H xs ms) {ys : List V} {H2 : Hp} (h : PMap H ms f ms.length ys H2) : (Itl K a).stop ms.length H2 ∧ H = H2 ∧ ys = ms.map f := by
  obtain ⟨rfl, rfl⟩ := h
  rw [List.take_length]
  exact ⟨⟨xs, SqL.ofL ha, by rw [hm.len]; exact Nat.le_refl _⟩, rfl, rfl⟩
theorem PFlt.step (ha : H a = some (.lst xs)) (hm : Ms H xs ms)
    (hs : ∀ c m (R : VK) (N : Hp → Prop), m ∈ ms → H c = some (mT m) → (p m = true → R (.ref c) H) → (p m = false → N H) → g (.ref c) τ H fun σ4 H4 => tc σ4 H4 fun b H5 => if b = true then te σ4 H5 R else N H5) :
    ∀ i ys H2, i < ms.length → PFlt H ms p i ys H2 → (Itl K a).go i H2 ∧ ∀ x H3, (Itl K a).yld i H2 x H3 → g x τ H3 fun σ4 H4 => tc σ4 H4 fun b H5 => if b = true then te σ4 H5 fun y H6 => PFlt H ms p (i + 1) (ys ++ [y]) H6 else PFlt H ms p (i + 1) ys H5 := by
  rintro i ys H2 hi ⟨rfl, hy⟩
  obtain ⟨c, ec, hc⟩ := hm.get hi
  refine ⟨⟨xs, .ref c, SqL.ofL ha, ec⟩, ?_⟩
  rintro x H3 ⟨rfl, hx⟩
  have hx' := hx xs (SqL.ofL ha)
  rw [ec] at hx'
  obtain rfl := Option.some.inj hx'
  refine hs c _ _ _ (List.getElem_mem hi) hc (fun hp => ⟨rfl, ?_⟩) (fun hp => ⟨rfl, ?_⟩)
  · rw [flt_succ hi, if_pos hp]
    exact hy.append (Ms.one hc)
  · rw [flt_succ hi, if_neg (by rw [hp]; decide), List.append_nil]
    exact hy
theorem PFlt.done (ha : H a = some (.lst xs)) (hm : Ms H xs ms) {ys : List V} {H2 : Hp} (h : PFlt H ms p ms.length ys H2) : (Itl K a).stop ms.length H2 ∧ H = H2 ∧ Ms H ys (ms.filter p) := by
  obtain ⟨rfl, hy⟩ := h
  rw [List.take_length] at hy
  exact ⟨⟨xs, SqL.ofL ha, by rw [hm.len]; exact Nat.le_refl _⟩, rfl, hy⟩
end
/-! ### a road -/
structure RS where
  rows : List Msg
  out : List Int
  cut : Bool
def rputB (sz : Int) (way : Str) (s : RS) : Bool := if s.cut = true then false else if (s.rows.length : Int) < sz then true else if way = "old" then true else false
def rputS (sz : Int) (way : Str) (s : RS) (m : Msg) : RS :=
  if s.cut = true then { s with out := s.out ++ [m.n] }
  else if (s.rows.length : Int) < sz then { s with rows := s.rows ++ [m] }
  else if way = "old" then { s with rows := s.rows.drop 1 ++ [m], out := s.out ++ (s.rows.take 1).map (·.n) }
  else if way = "new" then { s with out := s.out ++ [m.n] }
  else ⟨[], s.out ++ (s.rows ++ [m]).map (·.n), true⟩
def rF (sz : Int) (way : Str) (r d : Addr) (b : Bool) : List (Str × V) := [("size", .int sz), ("way", .str way), ("row", .ref r), ("dropped", .ref d), ("broken", .bl b)]
section
variable {sz : Int} {way : Str} {r d : Addr} {b : Bool}
theorem rF_size : (rF sz way r d b).lookup ("size" : Str) = some (V.int sz) := lk_hit
theorem rF_way : (rF sz way r d b).lookup ("way" : Str) = some (V.str way) := (lk_miss (by decide +kernel)).trans lk_hit
theorem rF_row : (rF sz way r d b).lookup ("row" : Str) = some (V.ref r) := (lk_miss (by decide +kernel)).trans ((lk_miss (by decide +kernel)).trans lk_hit)
theorem rF_dropped : (rF sz way r d b).lookup ("dropped" : Str) = some (V.ref d) := (lk_miss (by decide +kernel)).trans ((lk_miss (by decide +kernel)).trans ((lk_miss (by decide +kernel)).trans lk_hit))
theorem rF_broken : (rF sz way r d b).lookup ("broken" : Str) = some (V.bl b) := (lk_miss (by decide +kernel)).trans ((lk_miss (by decide +kernel)).trans ((lk_miss (by decide +kernel)).trans ((lk_miss (by decide +kernel)).trans lk_hit)))
theorem rF_no {f : Str} (h1 : ¬ f = "size") (h2 : ¬ f = "way") (h3 : ¬ f = "row") (h4 : ¬ f = "dropped") (h5 : ¬ f = "broken") : (rF sz way r d b).lookup f = none :=
  (lk_miss h1).trans ((lk_miss h2).trans ((lk_miss h3).trans ((lk_miss h4).trans (lk_miss h5))))
theorem rF_make : putF "broken" (.bl b) (putF "dropped" (.ref d) (putF "row" (.ref r) (putF "way" (.str way) (putF "size" (.int sz) [])))) = rF sz way r d b := by
  show putF "broken" (.bl b) (putF "dropped" (.ref d) (putF "row" (.ref r) (putF "way" (.str way) [("size", .int sz)]))) = _
  rw [pf_miss (by decide +kernel)]
  show putF "broken" (.bl b) (putF "dropped" (.ref d) (putF "row" (.ref r) [("size", .int sz), ("way", .str way)])) = _
  rw [pf_miss (by decide +kernel), pf_miss (by decide +kernel)]
  show putF "broken" (.bl b) (putF "dropped" (.ref d) [("size", .int sz), ("way", .str way), ("row", .ref r)]) = _
  rw [pf_miss (by decide +kernel), pf_miss (by decide +kernel), pf_miss (by decide +kernel)]
  show putF "broken" (.bl b) [("size", .int sz), ("way", .str way), ("row", .ref r), ("dropped", .ref d)] = _
  rw [pf_miss (by decide +kernel), pf_miss (by decide +kernel), pf_miss (by decide +kernel), pf_miss (by decide +kernel)]
  rfl
theorem rF_setRow {r' : Addr} : putF "row" (.ref r') (rF sz way r d b) = rF sz way r' d b := by
  unfold rF
  rw [pf_miss (by decide +kernel), pf_miss (by decide +kernel), pf_hit]
theorem rF_setBroken {b' : Bool} : putF "broken" (.bl b') (rF sz way r d b) = rF sz way r d b' := by
  unfold rF
  rw [pf_miss (by decide +kernel), pf_miss (by decide +kernel), pf_miss (by decide +kernel), pf_miss (by decide +kernel), pf_hit]
end
/-- a road stands at p; its list at r, what was left out at d -/
structure RAt (C : Addr) (H : Hp) (p : Addr) (sz : Int) (way : Str) (s : RS) (r d : Addr) : Prop where
  ob : ∃ dx, H p = some (.ins C dx (rF sz way r d s.cut))
  ro : ∃ ys, H r = some (.lst ys) ∧ Ms H ys s.rows
  dr : H d = some (.lst (s.out.map V.int))
  ne : r ≠ d
section
variable {C : Addr} {H H' : Hp} {p : Addr} {sz : Int} {way : Str} {s : RS} {r d : Addr}
theorem RAt.step {ps ps' : List Addr} (h : RAt C H p sz way s r d) (st : Stp ps H ps' H') (hd : ∀ c ∈ [p, r, d], c ∉ ps) : RAt C H' p sz way s r d := by
  obtain ⟨⟨dx, h1⟩, ⟨ys, h2, h3⟩, h4, h5⟩ := h
  exact ⟨⟨dx, st.keep h1 (hd _ (by simp))⟩, ⟨ys, st.keep h2 (hd _ (by simp)), h3.step st⟩, st.keep h4 (hd _ (by simp)), h5⟩
theorem RAt.out {ps ps' : List Addr} (h : RAt C H p sz way s r d) (st : Stp ps H ps' H') (hd : ∀ c ∈ [p, r, d], c ∉ ps) : ∀ c ∈ [p, r, d], c ∉ ps' := by
  obtain ⟨⟨dx, h1⟩, ⟨ys, h2, h3⟩, h4, h5⟩ := h
  intro c hc
  have hc' := hd c hc
  simp only [List.mem_cons, List.not_mem_nil, or_false] at hc
  rcases hc with rfl | rfl | rfl
  · exact st.out h1 hc'
  · exact st.out h2 hc'
  · exact st.out h4 hc'
theorem RAt.same (h : RAt C H p sz way s r d) (e : Same H H') : RAt C H' p sz way s r d := h.step (e.step []) fun _ _ => List.not_mem_nil
/-- what is none of a road's, told by its kind or as new -/
theorem RAt.free (h : RAt C H p sz way s r d) {c : Addr} (hc : H c = none) : c ∉ [p, r, d] := by
  obtain ⟨⟨dx, h1⟩, ⟨ys, h2, h3⟩, h4, h5⟩ := h
  simp [(ne_of_none h1 hc).symm, (ne_of_none h2 hc).symm, (ne_of_none h4 hc).symm]
theorem RAt.npr (h : RAt C H p sz way s r d) : p ≠ r := by
  obtain ⟨⟨dx, h1⟩, ⟨ys, h2, h3⟩, h4, h5⟩ := h
  exact ne_of h1 h2 (by intro z; cases z)
theorem RAt.npd (h : RAt C H p sz way s r d) : p ≠ d := by
  obtain ⟨⟨dx, h1⟩, ⟨ys, h2, h3⟩, h4, h5⟩ := h
  exact ne_of h1 h4 (by intro z; cases z)
end
structure RoadC (K : PySem.W.Frag) (mg : Str → Option Value) (C : Addr) : Prop where
  cl_Road : Cls K C
  mg_Road : mg "Road" = some (.ref C)
  n_size : NoAttr K C "size"
  n_way : NoAttr K C "way"
  n_row : NoAttr K C "row"
  n_dropped : NoAttr K C "dropped"
  n_broken : NoAttr K C "broken"
theorem Stp.up {ps qs : List Addr} {H H' : Hp} (s : Stp ps H ps H') (h : ∀ c ∈ ps, c ∈ qs) : Stp qs H qs H' := s.weak h fun _ z => .inr z
/-! the promises of a road's methods -/
def spInitR (C : Addr) : Sp := fun vs H Q _ => ∃ (p dx : Addr) (sz : Int) (way : Str), vs = [.ref p, .int sz, .str way] ∧ H p = some (.ins C dx []) ∧
  ∀ r d H', RAt C H' p sz way ⟨[], [], false⟩ r d → Stp [p] H [p, r, d] H' → Q .non H'
def spLeave (C : Addr) : Sp := fun vs H Q _ => ∃ p b xs ms sz way s r d, vs = [.ref p, .ref b] ∧ RAt C H p sz way s r d ∧ H b = some (.lst xs) ∧ Ms H xs ms ∧ ms.length < 64 ∧ s.out.length < 1000 ∧
  ∀ H', RAt C H' p sz way { s with out := s.out ++ ms.map (·.n) } r d → Stp [d] H [d] H' → Q .non H'
def spPut (C : Addr) : Sp := fun vs H Q _ => ∃ p c m sz way s r d, vs = [.ref p, .ref c] ∧ RAt C H p sz way s r d ∧ H c = some (mT m) ∧ s.rows.length < 63 ∧ s.out.length < 1000 ∧
  ∀ r' H', RAt C H' p sz way (rputS sz way s m) r' d → Stp [p, r, d] H [p, r', d] H' → Q (.bl (rputB sz way s)) H'
def spPutW (C : Addr) : Sp := fun vs H Q _ => ∃ p c m sz way s r d, vs = [.ref p, .ref c] ∧ RAt C H p sz way s r d ∧ H c = some (mT m) ∧ s.rows.length < 63 ∧ s.out.length < 1000 ∧ s.cut = false ∧ ¬ (s.rows.length : Int) < sz ∧
  ∀ r' H', RAt C H' p sz way (rputS sz way s m) r' d → Stp [p, r, d] H [p, r', d] H' → Q (.bl (rputB sz way s)) H'
def spTakeR (C : Addr) : Sp := fun vs H Q _ => ∃ p n sz way s r d, vs = [.ref p, .int n] ∧ RAt C H p sz way s r d ∧ 0 ≤ n ∧
  ∀ l ys r' H', RAt C H' p sz way { s with rows := s.rows.drop n.toNat } r' d → Stp [p, r, d] H [p, r', d] H' → H l = none → l ∉ [p, r', d] → H' l = some (.lst ys) → Ms H' ys (s.rows.take n.toNat) → Q (.ref l) H'
def spWait (C : Addr) : Sp := fun vs H Q _ => ∃ p sz way s r d, vs = [.ref p] ∧ RAt C H p sz way s r d ∧ ∀ l ys, H l = none → Ms (upd H l (.lst ys)) ys s.rows → Q (.ref l) (upd H l (.lst ys))
def spMend (C : Addr) : Sp := fun vs H Q _ => ∃ p sz way s r d, vs = [.ref p] ∧ RAt C H p sz way s r d ∧ ∀ H', RAt C H' p sz way { s with cut := false } r d → Stp [p, r, d] H [p, r, d] H' → Q .non H'
end L2

namespace L2
open PySem PySem.Spec PyProof.Rows PySem.W
/-! ### what a dict's keys are, walked -/
section
variable {X : Cx}
theorem items_keys {P : Program} {w : World} {kvs : List (Key × V)} : ∀ {ws : List (Key × Value)} {vs : List Value}, KV kvs ws → vs.length = ws.length → (∀ (j : Nat) (v : Value), vs[j]? = some v → ∃ k x, ws[j]? = some (k, x) ∧ (mixKind P w).is k v = true) → Vals (kvs.map fun kv => kV kv.1) vs := by
  induction kvs with
  | nil =>
    intro ws vs r e h
    cases r
    rw [List.eq_nil_of_length_eq_zero e]; exact .nil
  | cons kv kvs ih =>
    intro ws vs r e h
    cases r with
    | @cons _ w1 _ ws r1 r2 =>
      cases vs with
      | nil => simp at e
      | cons v vs =>
        refine .cons ?_ (ih r2 (by simpa using e) fun j u hu => h (j + 1) u (by simpa using hu))
        obtain ⟨k, x, hk, hi⟩ := h 0 v rfl
        have hk' : w1 = (k, x) := Option.some.inj hk
        show RelV (kV kv.1) v
        rw [r1.1, hk']
        have hi' : keyIs k v = true := hi
        rcases keyIs_shape hi' with ⟨i, t, e1, e2⟩ | ⟨y, t, e1, e2⟩
        · rw [e1, e2]; exact ⟨t, rfl⟩
        · rw [e1, e2]; exact ⟨t, rfl⟩
theorem coll_keys {d : Addr} {H : Hp} {kvs : List (Key × V)} (hd : H d = some (.dK kvs)) : Coll X (.ref d) H (kvs.map fun kv => kV kv.1) := by
  intro pins s σ v A E Q I r hh hq
  cases r
  obtain ⟨hz, lo, ws, rk, hD⟩ := dk_of I.hok hd
  obtain ⟨ep, hat⟩ := hD.dictAt
  have hl : kvs.length = ws.length := Paired.length rk
  have grow : ∀ b o, s.heap.get? b = some o → (s.heap.push (seqObj "list" #[] 0)).get? b = some o := fun b o e => Heap.get?_push_of_some _ e
  have hat1 : (s.heap.push (seqObj "list" #[] 0)).DictAt (mixKind X.prog X.w) d ws ep := hat.at' fun o e => grow _ _ e
  have ld : d < s.heap.objs.size := hat.lt_size
  unfold collect
  refine wpAny_bind (wpAny_runValue (codeAny_builtin entry_proto_collect' ?_))
  show wpAny _ _ (do again (.builtin "list.__iadd__" ⟨[← newList [], .ref d], []⟩)) _ _ s
  refine wpAny_bind (wpAny_newList (wpAny_pure ⟨Code.quiet_builtin _ (by decide +kernel), codeAny_builtin entry_list_iadd' ?_⟩))
  show wpAny _ _ (Builtin.List.listExtendWith (.ref s.heap.objs.size) (.ref d) (.ref s.heap.objs.size)) _ _ { s with heap := s.heap.push (seqObj "list" #[] 0) }
  rw [Around.under_plainId (show plainId "list.__iadd__" = true by decide +kernel) _]
  have fin : ∀ s' : Shared, (∃ acc c, s'.heap.get? s.heap.objs.size = some { cls := .type "list", dict := none, data := .seq acc c, slots := #[] } ∧ Vals (kvs.map fun kv => kV kv.1) acc.toList ∧ Inv X pins σ H s') →
      wpAny (model X.prog X.w) A (do
        let o ← load s.heap.objs.size
        match o.data with
        | .seq xs _ => pure xs.toList
        | _ => unsupported "internal:collect") Q E s' := by
    rintro s' ⟨acc, c, hS, e, I'⟩
    refine wpAny_bind (wpAny_load hS ?_)
    show wpAny _ _ (pure acc.toList) Q E _
    exact wpAny_pure (hq _ _ e I')
  refine wpAny_mono (PySem.W.kdl_extend (R := fun r s' => r = .ok (.ret (.ref s.heap.objs.size)) ∧ ∃ acc c, s'.heap.get? s.heap.objs.size = some { cls := .type "list", dict := none, data := .seq acc c, slots := #[] } ∧ Vals (kvs.map fun kv => kV kv.1) acc.toList ∧ Inv X pins σ H s')
    (s := { s with heap := s.heap.push (seqObj "list" #[] 0) }) (PySem.W.kdl_dict (knd := mixKind X.prog X.w) (kvs := ws) (ep := ep) lo) hh hat1 s.heap.objs.size (Nat.ne_of_gt ld) (Nat.ne_of_gt ld) _ 0 (Heap.get?_push_size _ rfl) (fun h' tk acc c hk hS hacc => ?_) (show ws.length ≤ sizeLine by omega))
    (fun fi s' hf => ?_) (fun e s' he => nomatch he.1)
  · refine ⟨rfl, acc, c, hS, items_keys rk (by rw [Array.length_toList]; exact hacc.1) (fun j u hu => hacc.2 j u (by rw [← Array.getElem?_toList]; exact hu)), I.kept fun b o eb => hk b o (Nat.ne_of_lt (Heap.lt_size eb)) (grow b o eb)⟩
  · cases fi with
    | done f =>
      obtain ⟨e, g⟩ := hf
      cases e
      exact fin s' g
    | again c' =>
      refine ⟨hf.1, codeAny_mono hf.2 fun r s2 ⟨e, g⟩ => ?_⟩
      subst e
      exact fin s2 g
/-! ### sorted(x) of ints -/
/-- what is walked for sorted(x): a list, or a dict's keys -/
def IntSrc (K : PySem.W.Frag) (x : V) (H : Hp) (ns : List Int) : Prop := (∃ a, x = .ref a ∧ SqL K H a (ns.map V.int)) ∨ ∃ d kvs, x = .ref d ∧ H d = some (.dK kvs) ∧ kvs.map (·.1) = ns.map Sum.inl
theorem IntSrc.coll {x : V} {H : Hp} {ns : List Int} (h : IntSrc X.K x H ns) : Coll X x H (ns.map V.int) := by
  rcases h with ⟨a, rfl, h⟩ | ⟨d, kvs, rfl, h, e⟩
  · exact coll_list h
  · have z := coll_keys (X := X) h
    have e2 : kvs.map (fun kv => kV kv.1) = ns.map V.int := by
      have : kvs.map (fun kv => kV kv.1) = (kvs.map (·.1)).map kV := by rw [List.map_map]; rfl
      rw [this, e, List.map_map]; rfl
    rw [e2] at z
    exact z
/-! ### list(range(..)) -/
/-! ### max of a list of ints, also with a default -/
section
variable {prog : Program} {w : World} {A : Around} {I : Addr} {fp wr : List Addr} {G : Array GenState → Array GenState → Prop} {n : Nat} {P : Nat → Value → Prop} {St : Nat → Shared → Prop} {R : Result → Shared → Prop} {kw : List (Str × Value)}
end
end
end L2

namespace L2
open PySem PySem.Spec PyProof.Rows PySem.W
/-! ### a hearer, without heap -/
structure HS where
  heard : List Msg
  held : List Msg
  lost : List Int
def HS.next (s : HS) : Int := (s.heard.length : Int) + (s.lost.length : Int) + 1
def hasN (ms : List Msg) (n : Int) : Bool := ms.any fun m => decide (m.n = n)
def findN (ms : List Msg) (n : Int) : Option Msg := ms.find? fun m => decide (m.n = n)
def dropN (ms : List Msg) (n : Int) : List Msg := ms.filter fun m => decide (m.n ≠ n)
def putM (ms : List Msg) (m : Msg) : List Msg := if hasN ms m.n = true then ms.map (fun x => if x.n = m.n then m else x) else ms ++ [m]
theorem findN_some {ms : List Msg} {n : Int} {m : Msg} (h : findN ms n = some m) : m ∈ ms ∧ m.n = n := ⟨List.mem_of_find?_eq_some h, by simpa using List.find?_some h⟩
theorem findN_none {ms : List Msg} {n : Int} : findN ms n = none ↔ ∀ m ∈ ms, m.n ≠ n := by
  unfold findN
  rw [List.find?_eq_none]
  constructor
  · intro h m hm; simpa using h m hm
  · intro h m hm; simpa using h m hm
theorem hasN_iff {ms : List Msg} {n : Int} : hasN ms n = true ↔ ∃ m ∈ ms, m.n = n := by
  unfold hasN
  rw [List.any_eq_true]
  constructor
  · rintro ⟨m, hm, e⟩; exact ⟨m, hm, of_decide_eq_true e⟩
  · rintro ⟨m, hm, e⟩; exact ⟨m, hm, decide_eq_true e⟩
theorem dropN_mem {ms : List Msg} {n : Int} {m : Msg} : m ∈ dropN ms n ↔ m ∈ ms ∧ m.n ≠ n := by
  unfold dropN
  rw [List.mem_filter]
  simp
theorem dropN_lt {ms : List Msg} {m : Msg} (h : m ∈ ms) : (dropN ms m.n).length < ms.length := by
  unfold dropN
  exact List.length_filter_lt_length_iff_exists.mpr ⟨m, h, by simp⟩
theorem dropN_diff {ms : List Msg} {n : Int} (d : Diff ms) : Diff (dropN ms n) := (List.filter_sublist.map Msg.n).nodup d
theorem dropN_len {ms : List Msg} (d : Diff ms) {m : Msg} (h : m ∈ ms) : (dropN ms m.n).length + 1 = ms.length := by
  induction ms with
  | nil => cases h
  | cons x r ih =>
    have d' : Diff r := (List.nodup_cons.mp d).2
    have hx : x.n ∉ r.map (·.n) := (List.nodup_cons.mp d).1
    by_cases e : x.n = m.n
    · have : dropN (x :: r) m.n = r := by
        unfold dropN
        rw [List.filter_cons_of_neg (by simp [e])]
        refine List.filter_eq_self.mpr fun y hy => ?_
        refine decide_eq_true fun z => hx ?_
        rw [e, ← z]
        exact List.mem_map_of_mem hy
      rw [this]; rfl
    · have hm : m ∈ r := by
        rcases List.mem_cons.mp h with rfl | z
        · exact absurd rfl e
        · exact z
      have : dropN (x :: r) m.n = x :: dropN r m.n := by
        unfold dropN
        rw [List.filter_cons_of_pos (by simp [e])]
      rw [this, List.length_cons, List.length_cons, ← ih d' hm]
/-- what is there of this number is this one: putting changes nothing, or adds it -/
theorem putM_new {ms : List Msg} {m : Msg} (h : ∀ x ∈ ms, x.n ≠ m.n) : putM ms m = ms ++ [m] := by
  unfold putM
  rw [if_neg]
  intro z
  obtain ⟨x, hx, e⟩ := hasN_iff.mp z
  exact h x hx e
theorem putM_old {ms : List Msg} {m : Msg} (h : m ∈ ms) (hs : ∀ x ∈ ms, x.n = m.n → x = m) : putM ms m = ms := by
  unfold putM
  rw [if_pos (hasN_iff.mpr ⟨m, h, rfl⟩)]
  have : ms.map (fun x => if x.n = m.n then m else x) = ms.map id := List.map_congr_left fun x hx => by
    show (if x.n = m.n then m else x) = x
    by_cases e : x.n = m.n
    · rw [if_pos e, hs x hx e]
    · rw [if_neg e]
  rw [this, List.map_id]
theorem putM_case {ms : List Msg} {m : Msg} (hs : ∀ x ∈ ms, x.n = m.n → x = m) : (m ∈ ms ∧ putM ms m = ms) ∨ ((∀ x ∈ ms, x.n ≠ m.n) ∧ putM ms m = ms ++ [m]) := by
  by_cases h : m ∈ ms
  · exact .inl ⟨h, putM_old h hs⟩
  · have h' : ∀ x ∈ ms, x.n ≠ m.n := fun x hx e => h (hs x hx e ▸ hx)
    exact .inr ⟨h', putM_new h'⟩
theorem putM_mem {ms : List Msg} {m x : Msg} (hs : ∀ x ∈ ms, x.n = m.n → x = m) : x ∈ putM ms m ↔ x ∈ ms ∨ x = m := by
  rcases putM_case hs with ⟨h, e⟩ | ⟨h, e⟩
  · rw [e]
    constructor
    · exact .inl
    · rintro (z | rfl)
      · exact z
      · exact h
  · rw [e, List.mem_append, List.mem_singleton]
theorem putM_diff {ms : List Msg} {m : Msg} (hs : ∀ x ∈ ms, x.n = m.n → x = m) (d : Diff ms) : Diff (putM ms m) := by
  rcases putM_case hs with ⟨h, e⟩ | ⟨h, e⟩
  · rw [e]; exact d
  · rw [e]
    unfold Diff
    rw [List.map_append]
    refine List.nodup_append.mpr ⟨d, by simp, fun a ha b hb => ?_⟩
    obtain ⟨x, hx, rfl⟩ := List.mem_map.mp ha
    simp only [List.map_cons, List.map_nil, List.mem_singleton] at hb
    rw [hb]; exact h x hx
theorem putM_len {ms : List Msg} {m : Msg} : (putM ms m).length ≤ ms.length + 1 := by
  unfold putM
  split
  · rw [List.length_map]; omega
  · rw [List.length_append]; exact Nat.le_refl _
/-- those that are held are heard as far as there are -/
def hearS (s : HS) : HS :=
  match h : findN s.held s.next with
  | none => s
  | some m => hearS ⟨s.heard ++ [m], dropN s.held m.n, s.lost⟩
termination_by s.held.length
decreasing_by exact dropN_lt (findN_some h).1
theorem hearS_none {s : HS} (h : findN s.held s.next = none) : hearS s = s := by
  rw [hearS]
  split
  · rfl
  · rename_i m e; rw [h] at e; cases e
theorem hearS_some {s : HS} {m : Msg} (h : findN s.held s.next = some m) : hearS s = hearS ⟨s.heard ++ [m], dropN s.held m.n, s.lost⟩ := by
  rw [hearS]
  split
  · rename_i e; rw [h] at e; cases e
  · rename_i m' e
    rw [h] at e
    cases e; rfl
/-- what holds of a hearing step by step holds behind it -/
theorem hearS_ind {P : HS → Prop} (hs : ∀ s m, P s → findN s.held s.next = some m → P ⟨s.heard ++ [m], dropN s.held m.n, s.lost⟩) : ∀ s, P s → P (hearS s) ∧ findN (hearS s).held (hearS s).next = none
  | s, h => by
    cases e : findN s.held s.next with
    | none => rw [hearS_none e]; exact ⟨h, e⟩
    | some m =>
      rw [hearS_some e]
      exact hearS_ind hs ⟨s.heard ++ [m], dropN s.held m.n, s.lost⟩ (hs s m h e)
termination_by s => s.held.length
decreasing_by exact dropN_lt (findN_some e).1
theorem hearS_lost (s : HS) : (hearS s).lost = s.lost := (hearS_ind (P := fun t => t.lost = s.lost) (fun _ _ h _ => h) s rfl).1
theorem next_snoc {h : List Msg} {d : List Msg} {l : List Int} {m : Msg} : HS.next ⟨h ++ [m], d, l⟩ = HS.next ⟨h, d, l⟩ + 1 := by
  show ((h ++ [m]).length : Int) + l.length + 1 = (h.length : Int) + l.length + 1 + 1
  rw [List.length_append]; show ((h.length + 1 : Nat) : Int) + _ + 1 = _; omega
theorem hearS_next (s : HS) : s.next ≤ (hearS s).next := (hearS_ind (P := fun t => s.next ≤ t.next) (fun t m h _ => by rw [next_snoc]; exact Int.le_trans h (by show t.next ≤ t.next + 1; omega)) s (Int.le_refl _)).1
def lose (s : HS) : HS := ⟨s.heard, s.held, s.lost ++ [s.next]⟩
theorem lose_next (s : HS) : (lose s).next = s.next + 1 := by
  show (s.heard.length : Int) + ((s.lost ++ [s.next]).length : Int) + 1 = (s.heard.length : Int) + s.lost.length + 1 + 1
  rw [List.length_append]; show _ + ((s.lost.length + 1 : Nat) : Int) + 1 = _; omega
/-- all ahead of n are given up -/
def giveS (n : Int) (s : HS) : HS := if s.next < n then giveS n (hearS (lose s)) else s
termination_by (n - s.next).toNat
decreasing_by
  have h1 := hearS_next (lose s)
  rw [lose_next] at h1
  omega
theorem giveS_lt {n : Int} {s : HS} (h : s.next < n) : giveS n s = giveS n (hearS (lose s)) := by rw [giveS, if_pos h]
theorem giveS_ge {n : Int} {s : HS} (h : ¬ s.next < n) : giveS n s = s := by rw [giveS, if_neg h]
def addS (s : HS) (m : Msg) : HS := if m.n ≥ s.next then ⟨s.heard, putM s.held m, s.lost⟩ else s
def takeS (s : HS) (ms : List Msg) : HS := hearS (ms.foldl addS s)
theorem addS_next (s : HS) (m : Msg) : (addS s m).next = s.next := by unfold addS; split <;> rfl
theorem addS_heard (s : HS) (m : Msg) : (addS s m).heard = s.heard := by unfold addS; split <;> rfl
theorem addS_lost (s : HS) (m : Msg) : (addS s m).lost = s.lost := by unfold addS; split <;> rfl
theorem adds_heard : ∀ (ms : List Msg) (s : HS), (ms.foldl addS s).heard = s.heard
  | [], _ => rfl
  | m :: r, s => by rw [List.foldl_cons, adds_heard r, addS_heard]
theorem adds_lost : ∀ (ms : List Msg) (s : HS), (ms.foldl addS s).lost = s.lost
  | [], _ => rfl
  | m :: r, s => by rw [List.foldl_cons, adds_lost r, addS_lost]
theorem adds_next (ms : List Msg) (s : HS) : (ms.foldl addS s).next = s.next := by unfold HS.next; rw [adds_heard, adds_lost]
/-- no other of a number that is known -/
def Fits (s : HS) (ms : List Msg) : Prop := (∀ m ∈ ms, ∀ x, x ∈ s.heard ∨ x ∈ s.held → x.n = m.n → x = m) ∧ ∀ m ∈ ms, ∀ x ∈ ms, x.n = m.n → x = m
/-! ### tables from numbers to messages -/
inductive DI (H : Hp) : List (Key × V) → List Msg → Prop
  | nil : DI H [] []
  | cons {v : V} {m : Msg} {r : List (Key × V)} {ms : List Msg} : Has H v (mD m) → DI H r ms → DI H ((Sum.inl m.n, v) :: r) (m :: ms)
theorem DI.same {H H' : Hp} (e : Same H H') : ∀ {kvs : List (Key × V)} {ms : List Msg}, DI H kvs ms → DI H' kvs ms
  | _, _, .nil => .nil
  | _, _, .cons h t => .cons (h.same e) (DI.same e t)
theorem DI.tups {H H' : Hp} (e : Tups H H') : ∀ {kvs : List (Key × V)} {ms : List Msg}, DI H kvs ms → DI H' kvs ms
  | _, _, .nil => .nil
  | _, _, .cons h t => .cons (h.tups e (noLst_m _)) (DI.tups e t)
theorem DI.len {H : Hp} : ∀ {kvs : List (Key × V)} {ms : List Msg}, DI H kvs ms → kvs.length = ms.length
  | _, _, .nil => rfl
  | _, _, .cons _ t => by rw [List.length_cons, List.length_cons, DI.len t]
theorem DI.keys {H : Hp} : ∀ {kvs : List (Key × V)} {ms : List Msg}, DI H kvs ms → kvs.map (·.1) = (ms.map (·.n)).map Sum.inl
  | _, _, .nil => rfl
  | _, _, .cons _ t => by rw [List.map_cons, List.map_cons, List.map_cons, DI.keys t]
theorem DI.any {H : Hp} (n : Int) : ∀ {kvs : List (Key × V)} {ms : List Msg}, DI H kvs ms → (kvs.any fun kv => decide (kv.1 = Sum.inl n)) = hasN ms n
  | _, _, .nil => rfl
  | _, _, .cons (m := m') h r => by
    unfold hasN
    rw [List.any_cons, List.any_cons, DI.any n r]
    congr 1
    exact decide_eq_decide.mpr ⟨fun z => Sum.inl.inj z, fun z => congrArg Sum.inl z⟩
theorem DI.repl {H : Hp} {v : V} {m : Msg} (h : Has H v (mD m)) : ∀ {kvs : List (Key × V)} {ms : List Msg}, DI H kvs ms → DI H (kvs.map fun kv => if kv.1 = Sum.inl m.n then (kv.1, v) else kv) (ms.map fun x => if x.n = m.n then m else x)
  | _, _, .nil => .nil
  | _, _, .cons (m := m') h' r => by
    rw [List.map_cons, List.map_cons]
    by_cases e : m'.n = m.n
    · rw [if_pos (by rw [e]), if_pos e]
      show DI H ((Sum.inl m'.n, v) :: _) _
      rw [e]; exact .cons h (DI.repl h r)
    · rw [if_neg (fun z => e (Sum.inl.inj z)), if_neg e]; exact .cons h' (DI.repl h r)
theorem DI.snoc {H : Hp} {v : V} {m : Msg} (h : Has H v (mD m)) : ∀ {kvs : List (Key × V)} {ms : List Msg}, DI H kvs ms → DI H (kvs ++ [(Sum.inl m.n, v)]) (ms ++ [m])
  | _, _, .nil => .cons h .nil
  | _, _, .cons h' r => .cons h' (DI.snoc h r)
theorem DI.put {H : Hp} {v : V} {m : Msg} (h : Has H v (mD m)) {kvs : List (Key × V)} {ms : List Msg} (d : DI H kvs ms) : DI H (putK kvs (Sum.inl m.n) v) (putM ms m) := by
  unfold putK putM
  rw [d.any m.n]
  split
  · exact d.repl h
  · exact d.snoc h
theorem DI.drop {H : Hp} (n : Int) : ∀ {kvs : List (Key × V)} {ms : List Msg}, DI H kvs ms → DI H (dropK kvs (Sum.inl n)) (dropN ms n)
  | _, _, .nil => .nil
  | _, _, .cons (m := m') h r => by
    unfold dropK dropN
    by_cases e : m'.n = n
    · rw [List.filter_cons_of_neg (by simp [e]), List.filter_cons_of_neg (by simp [e])]
      exact DI.drop n r
    · rw [List.filter_cons_of_pos (by simpa using e), List.filter_cons_of_pos (by simpa using e)]
      exact .cons h (DI.drop n r)
theorem DI.none {H : Hp} (n : Int) : ∀ {kvs : List (Key × V)} {ms : List Msg}, DI H kvs ms → findN ms n = none → valV kvs (Sum.inl n) = none
  | _, _, .nil, _ => rfl
  | _, _, .cons (m := m') h r, e => by
    have e' := findN_none.mp e
    rw [valV_neg (by intro z; exact e' m' (by simp) (Sum.inl.inj z))]
    exact DI.none n r (findN_none.mpr fun x hx => e' x (by simp [hx]))
theorem DI.some {H : Hp} (n : Int) {m : Msg} : ∀ {kvs : List (Key × V)} {ms : List Msg}, DI H kvs ms → findN ms n = some m → ∃ c, valV kvs (Sum.inl n) = some (.ref c) ∧ H c = some (mT m)
  | _, _, .nil, e => by cases e
  | _, _, .cons (m := m') h r, e => by
    by_cases z : m'.n = n
    · unfold findN at e
      rw [List.find?_cons_of_pos (by simp [z])] at e
      cases e
      obtain ⟨c, rfl, hc⟩ := has_msg h
      exact ⟨c, valV_pos (by rw [z]), hc⟩
    · unfold findN at e
      rw [List.find?_cons_of_neg (by simp [z])] at e
      obtain ⟨c, h1, h2⟩ := DI.some n r e
      exact ⟨c, by rw [valV_neg (by intro y; exact z (Sum.inl.inj y))]; exact h1, h2⟩
theorem hasN_find {ms : List Msg} {n : Int} : hasN ms n = (findN ms n).isSome := by
  cases e : findN ms n with
  | none =>
    have := findN_none.mp e
    rw [show hasN ms n = false from Bool.eq_false_iff.mpr fun z => by obtain ⟨m, hm, en⟩ := hasN_iff.mp z; exact this m hm en]; rfl
  | some m => exact hasN_iff.mpr ⟨m, (findN_some e).1, (findN_some e).2⟩
theorem DI.isSome {H : Hp} {kvs : List (Key × V)} {ms : List Msg} (d : DI H kvs ms) (n : Int) : (valV kvs (Sum.inl n)).isSome = hasN ms n := by
  rw [hasN_find]
  cases e : findN ms n with
  | none => rw [d.none n e]; rfl
  | some m => obtain ⟨c, hc, _⟩ := d.some n e; rw [hc]; rfl
/-! ### a hearer in the heap -/
def hF (nx : Int) (q h k g : Addr) (ex : List (Str × V)) : List (Str × V) := ("next_number", .int nx) :: ("past", .ref q) :: ("held", .ref h) :: ("known", .ref k) :: ("given_up", .ref g) :: ex
section
variable {nx : Int} {q h k g : Addr} {ex : List (Str × V)}
theorem hF_next : (hF nx q h k g ex).lookup ("next_number" : Str) = some (V.int nx) := lk_hit
theorem hF_past : (hF nx q h k g ex).lookup ("past" : Str) = some (V.ref q) := (lk_miss (by decide +kernel)).trans lk_hit
theorem hF_held : (hF nx q h k g ex).lookup ("held" : Str) = some (V.ref h) := (lk_miss (by decide +kernel)).trans ((lk_miss (by decide +kernel)).trans lk_hit)
theorem hF_known : (hF nx q h k g ex).lookup ("known" : Str) = some (V.ref k) := (lk_miss (by decide +kernel)).trans ((lk_miss (by decide +kernel)).trans ((lk_miss (by decide +kernel)).trans lk_hit))
theorem hF_given : (hF nx q h k g ex).lookup ("given_up" : Str) = some (V.ref g) := (lk_miss (by decide +kernel)).trans ((lk_miss (by decide +kernel)).trans ((lk_miss (by decide +kernel)).trans ((lk_miss (by decide +kernel)).trans lk_hit)))
theorem hF_no {f : Str} (h1 : ¬ f = "next_number") (h2 : ¬ f = "past") (h3 : ¬ f = "held") (h4 : ¬ f = "known") (h5 : ¬ f = "given_up") : (hF nx q h k g ex).lookup f = ex.lookup f :=
  (lk_miss h1).trans ((lk_miss h2).trans ((lk_miss h3).trans ((lk_miss h4).trans (lk_miss h5))))
theorem hF_make : putF "given_up" (.ref g) (putF "known" (.ref k) (putF "held" (.ref h) (putF "past" (.ref q) (putF "next_number" (.int nx) [])))) = hF nx q h k g [] := by
  show putF "given_up" (.ref g) (putF "known" (.ref k) (putF "held" (.ref h) (putF "past" (.ref q) [("next_number", .int nx)]))) = _
  rw [pf_miss (by decide +kernel)]
  show putF "given_up" (.ref g) (putF "known" (.ref k) (putF "held" (.ref h) [("next_number", .int nx), ("past", .ref q)])) = _
  rw [pf_miss (by decide +kernel), pf_miss (by decide +kernel)]
  show putF "given_up" (.ref g) (putF "known" (.ref k) [("next_number", .int nx), ("past", .ref q), ("held", .ref h)]) = _
  rw [pf_miss (by decide +kernel), pf_miss (by decide +kernel), pf_miss (by decide +kernel)]
  show putF "given_up" (.ref g) [("next_number", .int nx), ("past", .ref q), ("held", .ref h), ("known", .ref k)] = _
  rw [pf_miss (by decide +kernel), pf_miss (by decide +kernel), pf_miss (by decide +kernel), pf_miss (by decide +kernel)]
  rfl
theorem hF_setNext {nx' : Int} : putF "next_number" (.int nx') (hF nx q h k g ex) = hF nx' q h k g ex := by
  unfold hF
  rw [pf_hit]
end
structure HearC (K : PySem.W.Frag) (C : Addr) : Prop where
  cl_Hearer : Cls K C
  n_next_number : NoAttr K C "next_number"
  n_past : NoAttr K C "past"
  n_held : NoAttr K C "held"
  n_known : NoAttr K C "known"
  n_given_up : NoAttr K C "given_up"
/-- what belongs to a hearer -/
structure HA where
  p : Addr
  q : Addr
  h : Addr
  k : Addr
  g : Addr
def HA.fp (a : HA) : List Addr := [a.p, a.q, a.h, a.k, a.g]
/-- the table of all that are known -/
def KnowN (H : Hp) (k : Addr) (s : HS) : Prop := ∃ kvs ms, H k = some (.dK kvs) ∧ DI H kvs ms ∧ Diff ms ∧ ms.length ≤ s.heard.length + s.held.length ∧ ∀ m, m ∈ ms ↔ m ∈ s.heard ∨ m ∈ s.held
/-- a hearer: its number, its table of those held, and what it has heard may be ahead of one another while it hears -/
structure HAt (C : Addr) (H : Hp) (a : HA) (s : HS) (ex : List (Str × V)) : Prop where
  ob : ∃ dx, H a.p = some (.ins C dx (hF s.next a.q a.h a.k a.g ex))
  pa : ∃ ys, H a.q = some (.lst ys) ∧ Ms H ys s.heard
  he : ∃ kvs, H a.h = some (.dK kvs) ∧ DI H kvs s.held
  kn : KnowN H a.k s
  lo : H a.g = some (.lst (s.lost.map V.int))
  nqg : a.q ≠ a.g
  nhk : a.h ≠ a.k
  exn : ∀ f : Str, ¬ f = "keep" → ex.lookup f = none
  exl : ex.length < 100
theorem hF_len {nx : Int} {q h k g : Addr} {ex : List (Str × V)} (hx : ex.length < 100) : (hF nx q h k g ex).length < 1000 := by show ex.length + 1 + 1 + 1 + 1 + 1 < 1000; omega
section
variable {C : Addr} {H H' : Hp} {a : HA} {s : HS} {ex : List (Str × V)}
theorem KnowN.tups {k : Addr} (h : KnowN H k s) (e : H' k = H k) (t : Tups H H') : KnowN H' k s := by
  obtain ⟨kvs, ms, h1, h2, h3, h4, h5⟩ := h
  exact ⟨kvs, ms, by rw [e]; exact h1, h2.tups t, h3, h4, h5⟩
theorem HAt.live (h : HAt C H a s ex) : ∀ c ∈ a.fp, ∃ o, H c = some o := by
  obtain ⟨⟨dx, h1⟩, ⟨ys, h2, _⟩, ⟨kvs, h3, _⟩, ⟨kvs', _, h4, _⟩, h5, _, _, _, _⟩ := h
  intro c hc
  simp only [HA.fp, List.mem_cons, List.not_mem_nil, or_false] at hc
  rcases hc with rfl | rfl | rfl | rfl | rfl
  · exact ⟨_, h1⟩
  · exact ⟨_, h2⟩
  · exact ⟨_, h3⟩
  · exact ⟨_, h4⟩
  · exact ⟨_, h5⟩
theorem HAt.step {ps ps' : List Addr} (h : HAt C H a s ex) (st : Stp ps H ps' H') (hd : ∀ c ∈ a.fp, c ∉ ps) : HAt C H' a s ex := by
  have hd' : ∀ c, c ∈ a.fp → c ∉ ps := hd
  obtain ⟨⟨dx, h1⟩, ⟨ys, h2, h3⟩, ⟨kvs, h4, h5⟩, hk, h6, h7, h8, h9, h10⟩ := id h
  have e : ∀ c ∈ a.fp, H' c = H c := fun c hc => by
    obtain ⟨o, ho⟩ := h.live c hc
    rw [ho]; exact st.keep ho (hd c hc)
  exact ⟨⟨dx, by rw [e _ (by simp [HA.fp])]; exact h1⟩, ⟨ys, by rw [e _ (by simp [HA.fp])]; exact h2, h3.step st⟩, ⟨kvs, by rw [e _ (by simp [HA.fp])]; exact h4, h5.tups st.tup⟩, hk.tups (e _ (by simp [HA.fp])) st.tup, by rw [e _ (by simp [HA.fp])]; exact h6, h7, h8, h9, h10⟩
theorem HAt.same (h : HAt C H a s ex) (e : Same H H') : HAt C H' a s ex := h.step (e.step []) fun _ _ => List.not_mem_nil
theorem HAt.out {ps ps' : List Addr} (h : HAt C H a s ex) (st : Stp ps H ps' H') (hd : ∀ c ∈ a.fp, c ∉ ps) : ∀ c ∈ a.fp, c ∉ ps' := fun c hc => by
  obtain ⟨o, ho⟩ := h.live c hc
  exact st.out ho (hd c hc)
theorem HAt.free (h : HAt C H a s ex) {c : Addr} (hc : H c = none) : c ∉ a.fp := fun z => by
  obtain ⟨o, ho⟩ := h.live c z
  rw [ho] at hc; cases hc
theorem HAt.apart (h : HAt C H a s ex) : a.p ≠ a.q ∧ a.p ≠ a.h ∧ a.p ≠ a.k ∧ a.p ≠ a.g ∧ a.q ≠ a.h ∧ a.q ≠ a.k ∧ a.q ≠ a.g ∧ a.h ≠ a.k ∧ a.h ≠ a.g ∧ a.k ≠ a.g := by
  obtain ⟨⟨dx, h1⟩, ⟨ys, h2, _⟩, ⟨kvs, h3, _⟩, ⟨kvs', _, h4, _⟩, h5, h6, h7, _, _⟩ := h
  exact ⟨ne_of h1 h2 (by intro z; cases z), ne_of h1 h3 (by intro z; cases z), ne_of h1 h4 (by intro z; cases z), ne_of h1 h5 (by intro z; cases z), ne_of h2 h3 (by intro z; cases z), ne_of h2 h4 (by intro z; cases z), h6, h7, ne_of h3 h5 (by intro z; cases z), ne_of h4 h5 (by intro z; cases z)⟩
end
def HS.small (s : HS) : Prop := s.heard.length + s.held.length + s.lost.length < 3000
def hs0 : HS := ⟨[], [], []⟩
/-! the promises of a hearer's methods -/
section
variable (C : Addr) (ex : List (Str × V))
def spInitH : Sp := fun vs H Q _ => ∃ (p dx : Addr), vs = [.ref p] ∧ H p = some (.ins C dx []) ∧ ∀ a H', a.p = p → HAt C H' a hs0 [] → Stp [p] H a.fp H' → Q .non H'
def spExpects : Sp := fun vs H Q _ => ∃ a s ex, vs = [.ref (HA.p a)] ∧ HAt C H a s ex ∧ Q (.int s.next) H
def spHear : Sp := fun vs H Q _ => ∃ a s ex, vs = [.ref (HA.p a)] ∧ HAt C H a s ex ∧ Diff s.held ∧ s.small ∧
  ∀ l ys found H', HAt C H' a (hearS s) ex → (hearS s).heard = s.heard ++ found → Stp a.fp H (l :: a.fp) H' → H l = none → l ∉ a.fp → H' l = some (.lst ys) → Ms H' ys found → Q (.ref l) H'
def spRefuse : Sp := fun vs H Q _ => ∃ a s ex b xs ms, vs = [.ref (HA.p a), .ref b] ∧ HAt C H a s ex ∧ H b = some (.lst xs) ∧ Ms H xs ms ∧ ms.length < 1000 ∧ Fits s ms ∧ (∀ m ∈ ms, mOk m) ∧ ∀ H', Same H H' → Q .non H'
def spTakeAll : Sp := fun vs H Q _ => ∃ a s ex b xs ms, vs = [.ref (HA.p a), .ref b] ∧ HAt C H a s ex ∧ H b = some (.lst xs) ∧ Ms H xs ms ∧ ms.length < 1000 ∧ Fits s ms ∧ (∀ m ∈ ms, mOk m) ∧ Diff s.held ∧ s.heard.length + s.held.length + s.lost.length < 1000 ∧
  ∀ l ys found H', HAt C H' a (takeS s ms) ex → (takeS s ms).heard = s.heard ++ found → Stp a.fp H (l :: a.fp) H' → H l = none → l ∉ a.fp → H' l = some (.lst ys) → Ms H' ys found → Q (.ref l) H'
def spHeard : Sp := fun vs H Q _ => ∃ a s ex, vs = [.ref (HA.p a)] ∧ HAt C H a s ex ∧ ∀ l ys, H l = none → Ms (upd H l (.lst ys)) ys s.heard → Q (.ref l) (upd H l (.lst ys))
def spLost : Sp := fun vs H Q _ => ∃ a s ex, vs = [.ref (HA.p a)] ∧ HAt C H a s ex ∧ ∀ l, H l = none → Q (.ref l) (upd H l (.lst (s.lost.map V.int)))
def spGive : Sp := fun vs H Q _ => ∃ a s ex n, vs = [.ref (HA.p a), .int n] ∧ HAt C H a s ex ∧ Diff s.held ∧ s.heard.length + s.held.length < 500 ∧ s.lost.length < 500 ∧ n < 500 ∧
  ∀ l ys found H', HAt C H' a (giveS n s) ex → (giveS n s).heard = s.heard ++ found → Stp a.fp H (l :: a.fp) H' → H l = none → l ∉ a.fp → H' l = some (.lst ys) → Ms H' ys found → Q (.ref l) H'
end
end L2

namespace L2
open PySem PySem.Spec PyProof.Rows PySem.W
/-! ### rows: numbers 1, 2, .. -/
theorem Rows.at {R : List Msg} (h : Rows R) {m : Msg} (hm : m ∈ R) : ∃ (i : Nat) (hi : i < R.length), R[i] = m ∧ m.n = (i : Int) + 1 := by
  obtain ⟨i, hi, e⟩ := List.getElem_of_mem hm
  exact ⟨i, hi, e, by rw [← e]; exact h i hi⟩
theorem Rows.mem_take {R : List Msg} (h : Rows R) {m : Msg} {k : Nat} : m ∈ R.take k ↔ m ∈ R ∧ m.n ≤ (k : Int) := by
  constructor
  · intro hm
    obtain ⟨i, hi, e⟩ := List.getElem_of_mem hm
    rw [List.length_take] at hi
    rw [List.getElem_take] at e
    refine ⟨by rw [← e]; exact List.getElem_mem _, ?_⟩
    have := h i (by omega)
    rw [e] at this; omega
  · rintro ⟨hm, hn⟩
    obtain ⟨i, hi, e, en⟩ := h.at hm
    rw [List.mem_take_iff_getElem]
    exact ⟨i, by omega, e⟩
theorem Rows.uniq {R : List Msg} (h : Rows R) {a b : Msg} (ha : a ∈ R) (hb : b ∈ R) (e : a.n = b.n) : a = b := h.rise.diff.eq ha hb e
/-- what a hearer of rows is behind some of them -/
structure Tk0 (R : List Msg) (s : HS) (seen : Msg → Prop) : Prop where
  pre : s.heard = R.take s.heard.length
  lost : s.lost = []
  held : ∀ m ∈ s.held, m ∈ R ∧ s.next ≤ m.n
  dh : Diff s.held
  mem : ∀ m, (m ∈ s.heard ∨ m ∈ s.held) ↔ seen m
structure Tk (R : List Msg) (s : HS) (seen : Msg → Prop) : Prop extends Tk0 R s seen where
  gt : ∀ m ∈ s.held, s.next < m.n
theorem Tk.start {R : List Msg} : Tk R hs0 fun _ => False where
  pre := rfl
  lost := rfl
  held := fun m h => absurd h List.not_mem_nil
  dh := List.nodup_nil
  mem := fun m => by simp [hs0]
  gt := fun m h => absurd h List.not_mem_nil
theorem Tk0.next {R : List Msg} {s : HS} {seen : Msg → Prop} (t : Tk0 R s seen) : s.next = (s.heard.length : Int) + 1 := by
  show (s.heard.length : Int) + (s.lost.length : Int) + 1 = _
  rw [t.lost]; show _ + 0 + 1 = _; omega
theorem Tk0.le {R : List Msg} {s : HS} {seen : Msg → Prop} (t : Tk0 R s seen) : s.heard.length ≤ R.length := by
  have := congrArg List.length t.pre
  rw [List.length_take] at this; omega
theorem Tk0.congr {R : List Msg} {s : HS} {a b : Msg → Prop} (t : Tk0 R s a) (h : ∀ m, a m ↔ b m) : Tk0 R s b := ⟨t.pre, t.lost, t.held, t.dh, fun m => (t.mem m).trans (h m)⟩
theorem Tk.congr {R : List Msg} {s : HS} {a b : Msg → Prop} (t : Tk R s a) (h : ∀ m, a m ↔ b m) : Tk R s b := ⟨t.toTk0.congr h, t.gt⟩
theorem Tk0.subR {R : List Msg} {s : HS} {seen : Msg → Prop} (t : Tk0 R s seen) : ∀ m, m ∈ s.heard ∨ m ∈ s.held → m ∈ R := fun m h => by
  rcases h with h | h
  · rw [t.pre] at h; exact List.mem_of_mem_take h
  · exact (t.held m h).1
theorem Tk0.add {R : List Msg} (hR : Rows R) {s : HS} {seen : Msg → Prop} (t : Tk0 R s seen) {m : Msg} (hm : m ∈ R) : Tk0 R (addS s m) fun x => seen x ∨ x = m := by
  unfold addS
  by_cases h : m.n ≥ s.next
  · rw [if_pos h]
    have hs : ∀ x ∈ s.held, x.n = m.n → x = m := fun x hx e => hR.uniq (t.held x hx).1 hm e
    refine ⟨t.pre, t.lost, fun x hx => ?_, putM_diff hs t.dh, fun x => ?_⟩
    · rcases (putM_mem hs).mp hx with z | rfl
      · exact t.held x z
      · exact ⟨hm, h⟩
    · show (x ∈ s.heard ∨ x ∈ putM s.held m) ↔ _
      rw [putM_mem hs, ← t.mem x, or_assoc]
  · rw [if_neg h]
    refine t.congr fun x => ⟨.inl, fun z => ?_⟩
    rcases z with z | rfl
    · exact z
    · rw [← t.mem]
      refine .inl ?_
      rw [t.pre, hR.mem_take]
      have := t.next
      exact ⟨hm, by omega⟩
theorem Tk0.adds {R : List Msg} (hR : Rows R) : ∀ (ms : List Msg) {s : HS} {seen : Msg → Prop}, Tk0 R s seen → (∀ m ∈ ms, m ∈ R) → Tk0 R (ms.foldl addS s) fun x => seen x ∨ x ∈ ms
  | [], s, seen, t, _ => t.congr fun x => ⟨.inl, fun z => by
      rcases z with z | z
      · exact z
      · exact nomatch z⟩
  | m :: r, s, seen, t, h => by
    rw [List.foldl_cons]
    refine (Tk0.adds hR r (t.add hR (h m (by simp))) fun x hx => h x (by simp [hx])).congr fun x => ?_
    rw [List.mem_cons, or_assoc]
theorem Tk0.hear {R : List Msg} (hR : Rows R) {s : HS} {seen : Msg → Prop} (t : Tk0 R s seen) : Tk R (hearS s) seen := by
  have ⟨h, e⟩ := hearS_ind (P := fun s => Tk0 R s seen) (fun s m t e => by
    obtain ⟨hm, hn⟩ := findN_some e
    obtain ⟨hmR, _⟩ := t.held m hm
    obtain ⟨i, hi, ei, en⟩ := hR.at hmR
    have hx := t.next
    have hii : i = s.heard.length := by omega
    refine ⟨?_, t.lost, fun x hx' => ?_, dropN_diff t.dh, fun x => ?_⟩
    · show s.heard ++ [m] = R.take (s.heard ++ [m]).length
      rw [List.length_append, List.length_singleton, List.take_add_one, ← t.pre, List.getElem?_eq_getElem (by omega)]
      have : R[s.heard.length]'(by omega) = m := by subst hii; exact ei
      rw [this]; rfl
    · obtain ⟨h1, h2⟩ := dropN_mem.mp hx'
      have h3 := (t.held x h1).2
      refine ⟨(t.held x h1).1, ?_⟩
      rw [next_snoc]
      show s.next + 1 ≤ x.n
      omega
    · show (x ∈ s.heard ++ [m] ∨ x ∈ dropN s.held m.n) ↔ _
      rw [← t.mem x, List.mem_append, List.mem_singleton, dropN_mem]
      constructor
      · rintro ((z | rfl) | ⟨z, _⟩)
        · exact .inl z
        · exact .inr hm
        · exact .inr z
      · rintro (z | z)
        · exact .inl (.inl z)
        · by_cases ee : x.n = m.n
          · exact .inl (.inr (t.dh.eq z hm ee))
          · exact .inr ⟨z, ee⟩) s t
  refine ⟨h, fun m hm => ?_⟩
  have h1 := (h.held m hm).2
  have h2 := findN_none.mp e m hm
  omega
theorem Tk.take {R : List Msg} (hR : Rows R) {s : HS} {seen : Msg → Prop} (t : Tk R s seen) {ms : List Msg} (h : ∀ m ∈ ms, m ∈ R) : Tk R (takeS s ms) fun x => seen x ∨ x ∈ ms := (t.toTk0.adds hR ms h).hear hR
theorem Tk.fits {R : List Msg} (hR : Rows R) {s : HS} {seen : Msg → Prop} (t : Tk R s seen) {ms : List Msg} (h : ∀ m ∈ ms, m ∈ R) : Fits s ms :=
  ⟨fun m hm x hx e => hR.uniq (t.toTk0.subR x hx) (h m hm) e, fun m hm x hx e => hR.uniq (h x hx) (h m hm) e⟩
/-- all were seen: all are heard -/
theorem Tk.all {R : List Msg} (hR : Rows R) {s : HS} {seen : Msg → Prop} (t : Tk R s seen) (h : ∀ m ∈ R, seen m) : s.heard = R ∧ s.held = [] := by
  have hl := t.toTk0.le
  have hx := t.toTk0.next
  have e : s.heard.length = R.length := by
    by_cases z : s.heard.length < R.length
    · have hm := (t.mem _).mpr (h _ (List.getElem_mem z))
      have hn := hR _ z
      rcases hm with y | y
      · have y' : R[s.heard.length] ∈ R.take s.heard.length := by rw [← t.pre]; exact y
        rw [hR.mem_take] at y'; omega
      · have := t.gt _ y; omega
    · omega
  have e2 : s.heard = R := by rw [t.pre, e, List.take_length]
  refine ⟨e2, ?_⟩
  cases q : s.held with
  | nil => rfl
  | cons m r =>
    have hm : m ∈ s.held := by rw [q]; simp
    have h1 := t.gt m hm
    obtain ⟨i, hi, _, en⟩ := hR.at (t.held m hm).1
    omega
/-! ### what is early and what is missing are all up to the greatest -/
theorem hear_len {s : HS} (d : Diff s.held) : (hearS s).heard.length + (hearS s).held.length = s.heard.length + s.held.length := by
  refine ((hearS_ind (P := fun t => Diff t.held ∧ t.heard.length + t.held.length = s.heard.length + s.held.length) ?_ s ⟨d, rfl⟩).1).2
  rintro t m ⟨h1, h2⟩ e
  refine ⟨dropN_diff h1, ?_⟩
  have := dropN_len h1 (findN_some e).1
  show (t.heard ++ [m]).length + (dropN t.held m.n).length = _
  rw [List.length_append, List.length_singleton]; omega
theorem adds_len : ∀ (ms : List Msg) (s : HS), (ms.foldl addS s).held.length ≤ s.held.length + ms.length
  | [], s => Nat.le_refl _
  | m :: r, s => by
    rw [List.foldl_cons, List.length_cons]
    have h1 := adds_len r (addS s m)
    have h2 : (addS s m).held.length ≤ s.held.length + 1 := by
      unfold addS
      split
      · exact putM_len
      · omega
    omega
theorem Tk.len {R : List Msg} (hR : Rows R) {s : HS} {seen : Msg → Prop} (t : Tk R s seen) {ms : List Msg} (h : ∀ m ∈ ms, m ∈ R) : (takeS s ms).heard.length + (takeS s ms).held.length ≤ s.heard.length + s.held.length + ms.length := by
  have h1 := hear_len (t.toTk0.adds hR ms h).dh
  have h2 := adds_len ms s
  have h3 := congrArg List.length (adds_heard ms s)
  unfold takeS
  omega
theorem Tk.small {R : List Msg} (hR : Rows R) {s : HS} {seen : Msg → Prop} (t : Tk R s seen) (hl : R.length < 900) : ∀ m ∈ s.held, -1000 < m.n ∧ m.n < 1000 := fun m hm => by
  obtain ⟨i, hi, _, en⟩ := hR.at (t.held m hm).1
  omega
structure HearK (K : PySem.W.Frag) (mg : Str → Option Value) (C : Addr) : Prop extends HearC K C where
  mg_Hearer : mg "Hearer" = some (.ref C)
end L2

namespace L2
open PySem PySem.Spec PyProof.Rows PySem.W
/-! ### roads, over the whole -/
end L2

namespace L2
open PySem PySem.Spec PyProof.Rows PySem.W
/-! ### a hearer of rows, with numbers given up -/
structure Hw0 (R : List Msg) (s : HS) : Prop where
  sub : ∀ m, m ∈ s.heard ∨ m ∈ s.held → m ∈ R
  dh : Diff s.held
  ge : ∀ m ∈ s.held, s.next ≤ m.n
  rise : Rise s.heard
  lt : ∀ m ∈ s.heard, m.n < s.next
  cov : ∀ n : Int, 1 ≤ n → n < s.next → (∃ m ∈ s.heard, m.n = n) ∨ n ∈ s.lost
  lr : s.lost.Pairwise (· < ·)
  ll : ∀ n ∈ s.lost, 1 ≤ n ∧ n < s.next ∧ n ≤ (R.length : Int) ∧ ∀ m ∈ s.heard, m.n ≠ n
structure Hw (R : List Msg) (s : HS) : Prop extends Hw0 R s where
  gt : ∀ m ∈ s.held, s.next < m.n
theorem HS.next_pos (s : HS) : 1 ≤ s.next := by unfold HS.next; omega
theorem Hw.start (R : List Msg) : Hw R hs0 where
  sub := fun m h => by rcases h with h | h <;> exact absurd h List.not_mem_nil
  dh := List.nodup_nil
  ge := fun m h => absurd h List.not_mem_nil
  rise := .nil
  lt := fun m h => absurd h List.not_mem_nil
  cov := fun n h1 h2 => by have : hs0.next = 1 := rfl; omega
  lr := .nil
  ll := fun n h => absurd h List.not_mem_nil
  gt := fun m h => absurd h List.not_mem_nil
theorem Hw0.more {R R' : List Msg} {s : HS} (h : Hw0 R s) (hs : ∀ m ∈ R, m ∈ R') (hl : R.length ≤ R'.length) : Hw0 R' s :=
  ⟨fun m hm => hs m (h.sub m hm), h.dh, h.ge, h.rise, h.lt, h.cov, h.lr, fun n hn => by obtain ⟨a, b, c, d⟩ := h.ll n hn; exact ⟨a, b, by omega, d⟩⟩
theorem Hw.more {R R' : List Msg} {s : HS} (h : Hw R s) (hs : ∀ m ∈ R, m ∈ R') (hl : R.length ≤ R'.length) : Hw R' s := ⟨h.toHw0.more hs hl, h.gt⟩
theorem Hw0.hear {R : List Msg} {s : HS} (h : Hw0 R s) : Hw R (hearS s) := by
  have ⟨h1, e⟩ := hearS_ind (P := fun s => Hw0 R s) (fun t m h e => by
    obtain ⟨hm, hn⟩ := findN_some e
    have hx : HS.next ⟨t.heard ++ [m], dropN t.held m.n, t.lost⟩ = t.next + 1 := next_snoc
    refine ⟨fun x hx => ?_, dropN_diff h.dh, fun x hx' => ?_, ?_, fun x hx' => ?_, fun n h1 h2 => ?_, h.lr, fun n hn' => ?_⟩
    · rcases hx with z | z
      · rcases List.mem_append.mp z with y | y
        · exact h.sub x (.inl y)
        · rw [List.mem_singleton] at y; rw [y]; exact h.sub m (.inr hm)
      · exact h.sub x (.inr (dropN_mem.mp z).1)
    · obtain ⟨a, b⟩ := dropN_mem.mp hx'
      have := h.ge x a
      rw [hx]; omega
    · refine List.pairwise_append.mpr ⟨h.rise, List.pairwise_singleton _ _, fun x hx' y hy => ?_⟩
      rw [List.mem_singleton] at hy
      rw [hy]; have := h.lt x hx'; omega
    · rw [hx]
      rcases List.mem_append.mp hx' with y | y
      · have := h.lt x y; omega
      · rw [List.mem_singleton] at y; rw [y]; omega
    · rw [hx] at h2
      by_cases z : n = t.next
      · exact .inl ⟨m, List.mem_append.mpr (.inr (by simp)), by omega⟩
      · rcases h.cov n h1 (by omega) with ⟨x, a, b⟩ | y
        · exact .inl ⟨x, List.mem_append.mpr (.inl a), b⟩
        · exact .inr y
    · obtain ⟨a, b, c, d⟩ := h.ll n hn'
      refine ⟨a, by rw [hx]; omega, c, fun x hx' => ?_⟩
      rcases List.mem_append.mp hx' with y | y
      · exact d x y
      · rw [List.mem_singleton] at y; rw [y]; omega) s h
  refine ⟨h1, fun m hm => ?_⟩
  have a := h1.ge m hm
  have b := findN_none.mp e m hm
  omega
theorem Hw.lose {R : List Msg} {s : HS} (h : Hw R s) (hn : s.next ≤ (R.length : Int)) : Hw0 R (lose s) := by
  have hx := lose_next s
  refine ⟨h.sub, h.dh, fun m hm => ?_, h.rise, fun m hm => ?_, fun n h1 h2 => ?_, ?_, fun n hn' => ?_⟩
  · rw [hx]; have := h.gt m hm; omega
  · rw [hx]; have := h.lt m hm; omega
  · rw [hx] at h2
    by_cases z : n = s.next
    · exact .inr (List.mem_append.mpr (.inr (by rw [z]; simp)))
    · rcases h.cov n h1 (by omega) with y | y
      · exact .inl y
      · exact .inr (List.mem_append.mpr (.inl y))
  · refine List.pairwise_append.mpr ⟨h.lr, List.pairwise_singleton _ _, fun a ha b hb => ?_⟩
    rw [List.mem_singleton] at hb
    rw [hb]; exact (h.ll a ha).2.1
  · rw [hx]
    rcases List.mem_append.mp hn' with y | y
    · obtain ⟨a, b, c, d⟩ := h.ll n y
      exact ⟨a, by omega, c, d⟩
    · rw [List.mem_singleton] at y
      have := s.next_pos
      exact ⟨by omega, by omega, by omega, fun m hm => by have := h.lt m hm; omega⟩
theorem Hw0.add {R : List Msg} (hR : Rows R) {s : HS} (h : Hw0 R s) {m : Msg} (hm : m ∈ R) : Hw0 R (addS s m) := by
  unfold addS
  by_cases z : m.n ≥ s.next
  · rw [if_pos z]
    have hs : ∀ x ∈ s.held, x.n = m.n → x = m := fun x hx e => hR.uniq (h.sub x (.inr hx)) hm e
    refine ⟨fun x hx => ?_, putM_diff hs h.dh, fun x hx => ?_, h.rise, h.lt, h.cov, h.lr, h.ll⟩
    · rcases hx with y | y
      · exact h.sub x (.inl y)
      · rcases (putM_mem hs).mp y with w | w
        · exact h.sub x (.inr w)
        · rw [w]; exact hm
    · rcases (putM_mem hs).mp hx with w | w
      · exact h.ge x w
      · rw [w]; exact z
  · rw [if_neg z]; exact h
theorem Hw0.adds {R : List Msg} (hR : Rows R) : ∀ (ms : List Msg) {s : HS}, Hw0 R s → (∀ m ∈ ms, m ∈ R) → Hw0 R (ms.foldl addS s)
  | [], _, h, _ => h
  | m :: r, s, h, hm => by rw [List.foldl_cons]; exact Hw0.adds hR r (h.add hR (hm m (by simp))) fun x hx => hm x (by simp [hx])
theorem Hw.take {R : List Msg} (hR : Rows R) {s : HS} (h : Hw R s) {ms : List Msg} (hm : ∀ m ∈ ms, m ∈ R) : Hw R (takeS s ms) := (h.toHw0.adds hR ms hm).hear
theorem Hw0.fits {R : List Msg} (hR : Rows R) {s : HS} (h : Hw0 R s) {ms : List Msg} (hm : ∀ m ∈ ms, m ∈ R) : Fits s ms :=
  ⟨fun m hm' x hx e => hR.uniq (h.sub x hx) (hm m hm') e, fun m hm' x hx e => hR.uniq (hm x hx) (hm m hm') e⟩
/-- who is heard or held stays so -/
theorem hear_mem2 {s : HS} (d : Diff s.held) : ∀ m, (m ∈ (hearS s).heard ∨ m ∈ (hearS s).held) ↔ (m ∈ s.heard ∨ m ∈ s.held) := by
  refine ((hearS_ind (P := fun t => Diff t.held ∧ ∀ m, (m ∈ t.heard ∨ m ∈ t.held) ↔ (m ∈ s.heard ∨ m ∈ s.held)) ?_ s ⟨d, fun _ => Iff.rfl⟩).1).2
  rintro t m ⟨h1, h3⟩ e
  obtain ⟨hm, hn⟩ := findN_some e
  refine ⟨dropN_diff h1, fun x => ?_⟩
  rw [← h3 x]
  show (x ∈ t.heard ++ [m] ∨ x ∈ dropN t.held m.n) ↔ _
  rw [List.mem_append, List.mem_singleton, dropN_mem]
  constructor
  · rintro ((z | rfl) | ⟨z, _⟩)
    · exact .inl z
    · exact .inr hm
    · exact .inr z
  · rintro (z | z)
    · exact .inl (.inl z)
    · by_cases ee : x.n = m.n
      · exact .inl (.inr (h1.eq z hm ee))
      · exact .inr ⟨z, ee⟩
/-- what is taken and is not behind is heard or held -/
theorem Hw.take_mem {R : List Msg} (hR : Rows R) {s : HS} (h : Hw R s) {ms : List Msg} (hm : ∀ m ∈ ms, m ∈ R) : ∀ x, (x ∈ (takeS s ms).heard ∨ x ∈ (takeS s ms).held) ↔ (x ∈ s.heard ∨ x ∈ s.held ∨ (x ∈ ms ∧ s.next ≤ x.n)) := by
  have key : ∀ (ms : List Msg) {s : HS}, Hw0 R s → (∀ m ∈ ms, m ∈ R) → ∀ x, (x ∈ (ms.foldl addS s).heard ∨ x ∈ (ms.foldl addS s).held) ↔ (x ∈ s.heard ∨ x ∈ s.held ∨ (x ∈ ms ∧ s.next ≤ x.n)) := by
    intro ms
    induction ms with
    | nil => intro s _ _ x; simp
    | cons m r ih =>
      intro s h hm x
      rw [List.foldl_cons, ih (h.add hR (hm m (by simp))) (fun y hy => hm y (by simp [hy])) x, addS_heard, addS_next]
      have hs : ∀ x ∈ s.held, x.n = m.n → x = m := fun x hx e => hR.uniq (h.sub x (.inr hx)) (hm m (by simp)) e
      have e : x ∈ (addS s m).held ↔ x ∈ s.held ∨ (x = m ∧ s.next ≤ x.n) := by
        unfold addS
        by_cases z : m.n ≥ s.next
        · rw [if_pos z]
          show x ∈ putM s.held m ↔ _
          rw [putM_mem hs]
          exact or_congr Iff.rfl ⟨fun y => ⟨y, by rw [y]; exact z⟩, fun y => y.1⟩
        · rw [if_neg z]
          exact ⟨.inl, fun y => by rcases y with y | ⟨rfl, y⟩; exact y; exact absurd y z⟩
      rw [e, List.mem_cons]
      constructor
      · rintro (z | (z | z) | z)
        · exact .inl z
        · exact .inr (.inl z)
        · exact .inr (.inr ⟨.inl z.1, z.2⟩)
        · exact .inr (.inr ⟨.inr z.1, z.2⟩)
      · rintro (z | z | ⟨z | z, y⟩)
        · exact .inl z
        · exact .inr (.inl (.inl z))
        · exact .inr (.inl (.inr ⟨z, y⟩))
        · exact .inr (.inr ⟨z, y⟩)
  intro x
  unfold takeS
  rw [hear_mem2 (h.toHw0.adds hR ms hm).dh]
  exact key ms h.toHw0 hm x
theorem take_lost (s : HS) (ms : List Msg) : (takeS s ms).lost = s.lost := by unfold takeS; rw [hearS_lost, adds_lost]
theorem take_next (s : HS) (ms : List Msg) : s.next ≤ (takeS s ms).next := by unfold takeS; have := hearS_next (ms.foldl addS s); rw [adds_next] at this; exact this
/-- giving up, by steps -/
theorem giveS_ind {P : HS → Prop} {n : Int} (hs : ∀ s, P s → s.next < n → P (hearS (lose s))) : ∀ s, P s → P (giveS n s)
  | s, h => by
    by_cases z : s.next < n
    · rw [giveS_lt z]
      exact giveS_ind hs (hearS (lose s)) (hs s h z)
    · rw [giveS_ge z]; exact h
termination_by s => (n - s.next).toNat
decreasing_by
  have h1 := hearS_next (lose s)
  rw [lose_next] at h1
  omega
theorem giveS_end (n : Int) (s : HS) : n ≤ (giveS n s).next := by
  have key : ∀ (k : Nat) (s : HS), (n - s.next).toNat ≤ k → n ≤ (giveS n s).next := by
    intro k
    induction k with
    | zero => intro s hk; rw [giveS_ge (by omega)]; omega
    | succ k ih =>
      intro s hk
      by_cases z : s.next < n
      · rw [giveS_lt z]
        have h1 := hearS_next (lose s)
        rw [lose_next] at h1
        exact ih _ (by omega)
      · rw [giveS_ge z]; omega
  exact key _ s (Nat.le_refl _)
theorem Hw.give {R : List Msg} {s : HS} (h : Hw R s) {n : Int} (hn : n ≤ (R.length : Int) + 1) : Hw R (giveS n s) := giveS_ind (P := Hw R) (fun t ht hlt => (ht.lose (by omega)).hear) s h
theorem give_next (n : Int) (s : HS) : s.next ≤ (giveS n s).next := giveS_ind (P := fun t => s.next ≤ t.next) (fun t ht _ => by have := hearS_next (lose t); rw [lose_next] at this; omega) s (Int.le_refl _)
theorem give_mem {n : Int} {s : HS} (d : Diff s.held) : Diff (giveS n s).held ∧ (∀ m, (m ∈ (giveS n s).heard ∨ m ∈ (giveS n s).held) ↔ (m ∈ s.heard ∨ m ∈ s.held)) ∧ (giveS n s).heard.length + (giveS n s).held.length = s.heard.length + s.held.length := by
  refine giveS_ind (P := fun t => Diff t.held ∧ (∀ m, (m ∈ t.heard ∨ m ∈ t.held) ↔ (m ∈ s.heard ∨ m ∈ s.held)) ∧ t.heard.length + t.held.length = s.heard.length + s.held.length) (fun t ⟨h1, h2, h3⟩ _ => ?_) s ⟨d, fun _ => Iff.rfl, rfl⟩
  have hl : Diff (lose t).held := h1
  refine ⟨(hearS_ind (P := fun u => Diff u.held) (fun u m hu _ => dropN_diff hu) (lose t) hl).1, fun m => (hear_mem2 hl m).trans (h2 m), ?_⟩
  rw [hear_len hl]; exact h3
theorem give_lost_new {n : Int} {s : HS} : ∀ x ∈ (giveS n s).lost, x ∈ s.lost ∨ (s.next ≤ x ∧ x < n) := by
  refine (giveS_ind (P := fun t => s.next ≤ t.next ∧ ∀ x ∈ t.lost, x ∈ s.lost ∨ (s.next ≤ x ∧ x < n)) (fun t ⟨h1, h2⟩ hlt => ?_) s ⟨Int.le_refl _, fun _ h => .inl h⟩).2
  refine ⟨by have := hearS_next (lose t); rw [lose_next] at this; omega, fun x hx => ?_⟩
  rw [hearS_lost] at hx
  rcases List.mem_append.mp hx with z | z
  · exact h2 x z
  · rw [List.mem_singleton] at z; exact .inr ⟨by omega, by omega⟩
theorem give_lost_old {n : Int} {s : HS} : ∀ x ∈ s.lost, x ∈ (giveS n s).lost := by
  refine giveS_ind (P := fun t => ∀ x ∈ s.lost, x ∈ t.lost) (fun t h _ x hx => ?_) s fun _ h => h
  rw [hearS_lost]
  exact List.mem_append.mpr (.inl (h x hx))
/-- which are lost: those that were, and those between that are not held -/
theorem Hw.give_lost {R : List Msg} {s : HS} (h : Hw R s) {n : Int} (hn : n ≤ (R.length : Int) + 1) (x : Int) : x ∈ (giveS n s).lost ↔ x ∈ s.lost ∨ (s.next ≤ x ∧ x < n ∧ ∀ m ∈ s.held, m.n ≠ x) := by
  have h' := h.give hn
  obtain ⟨_, hm, _⟩ := give_mem (n := n) h.dh
  have he := giveS_end n s
  have hp := s.next_pos
  constructor
  · intro hx
    rcases give_lost_new x hx with z | ⟨z1, z2⟩
    · exact .inl z
    · refine .inr ⟨z1, z2, fun m hm' e => ?_⟩
      obtain ⟨_, a, _, b⟩ := h'.ll x hx
      rcases (hm m).mpr (.inr hm') with y | y
      · exact b m y e
      · have := h'.gt m y; omega
  · rintro (z | ⟨z1, z2, z3⟩)
    · exact give_lost_old x z
    · rcases h'.cov x (by omega) (by omega) with ⟨m, hm', e⟩ | y
      · rcases (hm m).mp (.inl hm') with w | w
        · have := h.lt m w; omega
        · exact absurd e (z3 m w)
      · exact y
/-! ### catching up -/
/-- the hearer behind it: k kept of all -/
def catchS (k : Int) (all : List Msg) (s : HS) : HS :=
  takeS (if missedF k (s.next - 1) all > 0 then giveS ((all.length : Int) - ((lastK k all).length : Int) + 1) s else s) ((lastK k all).filter fun m => decide (m.n > s.next - 1))
theorem lastK_mem {k : Int} {all : List Msg} (h : Rows all) {m : Msg} (hm : m ∈ all) (hn : (all.length : Int) - ((lastK k all).length : Int) + 1 ≤ m.n) : m ∈ lastK k all := by
  unfold lastK
  rw [lastK_len] at hn
  obtain ⟨i, hi, e, en⟩ := h.at hm
  rw [List.mem_drop_iff_getElem]
  refine ⟨i - (all.length - k.toNat), by omega, ?_⟩
  subst e
  congr 1
  omega
theorem Hw.catch {k : Int} {all : List Msg} (hR : Rows all) (hk : 0 ≤ k) {s : HS} (h : Hw all s) (hn : s.next ≤ (all.length : Int) + 1) :
    Hw all (catchS k all s) ∧ (catchS k all s).next = (all.length : Int) + 1 ∧ (catchS k all s).held = [] ∧
    (∀ x, x ∈ (catchS k all s).lost ↔ x ∈ s.lost ∨ (s.next ≤ x ∧ x < (all.length : Int) - ((lastK k all).length : Int) + 1 ∧ ∀ m ∈ s.held, m.n ≠ x)) := by
  have hll := lastK_len k all
  generalize hold : (all.length : Int) - ((lastK k all).length : Int) + 1 = old at *
  have hfR : ∀ m ∈ (lastK k all).filter (fun m => decide (m.n > s.next - 1)), m ∈ all := fun m hm => List.mem_of_mem_drop (List.mem_filter.mp hm).1
  have hms : missedF k (s.next - 1) all > 0 ↔ s.next < old := by
    have e : (all.length : Int) - ((lastK k all).length : Int) + 1 - 1 - (s.next - 1) = old - s.next := by omega
    unfold missedF
    rw [e]
    split <;> omega
  have hole : old ≤ (all.length : Int) + 1 := by omega
  unfold catchS
  rw [hold]
  generalize hs1 : (if missedF k (s.next - 1) all > 0 then giveS old s else s) = s1
  have f1 : Hw all s1 ∧ old ≤ s1.next ∧ s.next ≤ s1.next ∧ (∀ x, x ∈ s1.lost ↔ x ∈ s.lost ∨ (s.next ≤ x ∧ x < old ∧ ∀ m ∈ s.held, m.n ≠ x)) := by
    by_cases z : missedF k (s.next - 1) all > 0
    · rw [← hs1, if_pos z]
      exact ⟨h.give hole, giveS_end old s, give_next old s, h.give_lost hole⟩
    · rw [← hs1, if_neg z]
      have z' : ¬ s.next < old := fun y => z (hms.mpr y)
      exact ⟨h, by omega, Int.le_refl _, fun x => ⟨.inl, fun y => by rcases y with y | ⟨a, b, _⟩; exact y; omega⟩⟩
  obtain ⟨hw1, ho1, hn1, hl1⟩ := f1
  have hw2 := hw1.take hR hfR
  have hmem := hw1.take_mem hR hfR
  have hnx := take_next s1 ((lastK k all).filter fun m => decide (m.n > s.next - 1))
  have hlo := take_lost s1 ((lastK k all).filter fun m => decide (m.n > s.next - 1))
  generalize takeS s1 ((lastK k all).filter fun m => decide (m.n > s.next - 1)) = s2 at hw2 hmem hnx hlo
  have up : s2.next ≤ (all.length : Int) + 1 := by
    have hp := s2.next_pos
    by_cases z : s2.next = 1
    · omega
    · rcases hw2.cov (s2.next - 1) (by omega) (by omega) with ⟨m, hm, e⟩ | y
      · obtain ⟨i, hi, _, en⟩ := hR.at (hw2.sub m (.inl hm)); omega
      · have := (hw2.ll _ y).2.2.1; omega
  have dn : ¬ s2.next ≤ (all.length : Int) := fun z => by
    have hp := s2.next_pos
    have hi : (s2.next - 1).toNat < all.length := by omega
    have en := hR _ hi
    have hmR := List.getElem_mem hi
    have : all[(s2.next - 1).toNat] ∈ s2.heard ∨ all[(s2.next - 1).toNat] ∈ s2.held := by
      rw [hmem]
      refine .inr (.inr ⟨List.mem_filter.mpr ⟨lastK_mem hR hmR (by omega), decide_eq_true (by omega)⟩, by omega⟩)
    rcases this with y | y
    · have := hw2.lt _ y; omega
    · have := hw2.gt _ y; omega
  refine ⟨hw2, by omega, ?_, fun x => by rw [hlo]; exact hl1 x⟩
  cases q : s2.held with
  | nil => rfl
  | cons m r =>
    have hm : m ∈ s2.held := by rw [q]; simp
    have := hw2.gt m hm
    obtain ⟨i, hi, _, en⟩ := hR.at (hw2.sub m (.inr hm))
    omega
theorem Hw0.up {R : List Msg} (hR : Rows R) {s : HS} (h : Hw0 R s) : s.next ≤ (R.length : Int) + 1 := by
  have hp := s.next_pos
  by_cases z : s.next = 1
  · omega
  · rcases h.cov (s.next - 1) (by omega) (by omega) with ⟨m, hm, e⟩ | y
    · obtain ⟨i, hi, _, en⟩ := hR.at (h.sub m (.inl hm)); omega
    · have := (h.ll _ y).2.2.1; omega
theorem Hw.catch_mem {k : Int} {all : List Msg} (hR : Rows all) {s : HS} (h : Hw all s) : ∀ m, m ∈ s.heard ∨ m ∈ s.held → m ∈ (catchS k all s).heard ∨ m ∈ (catchS k all s).held := by
  intro m hm
  have hfR : ∀ m ∈ (lastK k all).filter (fun m => decide (m.n > s.next - 1)), m ∈ all := fun m hm => List.mem_of_mem_drop (List.mem_filter.mp hm).1
  have hll := lastK_len k all
  unfold catchS
  split
  · rw [(h.give (by omega)).take_mem hR hfR]
    rcases ((give_mem (n := (all.length : Int) - ((lastK k all).length : Int) + 1) h.dh).2.1 m).mpr hm with z | z
    · exact .inl z
    · exact .inr (.inl z)
  · rw [h.take_mem hR hfR]
    rcases hm with z | z
    · exact .inl z
    · exact .inr (.inl z)
end L2
namespace L2
open PySem PySem.Spec PyProof.Rows PySem.W
theorem TAt.stp {C : Addr} {H H' : Hp} {p : Addr} {k r : Int} {all : List Msg} {s d : Addr} {ps ps' : List Addr} (h : TAt C H p k r all s d) (st : Stp ps H ps' H') (hd : ∀ c ∈ [p, s, d], c ∉ ps) : TAt C H' p k r all s d := by
  obtain ⟨⟨dx, h1⟩, ⟨ys, h2, h3⟩, ⟨kvs, h4, h5⟩⟩ := h
  exact ⟨⟨dx, st.keep h1 (hd _ (by simp))⟩, ⟨ys, st.keep h2 (hd _ (by simp)), h3.step st⟩, ⟨kvs, st.keep h4 (hd _ (by simp)), h5.tups st.tup⟩⟩
theorem TAt.live {C : Addr} {H : Hp} {p : Addr} {k r : Int} {all : List Msg} {s d : Addr} (h : TAt C H p k r all s d) : ∀ c ∈ [p, s, d], ∃ o, H c = some o := by
  obtain ⟨⟨dx, h1⟩, ⟨ys, h2, h3⟩, ⟨kvs, h4, h5⟩⟩ := h
  intro c hc
  simp only [List.mem_cons, List.not_mem_nil, or_false] at hc
  rcases hc with rfl | rfl | rfl
  · exact ⟨_, h1⟩
  · exact ⟨_, h2⟩
  · exact ⟨_, h4⟩
theorem TAt.out {C : Addr} {H H' : Hp} {p : Addr} {k r : Int} {all : List Msg} {s d : Addr} {ps ps' : List Addr} (h : TAt C H p k r all s d) (st : Stp ps H ps' H') (hd : ∀ c ∈ [p, s, d], c ∉ ps) : ∀ c ∈ [p, s, d], c ∉ ps' := fun c hc => by
  obtain ⟨o, ho⟩ := h.live c hc
  exact st.out ho (hd c hc)
end L2

namespace L2
open PySem PySem.Spec PyProof.Rows PySem.W
/-! ### sum(xs), xs.index(n) of ints -/
section
variable {X : Cx}
end
/-! ### comprehensions over ints -/
def IFlt (H : Hp) (ns : List Int) (p : Int → Bool) (f : Int → V) : Nat → List V → Hp → Prop := fun i ys H2 => H2 = H ∧ ys = ((ns.take i).filter p).map f
section
variable {K : PySem.W.Frag} {a : Addr} {ns : List Int} {g : TG} {tc : TT} {te : TE} {τ : St} {H : Hp} {f : Int → V} {p : Int → Bool}
theorem IFlt.zero : IFlt H ns p f 0 [] H := ⟨rfl, by simp⟩
theorem IFlt.next {i : Nat} (hi : i < ns.length) {ys : List V} (h : ys = ((ns.take i).filter p).map f) : (p ns[i] = true → ys ++ [f ns[i]] = ((ns.take (i + 1)).filter p).map f) ∧ (p ns[i] = false → ys = ((ns.take (i + 1)).filter p).map f) := by
  subst h
  rw [List.take_add_one, List.getElem?_eq_getElem hi]
  refine ⟨fun hp => ?_, fun hp => ?_⟩
  · rw [Option.toList_some, List.filter_append, List.map_append, List.filter_cons_of_pos hp]; rfl
  · rw [Option.toList_some, List.filter_append, List.map_append, List.filter_cons_of_neg (by rw [hp]; decide)]; simp
theorem IFlt.step (ha : H a = some (.lst (ns.map V.int)))
    (hs : ∀ n (R : VK) (N : Hp → Prop), n ∈ ns → (p n = true → R (f n) H) → (p n = false → N H) → g (.int n) τ H fun σ4 H4 => tc σ4 H4 fun b H5 => if b = true then te σ4 H5 R else N H5) :
    ∀ i ys H2, i < ns.length → IFlt H ns p f i ys H2 → (Itl K a).go i H2 ∧ ∀ x H3, (Itl K a).yld i H2 x H3 → g x τ H3 fun σ4 H4 => tc σ4 H4 fun b H5 => if b = true then te σ4 H5 fun y H6 => IFlt H ns p f (i + 1) (ys ++ [y]) H6 else IFlt H ns p f (i + 1) ys H5 := by
  rintro i ys H2 hi ⟨rfl, hy⟩
  have ec : (ns.map V.int)[i]? = some (V.int ns[i]) := by rw [List.getElem?_map, List.getElem?_eq_getElem hi]; rfl
  refine ⟨⟨_, .int ns[i], SqL.ofL ha, ec⟩, ?_⟩
  rintro x H3 ⟨rfl, hx⟩
  have hx' := hx _ (SqL.ofL ha)
  rw [ec] at hx'
  obtain rfl := Option.some.inj hx'
  obtain ⟨n1, n2⟩ := IFlt.next (p := p) (f := f) hi hy
  exact hs _ _ _ (List.getElem_mem hi) (fun hp => ⟨rfl, n1 hp⟩) (fun hp => ⟨rfl, n2 hp⟩)
theorem IFlt.done (ha : H a = some (.lst (ns.map V.int))) {ys : List V} {H2 : Hp} (h : IFlt H ns p f ns.length ys H2) : (Itl K a).stop ns.length H2 ∧ H = H2 ∧ ys = (ns.filter p).map f := by
  obtain ⟨rfl, rfl⟩ := h
  rw [List.take_length]
  exact ⟨⟨_, SqL.ofL ha, by rw [List.length_map]; exact Nat.le_refl _⟩, rfl, rfl⟩
end
/-- over a range: what is told of each number, the heap may grow -/
def IRng (H : Hp) (lo : Int) (f : Int → V) : Nat → List V → Hp → Prop := fun i ys H2 => Same H H2 ∧ ys = (List.range i).map fun (j : Nat) => f (lo + (j : Int))
section
variable {g : TG} {tc : TT} {te : TE} {τ : St} {H : Hp} {f : Int → V} {lo : Int} {n : Nat}
theorem IRng.zero : IRng H lo f 0 [] H := ⟨Same.refl H, rfl⟩
theorem IRng.step (hs : ∀ (j : Nat) H2 (R : VK) (N : Hp → Prop), j < n → Same H H2 → (∀ H3, Same H2 H3 → R (f (lo + (j : Int))) H3) → g (.int (lo + (j : Int))) τ H2 fun σ4 H4 => tc σ4 H4 fun b H5 => if b = true then te σ4 H5 R else N H5) :
    ∀ i ys H2, i < n → IRng H lo f i ys H2 → (Itr lo n).go i H2 ∧ ∀ x H3, (Itr lo n).yld i H2 x H3 → g x τ H3 fun σ4 H4 => tc σ4 H4 fun b H5 => if b = true then te σ4 H5 fun y H6 => IRng H lo f (i + 1) (ys ++ [y]) H6 else IRng H lo f (i + 1) ys H5 := by
  rintro i ys H2 hi ⟨s2, rfl⟩
  refine ⟨hi, ?_⟩
  rintro x H3 ⟨rfl, rfl⟩
  refine hs i _ _ _ hi s2 fun H4 s4 => ⟨s2.trans s4, ?_⟩
  rw [List.range_succ, List.map_append]; rfl
end
end L2

namespace L2
open PySem PySem.Spec PyProof.Rows PySem.W
/-! ### try .. except C: that keeps the names' values -/
section
variable {X : Cx} {CX : CXT} {k : Nat} {f C : Addr} {fd : FuncData} {ps : List Str} {sp : Sp} {E : XK} {m : Str} {p pos apos : Pos} {e o : Expr} {es : List Expr} {ta : TE} {t : TA} {σ0 : St}
end
section
variable {X : Cx} {body : List Stmt} {x : Str} {b0 : Stmt} {suite : List Stmt} {np hpos pos : Pos} {tb : XK → St → TS} {ts : TS} {C : Addr}
end
end L2

namespace L2
open PySem PySem.Spec PyProof.Rows PySem.W
/-! ### a window -/
structure WS where
  room : Int
  way : List Msg
  rows : List Msg
  arr : Int
def nF (room : Int) (w r : Addr) (a : Int) : List (Str × V) := [("room", .int room), ("on_way", .ref w), ("row", .ref r), ("arrived", .int a)]
section
variable {room : Int} {w r : Addr} {a : Int}
end
structure WAt (C : Addr) (H : Hp) (p : Addr) (s : WS) (w r : Addr) : Prop where
  ob : ∃ dx, H p = some (.ins C dx (nF s.room w r s.arr))
  wy : ∃ ys, H w = some (.lst ys) ∧ Ms H ys s.way
  ro : ∃ ys, H r = some (.lst ys) ∧ Ms H ys s.rows
  ne : w ≠ r
section
variable {C : Addr} {H H' : Hp} {p : Addr} {s : WS} {w r : Addr}
theorem WAt.step {ps ps' : List Addr} (h : WAt C H p s w r) (st : Stp ps H ps' H') (hd : ∀ c ∈ [p, w, r], c ∉ ps) : WAt C H' p s w r := by
  obtain ⟨⟨dx, h1⟩, ⟨ys, h2, h3⟩, ⟨zs, h4, h5⟩, h6⟩ := h
  exact ⟨⟨dx, st.keep h1 (hd _ (by simp))⟩, ⟨ys, st.keep h2 (hd _ (by simp)), h3.step st⟩, ⟨zs, st.keep h4 (hd _ (by simp)), h5.step st⟩, h6⟩
theorem WAt.out {ps ps' : List Addr} (h : WAt C H p s w r) (st : Stp ps H ps' H') (hd : ∀ c ∈ [p, w, r], c ∉ ps) : ∀ c ∈ [p, w, r], c ∉ ps' := by
  obtain ⟨⟨dx, h1⟩, ⟨ys, h2, h3⟩, ⟨zs, h4, h5⟩, h6⟩ := h
  intro c hc
  have hc' := hd c hc
  simp only [List.mem_cons, List.not_mem_nil, or_false] at hc
  rcases hc with rfl | rfl | rfl
  · exact st.out h1 hc'
  · exact st.out h2 hc'
  · exact st.out h4 hc'
theorem WAt.same (h : WAt C H p s w r) (e : Same H H') : WAt C H' p s w r := h.step (e.step []) fun _ _ => List.not_mem_nil
theorem WAt.free (h : WAt C H p s w r) {c : Addr} (hc : H c = none) : c ∉ [p, w, r] := by
  obtain ⟨⟨dx, h1⟩, ⟨ys, h2, h3⟩, ⟨zs, h4, h5⟩, h6⟩ := h
  simp [(ne_of_none h1 hc).symm, (ne_of_none h2 hc).symm, (ne_of_none h4 hc).symm]
theorem WAt.npr (h : WAt C H p s w r) : p ≠ r := by
  obtain ⟨⟨dx, h1⟩, ⟨ys, h2, h3⟩, ⟨zs, h4, h5⟩, h6⟩ := h
  exact ne_of h1 h4 (by intro z; cases z)
end
end L2

namespace L2
open PySem PySem.Spec PyProof.Rows PySem.W
/-! ### a text times an int -/
section
variable {X : Cx}
def rMulS : R2 := fun x y H Q => ∃ z k, x = .str z ∧ y = .int k ∧ MulOk z k ∧ Q (.str (PySem.Txt.mul z k)) H
theorem op_mulS : OpR X (binaryOp .Mult) rMulS := by
  intro pins s σ H x y v u Q I rx ry h
  obtain ⟨z, k, rfl, rfl, ok, q⟩ := h
  obtain ⟨t, rfl⟩ := rx
  obtain ⟨t', rfl⟩ := ry
  exact SB.mul ok (fun t' tk => ⟨.str _, H, I.tok _, ⟨_, rfl⟩, q⟩)
end
/-! ### steps beside others -/
theorem Stp.fr {f f' g : List Addr} {H H' : Hp} (st : Stp f H f' H') : Stp (f ++ g) H (f' ++ g) H' :=
  st.weak (fun c h => List.mem_append_left _ h) fun c h => (List.mem_append.mp h).elim .inl fun z => .inr (List.mem_append_right _ z)
theorem Stp.fl {f f' g : List Addr} {H H' : Hp} (st : Stp f H f' H') : Stp (g ++ f) H (g ++ f') H' :=
  st.weak (fun c h => List.mem_append_right _ h) fun c h => (List.mem_append.mp h).elim (fun z => .inr (List.mem_append_left _ z)) .inl
theorem Stp.tl {f f' : List Addr} {l : Addr} {H H' : Hp} (st : Stp f H (l :: f') H') : Stp f H f' H' := ⟨st.1, st.2, fun c hc => st.3 c (List.mem_cons_of_mem _ hc)⟩
/-! ### a window of rows -/
end L2

namespace L2
open PySem PySem.Spec PyProof.Rows PySem.W
/-! ### a set's table: its places rise -/
def Ris (xs : Array Nat) : Prop := ∀ (i j : Nat) (hi : i < xs.size) (hj : j < xs.size), i < j → xs[i] < xs[j]
theorem Ris.le {xs : Array Nat} (h : Ris xs) {i j : Nat} (hi : i < xs.size) (hj : j < xs.size) (e : i ≤ j) : xs[i] ≤ xs[j] := by
  rcases Nat.lt_or_eq_of_le e with z | z
  · exact Nat.le_of_lt (h i j hi hj z)
  · subst z; exact Nat.le_refl _
theorem below_go {xs : Array Nat} {j : Nat} (hr : Ris xs) : ∀ (fuel lo hi : Nat), hi - lo ≤ fuel → lo ≤ hi → hi ≤ xs.size → (∀ i (h : i < xs.size), i < lo → xs[i] < j) → (∀ i (h : i < xs.size), hi ≤ i → j ≤ xs[i]) →
    SetTable.below.go xs j fuel lo hi ≤ xs.size ∧ (∀ i (h : i < xs.size), i < SetTable.below.go xs j fuel lo hi → xs[i] < j) ∧ (∀ i (h : i < xs.size), SetTable.below.go xs j fuel lo hi ≤ i → j ≤ xs[i])
  | 0, lo, hi, hf, hl, hs, h1, h2 => by
    have e : hi = lo := by omega
    subst e
    exact ⟨hs, h1, h2⟩
  | fuel + 1, lo, hi, hf, hl, hs, h1, h2 => by
    unfold SetTable.below.go
    by_cases z : lo < hi
    · rw [if_pos z]
      have hm : (lo + hi) / 2 < xs.size := by omega
      dsimp only
      rw [Array.getD_eq_getD_getElem?, Array.getElem?_eq_getElem hm, Option.getD_some]
      by_cases y : xs[(lo + hi) / 2] < j
      · rw [if_pos y]
        exact below_go hr fuel _ _ (by omega) (by omega) hs (fun i h hi => Nat.lt_of_le_of_lt (hr.le h hm (by omega)) y) h2
      · rw [if_neg y]
        exact below_go hr fuel _ _ (by omega) (by omega) (by omega) h1 (fun i h hi => Nat.le_trans (Nat.not_lt.mp y) (hr.le hm h hi))
    · rw [if_neg z]
      have e : hi = lo := by omega
      subst e
      exact ⟨hs, h1, h2⟩
theorem below_spec {xs : Array Nat} (hr : Ris xs) (j : Nat) : SetTable.below xs j ≤ xs.size ∧ (∀ i (h : i < xs.size), i < SetTable.below xs j → xs[i] < j) ∧ (∀ i (h : i < xs.size), SetTable.below xs j ≤ i → j ≤ xs[i]) :=
  below_go hr xs.size 0 xs.size (by omega) (Nat.zero_le _) (Nat.le_refl _) (fun i h z => by omega) (fun i h z => by omega)
/-- a table in order, of n -/
structure OkT (t : SetTable) (n : Nat) : Prop where
  fits : t.fits n = true
  ris : Ris t.place
  nd : t.dummies = #[]
end L2

namespace L2
open PySem PySem.Spec PyProof.Rows PySem.W
/-! ### a set in the heap, its order kept -/
section
variable {prog : Program} {w : World} {K : Type} [DecidableEq K] (knd : KeyKind prog w K)
def Apart (e f : Int × Value) : Prop := ∀ k, knd.is k e.2 = true → knd.is k f.2 = true → False
structure KObj (o : Obj) (es : Array (Int × Value)) (ep : Nat) (t : SetTable) (S : K → Prop) : Prop where
  ex : o.ExactSet
  data : o.data = .set es ep t
  el : ElemsOf knd es.toList
  mem : ∀ k, S k ↔ ∃ e ∈ es.toList, knd.is k e.2 = true
  apart : es.toList.Pairwise (Apart knd)
  few : es.size < scanBound
  ok : OkT t es.size
  led : t.led = !w.params.followText "set-order"
def KSet (h : Heap) (a : Addr) (S : K → Prop) (n : Nat) : Prop := ∃ o es ep t, h.get? a = some o ∧ KObj knd o es ep t S ∧ es.size ≤ n
variable {knd} {A : Around} {E : Value → Shared → Prop} {s : Shared}
theorem KSet.at' {h h' : Heap} {a : Addr} {S : K → Prop} {n : Nat} (x : KSet knd h a S n) (e : ∀ o, h.get? a = some o → h'.get? a = some o) : KSet knd h' a S n := let ⟨o, es, ep, t, ho, r⟩ := x; ⟨o, es, ep, t, e _ ho, r⟩
theorem KObj.store {h : Heap} {a : Addr} {o : Obj} {es : Array (Int × Value)} {ep : Nat} {t : SetTable} {S : K → Prop} (x : KObj knd o es ep t S) (ho : h.get? a = some o) {es' : Array (Int × Value)} {t' : SetTable} {S' : K → Prop}
    (hel : ElemsOf knd es'.toList) (hmem : ∀ k, S' k ↔ ∃ e ∈ es'.toList, knd.is k e.2 = true) (hap : es'.toList.Pairwise (Apart knd)) (hb : es'.size < scanBound) (hok : OkT t' es'.size) (hl : t'.led = !w.params.followText "set-order") :
    (h.update a (Obj.putSet es' t')).get? a = some { o with data := .set es' (ep + 1) t' } ∧ KObj knd { o with data := .set es' (ep + 1) t' } es' (ep + 1) t' S' := by
  have hg : (h.update a (Obj.putSet es' t')).get? a = some { o with data := .set es' (ep + 1) t' } := by
    have := Heap.get?_update_self (Obj.putSet es' t') ho (by rw [putSet_of es' t' x.data]; rfl)
    rw [putSet_of es' t' x.data] at this; exact this
  exact ⟨hg, x.ex, rfl, hel, hmem, hap, hb, hok, hl⟩
end
/-! ### set(xs) -/
section
variable {prog : Program} {w : World} {K : Type} [DecidableEq K] {knd : KeyKind prog w K} {A : Around} {R : Result → Shared → Prop} {I : Addr} {fp wr : List Addr} {G : Array GenState → Array GenState → Prop} {n : Nat} {P : Nat → Value → Prop} {St : Nat → Shared → Prop}
end
section
variable {prog : Program} {w : World} {K : Type} [DecidableEq K] {knd : KeyKind prog w K} {A : Around} {E : Value → Shared → Prop} {s : Shared}
end
end L2

namespace L2
open PySem PySem.Spec PyProof.Rows PySem.W
/-! ### a set walked -/
section
variable {prog : Program} {w : World} {K : Type} [DecidableEq K] {knd : KeyKind prog w K} {A : Around} {E : Value → Shared → Prop} {s : Shared}
theorem wp_byText {Q : Bool → Shared → Prop} (h : Q (w.params.followText "set-order") s) : wpAny (model prog w) A setsByText Q E s := by
  unfold setsByText
  exact wpAny_bind (wpAny_askSetting (wpAny_pure h))
theorem set_it_next : Slot "set_iterator" "__next__" "set_iterator.__next__" :=
  .of (owner := "set_iterator") (n := "__next__") (by rw [typeLookup_type, builtinLookup_eq_fast]; kernel_rfl) (by decide +kernel) (by decide +kernel) (by decide +kernel)
    (by first | exact .inl (by decide +kernel) | exact .inr (by decide +kernel)) (by rw [isSubtype_type]; kernel_rfl)
theorem set_it_entry : entryFor table "set_iterator.__next__" = some Builtin.«set_iterator.__next__» := entryFor_of_tree (by kernel_rfl)
theorem owner_set_it : Manifest.owners.lookup (String.ofList ['r', 'o', 't', 'a', 'r', 'e', 't', 'i', '_', 't', 'e', 's'].reverse) = some Manifest.sig_set_iterator := by kernel_rfl
theorem set_it_args (a : Value) : argsOk "set_iterator.__next__" ⟨[a], []⟩ := by
  unfold argsOk; rw [signature?_of (id := "set_iterator.__next__") (n := ['_', '_', 't', 'x', 'e', 'n', '_', '_']) (o := ['r', 'o', 't', 'a', 'r', 'e', 't', 'i', '_', 't', 'e', 's']) (by kernel_rfl) owner_set_it]; kernel_rfl
theorem set_it_iter : Slot "set_iterator" "__iter__" "set_iterator.__iter__" :=
  .of (owner := "set_iterator") (n := "__iter__") (by rw [typeLookup_type, builtinLookup_eq_fast]; kernel_rfl) (by decide +kernel) (by decide +kernel) (by decide +kernel)
    (by first | exact .inl (by decide +kernel) | exact .inr (by decide +kernel)) (by rw [isSubtype_type]; kernel_rfl)
theorem set_it_ientry : entryFor table "set_iterator.__iter__" = some Builtin.«dict_keyiterator.__iter__» := entryFor_alias (id' := "dict_keyiterator.__iter__") (by kernel_rfl) rfl (by decide +kernel) (by kernel_rfl)
theorem set_it_iargs (a : Value) : argsOk "set_iterator.__iter__" ⟨[a], []⟩ := by
  unfold argsOk; rw [signature?_of (id := "set_iterator.__iter__") (n := ['_', '_', 'r', 'e', 't', 'i', '_', '_']) (o := ['r', 'o', 't', 'a', 'r', 'e', 't', 'i', '_', 't', 'e', 's']) (by kernel_rfl) owner_set_it]; kernel_rfl
/-- the places where a plain table's walk stands -/
def slotAt (t : SetTable) : Nat → Nat
  | 0 => 0
  | i + 1 => (t.place[i]?).getD 0 + 1
theorem slot_below {t : SetTable} (hr : Ris t.place) {i : Nat} (hi : i ≤ t.place.size) : SetTable.below t.place (slotAt t i) = i := by
  obtain ⟨h0, h1, h2⟩ := below_spec hr (slotAt t i)
  cases i with
  | zero =>
    by_cases z : SetTable.below t.place (slotAt t 0) = 0
    · exact z
    · exfalso
      have := h1 0 (by omega) (by omega)
      exact absurd this (Nat.not_lt_zero _)
  | succ i =>
    have hs : slotAt t (i + 1) = t.place[i]'(by omega) + 1 := by
      show (t.place[i]?).getD 0 + 1 = _
      rw [Array.getElem?_eq_getElem (by omega)]; rfl
    have a : ¬ SetTable.below t.place (slotAt t (i + 1)) ≤ i := fun z => by
      have := h2 i (by omega) z
      omega
    have b : ¬ i + 1 < SetTable.below t.place (slotAt t (i + 1)) := fun z => by
      have := h1 (i + 1) (by omega) z
      have := hr i (i + 1) (by omega) (by omega) (Nat.lt_succ_self _)
      omega
    omega
def SDrawn (es : Array (Int × Value)) (t : SetTable) : Bool := !t.plain && decide (es.size > 1)
/-- a set's iterator, i given of ord -/
def SIt (w : World) (I a T : Addr) (o : Obj) (es : Array (Int × Value)) (ep : Nat) (t : SetTable) (ord : List (Int × Value)) (i : Nat) (h : Heap) : Prop :=
  h.get? a = some o ∧ ∃ first oI, h.get? I = some oI ∧ oI.cls = .type "set_iterator" ∧ oI.data = .fields #[first, .int i 0, .ref a, .int es.size 0, .int ep 0] ∧
    ((w.params.followText "set-order" = true ∧ (∃ sl : Nat, first = .int sl 0) ∧ ord = (pickOrder (w.params.setOrder a ep) es).toList) ∨
     (w.params.followText "set-order" = false ∧ SDrawn es t = false ∧ first = .int (slotAt t i) 0 ∧ ord = es.toList) ∨
     (w.params.followText "set-order" = false ∧ SDrawn es t = true ∧ first = .ref T ∧ ∃ oT places c, h.get? T = some oT ∧ oT.data = .seq (places.map fun (i : Nat) => rawInt i).toArray c ∧ List.Perm places (List.range es.size) ∧ ord = places.filterMap fun i => es[i]?))
/-- how an iterator that counts by ints goes on -/
def SMode (w : World) (a : Addr) (es : Array (Int × Value)) (ep : Nat) (t : SetTable) (ord : List (Int × Value)) (i sl : Nat) : Prop :=
  (w.params.followText "set-order" = true ∧ ord = (pickOrder (w.params.setOrder a ep) es).toList) ∨ (w.params.followText "set-order" = false ∧ SDrawn es t = false ∧ sl = slotAt t i ∧ ord = es.toList)
theorem wp_setWalkT {a : Addr} {o : Obj} {es : Array (Int × Value)} {ep : Nat} {t : SetTable} {S : K → Prop} (ho : s.heap.get? a = some o) (X : KObj knd o es ep t S) (hb : w.params.followText "set-order" = true) {Q : Array (Int × Value) → Shared → Prop}
    (h : Q (pickOrder (w.params.setOrder a ep) es) s) : wpAny (model prog w) A (setWalk a) Q E s := by
  unfold setWalk
  refine wpAny_bind (wpAny_setState_of ho X.data X.ok.fits ?_)
  dsimp only
  refine wpAny_bind (wp_byText ?_)
  rw [hb]
  simp only [if_true]
  exact wpAny_bind (wpAny_askSetting (wpAny_pure h))
theorem wp_setNext {a : Addr} {o : Obj} {es : Array (Int × Value)} {ep : Nat} {t : SetTable} {S : K → Prop} {ord : List (Int × Value)} {i sl : Nat} (ho : s.heap.get? a = some o) (X : KObj knd o es ep t S) (hm : SMode w a es ep t ord i sl) (hil : i ≤ es.size) {Q : Option (Value × Nat) → Shared → Prop}
    (h0 : ord[i]? = none → Q none s) (h1 : ∀ e sl', ord[i]? = some e → SMode w a es ep t ord (i + 1) sl' → Q (some (e.2, sl')) s) : wpAny (model prog w) A (setNext a sl i ep) Q E s := by
  unfold setNext
  refine wpAny_bind (wpAny_setState_of ho X.data X.ok.fits ?_)
  dsimp only
  refine wpAny_bind (wp_byText ?_)
  rcases hm with ⟨hb, hord⟩ | ⟨hb, hdr, hsl, hord⟩
  · rw [hb]
    simp only [if_true, bne_self_eq_false, Bool.false_eq_true, if_false]
    refine wpAny_bind (wp_setWalkT ho X hb (wpAny_pure ?_))
    have e : (pickOrder (w.params.setOrder a ep) es)[i]? = ord[i]? := by rw [hord, Array.getElem?_toList]
    rw [e]
    cases hq : ord[i]? with
    | none => exact h0 hq
    | some x => exact h1 x sl hq (.inl ⟨hb, hord⟩)
  · rw [hb]
    simp only [Bool.false_eq_true, if_false]
    show wpAny _ _ (if SDrawn es t = true then _ else _) _ _ s
    rw [hdr]
    simp only [Bool.false_eq_true, if_false]
    have hled : t.led = true := by rw [X.led, hb]; rfl
    show wpAny _ _ ((if (!t.led && !es.isEmpty) = true then unsupported "set:maker-not-led" else pure ()) >>= _) _ _ s
    rw [hled]
    simp only [Bool.not_true, Bool.false_and, Bool.false_eq_true, if_false]
    refine wpAny_bind (wpAny_pure ?_)
    have hps : t.place.size = es.size := by
      have := X.ok.fits
      simp only [SetTable.fits, Bool.and_eq_true, beq_iff_eq] at this
      exact this.1
    rw [hsl, slot_below X.ok.ris (by omega)]
    refine wpAny_pure ?_
    have e : ord[i]? = es[i]? := by rw [hord, Array.getElem?_toList]
    by_cases z : i < es.size
    · have hz : es[i]? = some es[i] := Array.getElem?_eq_getElem z
      have hz2 : t.place[i]? = some (t.place[i]'(by omega)) := Array.getElem?_eq_getElem (by omega)
      have := h1 es[i] (t.place[i]'(by omega) + 1) (by rw [e, hz]) (.inr ⟨hb, hdr, by show _ = (t.place[i]?).getD 0 + 1; rw [hz2]; rfl, hord⟩)
      rw [hz, hz2]
      exact this
    · have hz : es[i]? = none := Array.getElem?_eq_none (by omega)
      rw [hz]
      exact h0 (by rw [e, hz])
theorem stop_set {I : Addr} {oI : Obj} {vs : Array Value} (hh : A.handled = none) (hoI : s.heap.get? I = some oI) (hd : oI.data = .fields vs) (hv : 2 < vs.size) {Q : Option Value → Shared → Prop} (hQ : ∀ h', Heap.ExtBut I s.heap h' → Q none { s with heap := h' }) :
    wpAny (model prog w) A.in1 (do
        setField (Value.ref I) 2 Value.none
        let x ← newExc (Value.type "StopIteration") []
        raiseNew x : Sem Fin)
      (fun fin s' => ∃ v, fin = Fin.done (Flow.ret v) ∧ wpAny (model prog w) A (pure (some v)) Q E s')
      (fun e s' => wpAny (model prog w) A (do
          let b ← isInstance e (Value.type "StopIteration")
          if b = true then pure none else throw e) Q E s') s := by
  refine wpAny_bind (wpAny_setField hoI hd hv ?_)
  refine wpAny_bind ?_
  simp only [newExc, newTuple]
  refine wpAny_bind (wpAny_newObj_type ?_ (by size_fits))
  refine wpAny_bind (m := firstArgMember _ _) (wpAny_of_eq (a := Value.none) (by first | rfl | (simp only [firstArgMember]; rfl)) ?_)
  refine wpAny_newObj_type ?_ (by size_fits)
  simp only [raiseNew]
  refine wpAny_bind (wpAny_handled ?_)
  rw [show A.in1.handled = none from hh]
  refine wpAny_bind (wpAny_pure (wpAny_throw ?_))
  refine wpAny_bind (wpAny_isInstance (T := "StopIteration") (b := true) ⟨_, Heap.get?_push_size _ rfl, rfl⟩ isSubtype_stop ?_)
  exact wpAny_pure (hQ _ (((Heap.SameBut.update ..).extBut.push _).push _))
theorem pick_at {es : Array (Int × Value)} : ∀ {places : List Nat} {i : Nat}, (∀ p ∈ places, p < es.size) → (places.filterMap fun j => es[j]?)[i]? = (places[i]?).bind fun j => es[j]?
  | [], i, _ => by simp
  | p :: r, i, h => by
    have hp : p < es.size := h p (by simp)
    rw [List.filterMap_cons_some (Array.getElem?_eq_getElem hp)]
    cases i with
    | zero => simp [Array.getElem?_eq_getElem hp]
    | succ i => simpa using pick_at (places := r) (i := i) fun q hq => h q (by simp [hq])
theorem pyNext_set {I a T : Addr} {o : Obj} {es : Array (Int × Value)} {ep : Nat} {t : SetTable} {S : K → Prop} {ord : List (Int × Value)} {i : Nat} (hh : A.handled = none) (X : KObj knd o es ep t S) (haI : a ≠ I) (hTI : SDrawn es t = true → T ≠ I) (hil : i ≤ es.size) (st : SIt w I a T o es ep t ord i s.heap) {Q : Option Value → Shared → Prop}
    (h0 : ord[i]? = none → ∀ h', (∀ b u, b ≠ I → s.heap.get? b = some u → h'.get? b = some u) → Q none { s with heap := h' })
    (hQ : ∀ e h', ord[i]? = some e → SIt w I a T o es ep t ord (i + 1) h' → (∀ b u, b ≠ I → s.heap.get? b = some u → h'.get? b = some u) → Q (some e.2) { s with heap := h' }) :
    wpAny (model prog w) A (pyNext (.ref I)) Q E s := by
  obtain ⟨ho, first, oI, hoI, hc, hd, hm⟩ := st
  have hTy : s.TypeIs (.ref I) "set_iterator" := ⟨oI, hoI, hc⟩
  unfold pyNext
  refine wpAny_bind (wpAny_attempt (wpAny_callSpecial?_slot (name := Str.ofString "__next__") hTy set_it_next (wpAny_call_entry set_it_next hTy set_it_entry ?_ (set_it_args _))))
  unfold Builtin.«set_iterator.__next__»
  refine wpAny_bind (wpAny_pure ?_)
  refine wpAny_bind (wpAny_fieldsOf hoI hd ?_)
  dsimp only
  refine wpAny_bind (wpAny_setEntries_of ho X.data X.ok.fits ?_)
  simp only [bne_self_eq_false, Bool.false_eq_true, if_false]
  have key : ∀ sl : Nat, first = .int sl 0 → SMode w a es ep t ord i sl → (∀ sl' : Nat, SMode w a es ep t ord (i + 1) sl' → (w.params.followText "set-order" = true ∧ (∃ x : Nat, Value.int (sl' : Int) 0 = .int x 0) ∧ ord = (pickOrder (w.params.setOrder a ep) es).toList) ∨
     (w.params.followText "set-order" = false ∧ SDrawn es t = false ∧ Value.int (sl' : Int) 0 = .int (slotAt t (i + 1)) 0 ∧ ord = es.toList)) →
    wpAny (model prog w) A.in1 (do
        let r ← setNext a sl i ep
        match r with
        | some (x, next) => do
          setField (Value.ref I) 0 (rawInt ↑next)
          setField (Value.ref I) 1 (rawInt (↑i + 1))
          ret x
        | none => do
          setField (Value.ref I) 2 Value.none
          let x ← newExc (Value.type "StopIteration") []
          raiseNew x)
      (fun fin s' => ∃ v, fin = Fin.done (Flow.ret v) ∧ wpAny (model prog w) A (pure (some v)) Q E s')
      (fun e s' => wpAny (model prog w) A (do
          let b ← isInstance e (Value.type "StopIteration")
          if b = true then pure none else throw e) Q E s') s := fun sl hf hmo hnx => by
    subst hf
    refine wpAny_bind (wp_setNext ho X hmo hil (fun hn => ?_) (fun e sl' he hmo' => ?_))
    · exact stop_set hh hoI hd (by simp) fun h' hx => h0 hn h' fun b u hb hu => hx b u hb hu
    · dsimp only
      refine wpAny_bind (wpAny_setField hoI hd (by simp) ?_)
      have g1 := Heap.get?_update_self (Obj.mapFields (·.setIfInBounds 0 (rawInt (sl' : Int)))) hoI (Obj.isFreed_of_fields (Obj.data_mapFields hd _))
      have d1 := Obj.data_mapFields hd (·.setIfInBounds 0 (rawInt (sl' : Int)))
      refine wpAny_bind (wpAny_setField g1 d1 (by simp) ?_)
      have g2 := Heap.get?_update_self (Obj.mapFields (·.setIfInBounds 1 (rawInt ((i : Int) + 1)))) g1 (Obj.isFreed_of_fields (Obj.data_mapFields d1 _))
      refine wpAny_pure ⟨_, rfl, wpAny_pure (hQ e _ he ⟨?_, _, _, g2, (Obj.cls_mapFields ..).trans ((Obj.cls_mapFields ..).trans hc), by rw [Obj.data_mapFields d1]; rfl, (hnx sl' hmo').elim .inl fun z => .inr (.inl z)⟩ fun b u hb hu => ?_)⟩
      · exact (Heap.get?_update_other _ _ (Ne.symm haI)).trans ((Heap.get?_update_other _ _ (Ne.symm haI)).trans ho)
      · exact (Heap.get?_update_other _ _ (Ne.symm hb)).trans ((Heap.get?_update_other _ _ (Ne.symm hb)).trans hu)
  rcases hm with ⟨hb, ⟨sl, rfl⟩, hord⟩ | ⟨hb, hdr, rfl, hord⟩ | ⟨hb, hdr, rfl, oT, places, c, hT, hTd, hp, hord⟩
  · have := key sl rfl (.inl ⟨hb, hord⟩) fun sl' _ => .inl ⟨hb, ⟨sl', rfl⟩, hord⟩
    exact this
  · have := key (slotAt t i) rfl (.inr ⟨hb, hdr, rfl, hord⟩) fun sl' hm' => .inr (by
      rcases hm' with ⟨hb', _⟩ | ⟨_, _, e, _⟩
      · rw [hb] at hb'; cases hb'
      · exact ⟨hb, hdr, by rw [e], hord⟩)
    exact this
  · dsimp only
    refine wpAny_bind (wpAny_seqItems hT hTd ?_)
    dsimp only
    have hat : ((places.map fun (i : Nat) => rawInt (i : Int)).toArray)[((i : Int)).toNat]? = (places[i]?).map fun (i : Nat) => rawInt (i : Int) := by
      rw [List.getElem?_toArray, List.getElem?_map]; rfl
    have hlt : ∀ p ∈ places, p < es.size := fun p hp' => by simpa using hp.mem_iff.mp hp'
    have hoi : ord[i]? = (places[i]?).bind fun j => es[j]? := by rw [hord]; exact pick_at hlt
    cases hq : places[i]? with
    | none =>
      rw [hq] at hat hoi
      rw [hat]
      refine wpAny_bind (wpAny_setField hoI hd (by simp) ?_)
      have g1 := Heap.get?_update_self (Obj.mapFields (·.setIfInBounds 0 (rawInt 0))) hoI (Obj.isFreed_of_fields (Obj.data_mapFields hd _))
      have d1 := Obj.data_mapFields hd (·.setIfInBounds 0 (rawInt 0))
      exact stop_set (s := { s with heap := s.heap.update I (Obj.mapFields (·.setIfInBounds 0 (rawInt 0))) }) hh g1 d1 (by simp) fun h' hx => h0 hoi h' fun b u hb hu => hx b u hb ((Heap.get?_update_other _ _ (Ne.symm hb)).trans hu)
    | some p =>
      have hps : p < es.size := hlt p (List.mem_of_getElem? hq)
      rw [hq] at hat hoi
      rw [hat]
      dsimp only [Option.map, rawInt]
      have hoi' : ord[i]? = some es[p] := by rw [hoi]; exact Array.getElem?_eq_getElem hps
      have hnd : wpAny (model prog w) A.in1 (setNextDrawn a p ep) (fun x s' => x = es[p].2 ∧ s' = s) (fun e s' => False) s := by
        unfold setNextDrawn
        refine wpAny_bind (wpAny_setState_of ho X.data X.ok.fits ?_)
        dsimp only
        simp only [bne_self_eq_false, Bool.false_eq_true, if_false]
        rw [Array.getElem?_eq_getElem hps]
        exact wpAny_pure ⟨rfl, rfl⟩
      refine wpAny_bind (wpAny_mono hnd (fun x s' hx => ?_) fun _ _ z => z.elim)
      obtain ⟨rfl, rfl⟩ := hx
      refine wpAny_bind (wpAny_setField hoI hd (by simp) ?_)
      have g1 := Heap.get?_update_self (Obj.mapFields (·.setIfInBounds 1 (rawInt ((i : Int) + 1)))) hoI (Obj.isFreed_of_fields (Obj.data_mapFields hd _))
      refine wpAny_pure ⟨_, rfl, wpAny_pure (hQ es[p] _ hoi' ⟨?_, _, _, g1, (Obj.cls_mapFields ..).trans hc, by rw [Obj.data_mapFields hd]; rfl, .inr (.inr ⟨hb, hdr, rfl, oT, places, c, ?_, hTd, hp, hord⟩)⟩ fun b u hb hu => ?_)⟩
      · exact (Heap.get?_update_other _ _ (Ne.symm haI)).trans ho
      · exact (Heap.get?_update_other _ _ (Ne.symm (hTI hdr))).trans hT
      · exact (Heap.get?_update_other _ _ (Ne.symm hb)).trans hu
theorem SIt.frame {I a T : Addr} {o : Obj} {es : Array (Int × Value)} {ep : Nat} {t : SetTable} {ord : List (Int × Value)} {i : Nat} {h h' : Heap} (st : SIt w I a T o es ep t ord i h) (k : ∀ b ∈ [I, a, T], ∀ u, h.get? b = some u → h'.get? b = some u) : SIt w I a T o es ep t ord i h' := by
  obtain ⟨ho, first, oI, hoI, hc, hd, hm⟩ := st
  refine ⟨k a (by simp) _ ho, first, oI, k I (by simp) _ hoI, hc, hd, ?_⟩
  rcases hm with h1 | h1 | ⟨hb, hdr, rfl, oT, places, c, hT, r⟩
  · exact .inl h1
  · exact .inr (.inl h1)
  · exact .inr (.inr ⟨hb, hdr, rfl, oT, places, c, k T (by simp) _ hT, r⟩)
theorem Walks.set {I a T : Addr} {o : Obj} {es : Array (Int × Value)} {ep : Nat} {t : SetTable} {S : K → Prop} {ord : List (Int × Value)} (hh : A.handled = none) (X : KObj knd o es ep t S) (haI : a ≠ I) (hTI : SDrawn es t = true → T ≠ I) (hp : List.Perm ord es.toList) :
    Walks prog w A I [I, a, T] [I] ord.length (fun i v => ∃ e, ord[i]? = some e ∧ e.2 = v) (fun i h => SIt w I a T o es ep t ord i h) where
  sub := fun b hb => by simp at hb; simp [hb]
  frame := fun i h h' st k => st.frame k
  item := fun i s Q E hi st hQ => by
    have hl : ord.length = es.size := by rw [hp.length_eq, Array.length_toList]
    refine pyNext_set hh X haI hTI (by omega) st (fun hn => ?_) (fun e h' he st' hk => hQ _ _ s.toks ⟨e, he, rfl⟩ st' fun b u hb hu => hk b u (fun z => hb (by simp [z])) hu)
    rw [List.getElem?_eq_getElem hi] at hn; cases hn
  done := fun s Q E st hQ => by
    have hl : ord.length = es.size := by rw [hp.length_eq, Array.length_toList]
    refine pyNext_set hh X haI hTI (by omega) st (fun hn h' hk => hQ _ s.toks fun b u hb hu => hk b u (fun z => hb (by simp [z])) hu) (fun e h' he _ _ => ?_)
    rw [List.getElem?_eq_none (Nat.le_refl _)] at he; cases he
  self := fun i s Q E st h => by
    obtain ⟨ho, first, oI, hoI, hc, hd, hm⟩ := st
    have hTy : s.TypeIs (.ref I) "set_iterator" := ⟨oI, hoI, hc⟩
    refine wpAny_pyIter_slot hTy set_it_iter (wpAny_call_entry set_it_iter hTy set_it_ientry ?_ (set_it_iargs _))
    show wpAny _ _ (ret (.ref I)) _ _ s
    exact wpAny_pure ⟨_, rfl, "set_iterator", _, hTy, set_it_next.lookup, h⟩
end
end L2

namespace L2
open PySem PySem.Spec PyProof.Rows PySem.W
/-! ### sets of ints and texts: set(xs), sorted(set(xs)) -/
def SetO (P : Program) (w : World) (p : Addr) (ks : List Key) : HO := .ext fun h => ∃ n, KSet (mixKind P w) h p (fun k => k ∈ ks) n
section
variable {X : Cx}
end
end L2

namespace L2
open PySem PySem.Spec PyProof.Rows PySem.W
/-! ### a dict walked: it is known to the object while it is -/
section
variable {P : Program} {w : World} {H : Hp} {h : Heap} {a : Addr} {o : Obj} {u : HO}
/-- what is told of the others stands when a mutable one is told otherwise -/
theorem hok_tell {v : HO} (x : HOk P w H h) (hm : ∀ xs, H a ≠ some (.tup xs)) (ho : ∀ y, H a ≠ some (.own y)) (new : ObjOk P w (upd H a v) h a v) : HOk P w (upd H a v) h := fun b q e => by
  by_cases hb : b = a
  · subst hb; rw [upd_same] at e; cases e; exact new
  · rw [upd_ne hb] at e
    refine (x b q e).stay (fun c v _ q => q) (fun c q => ?_) fun c xs q => ?_
    · rw [upd_ne (fun z => ho _ (z ▸ q))]; exact q
    · rw [upd_ne (fun z => hm _ (z ▸ q))]; exact q
end
section
variable {X : Cx} {pins : List (Addr × Obj)} {σ : St} {H : Hp} {s : Shared} {a : Addr} {kvs : List (Key × V)}
theorem un_tell {fs ex : List Addr} {H0 H : Hp} {h0 h : Heap} {a : Addr} {v : HO} (u : Un fs ex H0 H h0 h) (hn : H a ≠ none) (hm : ∀ xs, H a ≠ some (.tup xs)) (hf : ∀ o u, H0 a = some (.frz o u) → False) (ht : ∀ ps, H a ≠ some (.tbl ps)) : Un fs ex H0 (upd H a v) h0 h where
  keep := u.keep
  slot := u.slot
  free := fun b o q n hx => by
    have e := u.free b o q n hx
    rw [upd_ne (fun z : b = a => hn (by rw [← z]; exact e))]; exact e
  there := u.there
  tups := fun b xs q => by
    have e := u.tups b xs q
    rw [upd_ne (fun z => hm _ (z ▸ e))]; exact e
  frzs := fun b o w q => by
    have e := u.frzs b o w q
    by_cases z : b = a
    · subst z; exact (hf _ _ q).elim
    · rw [upd_ne z]; exact e
  tbls := fun b ps q => by
    obtain ⟨more, e⟩ := u.tbls b ps q
    exact ⟨more, by rw [upd_ne (fun z => ht _ (z ▸ e))]; exact e⟩
theorem Inv.tell {v : HO} (I : Inv X pins σ H s) (hn : H a ≠ none) (hm : ∀ xs, H a ≠ some (.tup xs)) (ho : ∀ y, H a ≠ some (.own y)) (ht : ∀ ps, H a ≠ some (.tbl ps)) (hf : ∀ o u, X.H₀ a = some (.frz o u) → False) (new : ObjOk X.prog X.w (upd H a v) s.heap a v) : Inv X pins σ (upd H a v) s where
  ok := I.ok
  os := I.os
  bare := I.bare
  base := un_tell I.base hn hm hf ht
  loc := I.loc
  cell := I.cell
  free := by rw [upd_ne (fun z : X.env.locals = a => hn (by rw [← z]; exact I.free))]; exact I.free
  freeC := fun x c e => by rw [upd_ne (fun z : c = a => hn (by rw [← z]; exact I.freeC x c e))]; exact I.freeC x c e
  pin := fun p hp => by
    obtain ⟨h1, h2, h3⟩ := I.pin p hp
    exact ⟨h1, by rw [upd_ne (fun z : p.1 = a => hn (by rw [← z]; exact h2))]; exact h2, h3⟩
  hok := hok_tell I.hok hm ho new
  len := I.len
/-- it is known -/
theorem Inv.freeze (I : Inv X pins σ H s) (ha : H a = some (.dK kvs)) (hf : ∀ o u, X.H₀ a = some (.frz o u) → False) : ∃ o es ep, s.heap.get? a = some o ∧ o.data = .dict es ep ∧ Inv X pins σ (upd H a (.frz o (.dK kvs))) s := by
  obtain ⟨z, hd, vs, rel, o, es, ep, ho, hx, hdat, r⟩ := (show ObjOk X.prog X.w H s.heap a (.dK kvs) from I.hok a _ ha)
  refine ⟨o, es, ep, ho, hdat, I.tell (by rw [ha]; exact fun z => nomatch z) (fun xs => by rw [ha]; exact fun z => nomatch z) (fun xs => by rw [ha]; exact fun z => nomatch z) (fun xs => by rw [ha]; exact fun z => nomatch z) hf ⟨ho, z, hd, vs, rel, o, es, ep, ho, hx, hdat, r⟩⟩
/-- it is so no more -/
theorem Inv.thaw {o : Obj} (I : Inv X pins σ H s) (ha : H a = some (.frz o (.dK kvs))) (hf : ∀ o u, X.H₀ a = some (.frz o u) → False) : Inv X pins σ (upd H a (.dK kvs)) s := by
  obtain ⟨_, x⟩ := (show ObjOk X.prog X.w H s.heap a (.frz o (.dK kvs)) from I.hok a _ ha)
  exact I.tell (by rw [ha]; exact fun z => nomatch z) (fun xs => by rw [ha]; exact fun z => nomatch z) (fun xs => by rw [ha]; exact fun z => nomatch z) (fun xs => by rw [ha]; exact fun z => nomatch z) hf x
end
/-- behind a walk: what was known to the object is a dict again -/
def Thaw (H0 H : Hp) (R : Hp → Prop) : Prop := ∃ a o kvs, H a = some (.frz o (.dK kvs)) ∧ (∀ o u, H0 a = some (.frz o u) → False) ∧ R (upd H a (.dK kvs))
def tThS (H0 : Hp) (t : TS) : TS := fun D σ H => t { nx := fun σ' H' => Thaw H0 H' (D.nx σ'), rt := fun v H' => Thaw H0 H' (D.rt v) } σ H
section
variable {X : Cx}
theorem ps_thaw {st : Stmt} {t : TS} (h : PS X st t) : PS X st (tThS X.H₀ t) := by
  intro pins s σ H D I hw
  refine thn (h pins s σ H _ I hw) fun f s1 q => ?_
  cases f with
  | next => obtain ⟨σ', H1, I1, a, o, kvs, ha, hf, q⟩ := q; exact ⟨σ', _, I1.thaw ha hf, q⟩
  | ret v => obtain ⟨x, σ', H1, I1, r1, a, o, kvs, ha, hf, q⟩ := q; exact ⟨x, σ', _, I1.thaw ha hf, r1, q⟩
  | brk => obtain ⟨σ', H1, I1, q⟩ := q; exact q.elim
  | cont => obtain ⟨σ', H1, I1, q⟩ := q; exact q.elim
end
def Itvd (a : Addr) (o : Obj) (kvs : List (Key × V)) : It :=
  ⟨fun i H => H a = some (.frz o (.dK kvs)) ∧ i < kvs.length, fun i H x H' => H' = H ∧ ∃ kv, kvs[i]? = some kv ∧ x = kv.2, fun i H => H a = some (.frz o (.dK kvs)) ∧ kvs.length ≤ i⟩
theorem frz_dict {X : Cx} {pins : List (Addr × Obj)} {σ : St} {H : Hp} {s : Shared} {a : Addr} {o : Obj} {kvs : List (Key × V)} {es : Array DictEntry} {ep : Nat} (I : Inv X pins σ H s) (ha : H a = some (.frz o (.dK kvs))) (hd : o.data = .dict es ep) :
    ∃ ws, KV kvs ws ∧ s.heap.DictAt (mixKind X.prog X.w) a ws ep := by
  obtain ⟨ho, z, _, ws, rel, o', es', ep', ho', hx, hdat, r⟩ := (show ObjOk X.prog X.w H s.heap a (.frz o (.dK kvs)) from I.hok a _ ha)
  rw [ho] at ho'
  obtain rfl := Option.some.inj ho'
  rw [hd] at hdat
  injection hdat with e1 e2
  subst e1; subst e2
  exact ⟨ws, rel, o, es, ho, hx, hd, r⟩
theorem kv_at : ∀ {kvs : List (Key × V)} {ws : List (Key × Value)} {i : Nat} {kv : Key × V}, KV kvs ws → kvs[i]? = some kv → ∃ u, ws[i]? = some (kv.1, u) ∧ RelV kv.2 u
  | _, _, i, kv, .nil, h => by simp at h
  | _, _, 0, kv, .cons (a := x) (b := y) r t, h => by
    simp at h; subst h
    exact ⟨y.2, by rw [r.1]; rfl, r.2⟩
  | _, _, i + 1, kv, .cons r t, h => by
    obtain ⟨u, h1, h2⟩ := kv_at (i := i) t (by simpa using h)
    exact ⟨u, by simpa using h1, h2⟩
theorem turn_vals {P : Program} {w : World} {K : PySem.W.Frag} {tg : Expr} (a it : Addr) (o : Obj) (kvs : List (Key × V)) (es : Array DictEntry) (ep : Nat) (hd : o.data = .dict es ep) : Turn P w K tg (Itvd a o kvs) [it] it (fun i h => h.IsValIter it a i kvs.length ep) where
  mem := by simp
  obj := fun i h st b hb => by
    have e : b = it := by simpa using hb
    subst e
    obtain ⟨o, e, c, d⟩ := st
    exact ⟨o, e, fun v z => by rw [d] at z; cases z⟩
  keep := fun i h h' st k => st.at fun o e => k it (by simp) o e
  item := by
    intro X hP hw hK hc i pins s σ H E I hf st ⟨ha, hi⟩
    subst hP hw hK
    obtain ⟨ws, rel, hat⟩ := frz_dict I ha hd
    have hl := Paired.length rel
    have hx : kvs[i]? = some kvs[i] := List.getElem?_eq_getElem hi
    obtain ⟨u, hu, ru⟩ := kv_at rel hx
    obtain ⟨f0, f1, f2, f3, f4, f5⟩ := hf it (by simp)
    rw [hl] at st
    refine wpAny_pyNext_values_item st hat hu fun h' st' sb => ?_
    have I1 : Inv X pins σ H { s with heap := h' } := I.turned (t' := s.toks) (fun b o hb e => (sb.2 b hb).trans e) f0 f1 f3 f4 f5
    obtain ⟨o', e', c', d'⟩ := id st'
    rw [← hl] at st'
    exact ⟨u, rfl, go_of (s := { s with heap := h' }) e' c' d' (by decide) ⟨kvs[i].2, H, I1, ru, ⟨rfl, kvs[i], hx, rfl⟩, st', fun b hb => (hf b hb).1⟩⟩
  done := by
    intro X hP hw hK hc i pins s σ H E I hf st ⟨ha, hi⟩
    subst hP hw hK
    obtain ⟨ws, rel, hat⟩ := frz_dict I ha hd
    have hl := Paired.length rel
    obtain ⟨f0, f1, f2, f3, f4, f5⟩ := hf it (by simp)
    rw [hl] at st
    exact wpAny_pyNext_values_end (I.ok.hd hc) st hat (List.getElem?_eq_none (by omega)) fun h' eb => ⟨rfl, I.turned (t' := s.toks) (fun b o hb e => eb b o hb e) f0 f1 f3 f4 f5⟩
  self := fun _ _ _ _ _ st h => wpAny_pyIter_valiter st h
section
variable {X : Cx} {tg : Expr}
def iVals (H0 : Hp) (tl : TE) : TI := fun σ H R => tl σ H fun x H1 => ∃ p a kvs, x = .ref p ∧ H1 p = some (ValsO p a) ∧ H1 a = some (.dK kvs) ∧ (∀ o u, H0 a = some (.frz o u) → False) ∧ ∀ o, R (Itvd a o kvs) (upd H1 a (.frz o (.dK kvs)))
theorem pi_vals {l : Expr} {tl : TE} (hl : PE X l tl) : PI X tg l (iVals X.H₀ tl) := by
  intro pins s σ H R I h
  refine thn (hl pins s σ H _ I h) fun v s1 ⟨x, H1, I1, r1, q1⟩ => ?_
  obtain ⟨p, a, kvs, e, hp, ha, hf, q⟩ := q1
  subst e
  cases r1
  obtain ⟨hv, _, _⟩ := (show ObjOk X.prog X.w H1 s1.heap p (ValsO p a) from I1.hok p _ hp)
  obtain ⟨o, es, ep, ho, hd, I2⟩ := I1.freeze ha hf
  obtain ⟨ws, rel, hat⟩ := frz_dict (kvs := kvs) I2 upd_same hd
  refine wpAny_pyIter_values hv hat ?_
  refine ⟨s1.heap.objs.size, [s1.heap.objs.size], _, _, _, rfl, I2.kept (t' := s1.toks) fun b o e => Heap.get?_push_of_some _ e, turn_vals a _ o kvs es ep hd, ?_, fun b hb => ?_, q o⟩
  · rw [Paired.length rel]; exact ⟨_, Heap.get?_push_size _ rfl, rfl, rfl⟩
  · have e : b = s1.heap.objs.size := by simpa using hb
    subst e
    exact I2.fpOk (Nat.le_refl _) (I2.hok.fresh (Nat.le_refl _))
end
end L2

namespace L2
open PySem PySem.Spec PyProof.Rows PySem.W
/-! ### d.items(), walked -/
section
variable {X : Cx}
end
section
variable {X : Cx} {elts : List Expr} {kk : Nat} {tpos : Pos}
end
/-- over a walk of n turns: the forms one uses -/
theorem for_it {J : It} {n : Nat} {g : TG} {tb : TS} {D : Ends} {σ : St} {H : Hp} (Pv : Nat → St → Hp → Prop) (h0 : Pv 0 σ H)
    (hs : ∀ i σ H, i < n → Pv i σ H → J.go i H ∧ ∀ x H', J.yld i H x H' → g x σ H' fun σ2 H2 => tb { D with nx := Pv (i + 1), ct := Pv (i + 1), bk := D.nx } σ2 H2) (hd : ∀ σ H, Pv n σ H → J.stop n H ∧ D.nx σ H) :
    ∃ W : Nat → Nat → St → Hp → Prop, (∃ m, W 0 m σ H) ∧ ∀ i m σ H, W i m σ H →
      (J.stop i H ∧ D.nx σ H) ∨ (J.go i H ∧ ∃ N : St → Hp → Prop, (∀ σ' H', N σ' H' → ∃ m', m' < m ∧ W (i + 1) m' σ' H') ∧ ∀ x H', J.yld i H x H' → g x σ H' fun σ2 H2 => tb { D with nx := N, ct := N, bk := D.nx } σ2 H2) := by
  refine ⟨fun i m σ H => m = n - i ∧ i ≤ n ∧ Pv i σ H, ⟨n, by simp, Nat.zero_le _, h0⟩, ?_⟩
  rintro i m σ H ⟨rfl, hi, p⟩
  by_cases z : i < n
  · obtain ⟨g1, g2⟩ := hs i σ H z p
    exact .inr ⟨g1, Pv (i + 1), fun σ' H' q => ⟨n - (i + 1), by omega, rfl, z, q⟩, g2⟩
  · have e : i = n := by omega
    subst e
    exact .inl (hd σ H p)
end L2

namespace L2
open PySem PySem.Spec PyProof.Rows PySem.W
/-! ### sorted(x) of texts -/
theorem strs_are : ∀ {ss : List Str} {us : List Value}, Vals (ss.map V.str) us → StrsAre us ss
  | [], _, .nil => .nil
  | _ :: _, _, .cons ⟨t, e⟩ r => by subst e; exact .cons _ t (strs_are r)
theorem are_strs : ∀ {us : List Value} {ss : List Str}, StrsAre us ss → Vals (ss.map V.str) us
  | _, _, .nil => .nil
  | _, _, .cons n t r => .cons ⟨t, rfl⟩ (are_strs r)
/-- by signs -/
def leT (a b : Str) : Prop := ltCps b.cps.toList a.cps.toList = false
theorem leT_lt {a b : Str} : leT a b ↔ ¬ (b.cps.toList < a.cps.toList) := by
  unfold leT; rw [ltCps_eq]; exact decide_eq_false_iff_not
theorem leT_anti {a b : Str} (h : leT a b) (h' : leT b a) : a = b := by
  rw [leT_lt] at h h'
  have e : a.cps.toList = b.cps.toList := List.le_antisymm (List.not_lt.mp h) (List.not_lt.mp h')
  have e2 : a.cps = b.cps := Array.toList_inj.mp e
  cases a; cases b; simp only at e2; subst e2; rfl
theorem leT_trans {a b c : Str} (h : leT a b) (h' : leT b c) : leT a c := by
  rw [leT_lt] at h h' ⊢
  exact List.not_lt.mpr (List.le_trans (List.not_lt.mp h) (List.not_lt.mp h'))
theorem risingS_pw : ∀ (l : List Str) (p : Str), risingS p l = true → (p :: l).Pairwise leT
  | [], p, _ => List.pairwise_singleton _ _
  | x :: r, p, h => by
    unfold risingS at h
    simp only [Bool.and_eq_true, Bool.not_eq_true'] at h
    have ih := risingS_pw r x h.2
    refine List.pairwise_cons.mpr ⟨fun y hy => ?_, ih⟩
    rcases List.mem_cons.mp hy with rfl | z
    · exact h.1
    · exact leT_trans h.1 ((List.pairwise_cons.mp ih).1 y z)
theorem sortedS_pw : ∀ {l : List Str}, sortedS l = true → l.Pairwise leT
  | [], _ => .nil
  | x :: r, h => risingS_pw r x h
theorem txt_uniq : ∀ {a b : List Str}, a.Perm b → a.Pairwise leT → b.Pairwise leT → a = b
  | [], b, h, _, _ => (List.nil_perm.mp h).symm ▸ rfl
  | x :: r, [], h, _, _ => by have := h.length_eq; simp at this
  | x :: r, y :: t, h, ha, hb => by
    have hx : x ∈ y :: t := h.mem_iff.mp List.mem_cons_self
    have hy : y ∈ x :: r := h.mem_iff.mpr List.mem_cons_self
    have e : x = y := by
      rcases List.mem_cons.mp hx with z | z
      · exact z
      rcases List.mem_cons.mp hy with w | w
      · exact w.symm
      exact leT_anti ((List.pairwise_cons.mp ha).1 y w) ((List.pairwise_cons.mp hb).1 x z)
    subst e
    rw [txt_uniq (List.Perm.cons_inv h) (List.pairwise_cons.mp ha).2 (List.pairwise_cons.mp hb).2]
/-- what is walked for sorted(x): a list, or a dict's keys -/
def TxtSrc (K : PySem.W.Frag) (x : V) (H : Hp) (ss : List Str) : Prop := (∃ a, x = .ref a ∧ SqL K H a (ss.map V.str)) ∨ ∃ d kvs, x = .ref d ∧ H d = some (.dK kvs) ∧ kvs.map (·.1) = ss.map Sum.inr
section
variable {X : Cx}
theorem TxtSrc.coll {x : V} {H : Hp} {ss : List Str} (h : TxtSrc X.K x H ss) : Coll X x H (ss.map V.str) := by
  rcases h with ⟨a, rfl, h⟩ | ⟨d, kvs, rfl, h, e⟩
  · exact coll_list h
  · have z := coll_keys (X := X) h
    have e2 : kvs.map (fun kv => kV kv.1) = ss.map V.str := by
      have : kvs.map (fun kv => kV kv.1) = (kvs.map (·.1)).map kV := by rw [List.map_map]; rfl
      rw [this, e, List.map_map]; rfl
    rw [e2] at z
    exact z
/-- ts: the texts, by rising -/
structure SortT (ss ts : List Str) : Prop where
  perm : ts.Perm ss
  rise : ts.Pairwise leT
theorem SortT.eq {ss ts : List Str} (h : SortT ss ts) {us : List Str} (hp : us.Perm ss) (hu : us.Pairwise leT) : ts = us := txt_uniq (h.perm.trans hp.symm) h.rise hu
theorem sort_body {pins : List (Addr × Obj)} {σ : St} {H : Hp} {s1 : Shared} {ss : List Str} {vs : List Value} {A : Around} {E : Value → Shared → Prop} {Q : VK} {R : PySem.Fin → Shared → Prop} (I1 : Inv X pins σ H s1) (rv : Vals (ss.map V.str) vs) (h64 : ss.length < 64)
    (q : ∀ p ts s', SortT ss ts → p = s1.heap.objs.size → H p = none → Inv X pins σ (upd H p (.lst (ts.map V.str))) s' → R (.done (.ret .none)) s') :
    wpAny (model X.prog X.w) A (Builtin.«list.sort» ⟨[.ref s1.heap.objs.size], []⟩) R E { s1 with heap := s1.heap.push (seqObj "list" vs.toArray 0) } := by
  have hl := rv.length
  rw [List.length_map] at hl
  have fD : FpOk X pins H s1.heap.objs.size := I1.fpOk (Nat.le_refl _) (I1.hok.fresh (Nat.le_refl _))
  have hoL : (s1.heap.push (seqObj "list" vs.toArray 0)).get? s1.heap.objs.size = some (seqObj "list" vs.toArray 0) := Heap.get?_push_size _ rfl
  have hS := strs_are rv
  refine list_sort_treeK strKind_oneLt (s := { s1 with heap := s1.heap.push (seqObj "list" vs.toArray 0) }) hoL hS.keysOf (fun v₁ v₂ rest e => keyKind_strs (by rw [← e]; exact hS)) (by omega) fun st' hp hs => ?_
  obtain ⟨ts, h1, h2, h3⟩ := sorted_out_str hS hp hs
  generalize (arrOf st').map (·.2) = out at h1
  obtain ⟨c, hat⟩ := sortedHeap_at (out := out) hoL
  refine q s1.heap.objs.size ts _ ⟨h2, sortedS_pw h3⟩ rfl fD.1 ?_
  have I3 : Inv X pins σ H { s1 with heap := sortedHeap (s1.heap.push (seqObj "list" vs.toArray 0)) s1.heap.objs.size vs out } := I1.kept (t' := s1.toks) fun b o e => by
    have hb : b ≠ s1.heap.objs.size := Nat.ne_of_lt (Heap.lt_size e)
    rw [sortedHeap_old hb (by rw [Heap.size_push]; exact Nat.lt_succ_of_lt (Heap.lt_size e))]
    exact Heap.get?_push_of_some _ e
  refine I3.track fD ⟨?_, out.toList, c, are_strs h1, ?_⟩
  · rw [List.length_map, h2.length_eq, sizeLine_eq]; omega
  · simpa [seqObj] using hat
def rSortT (K : PySem.W.Frag) : List V → Hp → VK → Prop := fun xs H Q => ∃ x ss, xs = [x] ∧ TxtSrc K x H ss ∧ ss.length < 64 ∧ ∀ p ts, H p = none → SortT ss ts → Q (.ref p) (upd H p (.lst (ts.map V.str)))
theorem call_sortT (hc : X.calm = true) : CallR X (.builtin "sorted") (rSortT X.K) := by
  intro pins s σ H xs us Q I r h
  obtain ⟨x, ss, rfl, hx, h64, q⟩ := h
  obtain ⟨u, rfl, ru⟩ := vals1 r
  refine Calls.call_function_entry kind_sorted plain_sorted entry_sorted (args_sorted1 _) ?_
  unfold Builtin.«sorted»
  refine wpAny_bind (m := checkCount "sorted" 1 1 _) (wpAny_pure ?_)
  refine wpAny_bind (hx.coll pins s σ u _ _ _ I ru (I.ok.hd hc) fun vs s1 rv I1 => ?_)
  have hl := rv.length
  rw [List.length_map] at hl
  refine wpAny_bind (wpAny_newList ?_ (by rw [sizeLine_eq]; omega))
  have hoL : (s1.heap.push (seqObj "list" vs.toArray 0)).get? s1.heap.objs.size = some (seqObj "list" vs.toArray 0) := Heap.get?_push_size _ rfl
  refine wpAny_bind (wpAny_holding (wpAny_call_entry slot_list_sort ⟨_, hoL, rfl⟩ entry_list_sort ?body (args_list_sort _)))
  case body => exact sort_body (Q := Q) I1 rv h64 fun p ts s' hs e hn I' => ⟨_, rfl, by subst e; exact wpAny_pure ⟨_, rfl, .ref _, _, I', rfl, q _ ts hn hs⟩⟩
theorem k_sortT (K : PySem.W.Frag) (hc : X.calm = true) (h : X.K = K := by rfl) : CallR X (.builtin "sorted") (rSortT K) := h ▸ call_sortT hc
/-! a set of texts -/
end
end L2

namespace L2
open PySem PySem.Spec PyProof.Rows PySem.W
/-! ### tables by names -/
def tabN (l : List Str) (F : Str → V) : List (Key × V) := l.map fun n => (Sum.inr n, F n)
theorem tabN_val {l : List Str} {F : Str → V} {n : Str} (h : n ∈ l) : valV (tabN l F) (Sum.inr n) = some (F n) := by
  induction l with
  | nil => exact absurd h List.not_mem_nil
  | cons m r ih =>
    by_cases e : m = n
    · subst e; exact valV_pos rfl
    · rcases List.mem_cons.mp h with z | z
      · exact absurd z.symm e
      · exact (valV_neg (fun w => e (Sum.inr.inj w))).trans (ih z)
theorem tabN_none {l : List Str} {F : Str → V} {n : Str} (h : n ∉ l) : valV (tabN l F) (Sum.inr n) = none := by
  induction l with
  | nil => rfl
  | cons m r ih =>
    rw [List.mem_cons, not_or] at h
    exact (valV_neg (fun w => h.1 (Sum.inr.inj w).symm)).trans (ih h.2)
theorem tabN_len (l : List Str) (F : Str → V) : (tabN l F).length = l.length := by unfold tabN; rw [List.length_map]
theorem tabN_snoc {l : List Str} {F : Str → V} {n : Str} (h : n ∉ l) (v : V) : putK (tabN l F) (Sum.inr n) v = tabN (l ++ [n]) (fun m => if m = n then v else F m) := by
  rw [putK_new _ (tabN_none h)]
  unfold tabN
  rw [List.map_append]
  congr 1
  · refine List.map_congr_left fun m hm => ?_
    show (Sum.inr m, F m) = (Sum.inr m, if m = n then v else F m)
    rw [if_neg (fun (z : m = n) => h (z ▸ hm))]
  · show _ = [(Sum.inr n, if n = n then v else F n)]
    rw [if_pos rfl]
theorem tabN_congr {l : List Str} {F G : Str → V} (h : ∀ n ∈ l, F n = G n) : tabN l F = tabN l G := List.map_congr_left fun n hn => by rw [h n hn]
theorem tabN_keys (l : List Str) (F : Str → V) : (tabN l F).map (·.1) = l.map Sum.inr := by unfold tabN; rw [List.map_map]; rfl
/-! ### a road and its hearer -/
structure FE where
  p : Addr
  r : Addr
  d : Addr
  sz : Int
  way : Str
  s : RS
  B : HA
  h : HS
def FE.fp (e : FE) : List Addr := [e.p, e.r, e.d] ++ e.B.fp
structure FEAt (CR CH : Addr) (H : Hp) (e : FE) : Prop where
  ra : RAt CR H e.p e.sz e.way e.s e.r e.d
  ha : HAt CH H e.B e.h []
  ap : ∀ c ∈ [e.p, e.r, e.d], c ∉ e.B.fp
section
variable {CR CH : Addr} {H H' : Hp} {e : FE}
theorem FEAt.step {ps ps' : List Addr} (h : FEAt CR CH H e) (st : Stp ps H ps' H') (hd : ∀ c ∈ e.fp, c ∉ ps) : FEAt CR CH H' e :=
  ⟨h.ra.step st fun c hc => hd c (List.mem_append_left _ hc), h.ha.step st fun c hc => hd c (List.mem_append_right _ hc), h.ap⟩
theorem FEAt.same (h : FEAt CR CH H e) (s : Same H H') : FEAt CR CH H' e := h.step (s.step []) fun _ _ => List.not_mem_nil
theorem FEAt.live (h : FEAt CR CH H e) : ∀ c ∈ e.fp, ∃ o, H c = some o := fun c hc => by
  rcases List.mem_append.mp hc with z | z
  · obtain ⟨⟨dx, h1⟩, ⟨ys, h2, _⟩, h4, _⟩ := h.ra
    simp only [List.mem_cons, List.not_mem_nil, or_false] at z
    rcases z with rfl | rfl | rfl
    · exact ⟨_, h1⟩
    · exact ⟨_, h2⟩
    · exact ⟨_, h4⟩
  · exact h.ha.live c z
theorem FEAt.out {ps ps' : List Addr} (h : FEAt CR CH H e) (st : Stp ps H ps' H') (hd : ∀ c ∈ e.fp, c ∉ ps) : ∀ c ∈ e.fp, c ∉ ps' := fun c hc => by
  obtain ⟨o, ho⟩ := h.live c hc
  exact st.out ho (hd c hc)
/-- its road has gone on -/
theorem FEAt.road (h : FEAt CR CH H e) {s' : RS} {r' : Addr} (st : Stp [e.p, e.r, e.d] H [e.p, r', e.d] H') (hr : RAt CR H' e.p e.sz e.way s' r' e.d) : FEAt CR CH H' { e with s := s', r := r' } ∧ Stp e.fp H (FE.fp { e with s := s', r := r' }) H' := by
  refine ⟨⟨hr, h.ha.step st (fun c hc z => h.ap c z hc), fun c hc z => ?_⟩, st.weak (fun c hc => List.mem_append_left _ hc) fun c hc => ?_⟩
  · obtain ⟨o, ho⟩ := h.ha.live c z
    exact st.out ho (fun y => h.ap c y z) hc
  · rcases List.mem_append.mp hc with z | z
    · exact .inl z
    · exact .inr (List.mem_append_right _ z)
/-- its hearer has gone on -/
theorem FEAt.hear (h : FEAt CR CH H e) {h' : HS} (st : Stp e.B.fp H e.B.fp H') (hh : HAt CH H' e.B h' []) : FEAt CR CH H' { e with h := h' } ∧ Stp e.fp H (FE.fp { e with h := h' }) H' :=
  ⟨⟨h.ra.step st h.ap, hh, h.ap⟩, st.up fun c hc => List.mem_append_right _ hc⟩
end
def updE (g : Str → FE) (n : Str) (e : FE) : Str → FE := fun m => if m = n then e else g m
theorem updE_same {g : Str → FE} {n : Str} {e : FE} : updE g n e n = e := if_pos rfl
theorem updE_ne {g : Str → FE} {n m : Str} {e : FE} (h : m ≠ n) : updE g n e m = g m := if_neg h
theorem updE_twice {g : Str → FE} {n : Str} {e e' : FE} : updE (updE g n e) n e' = updE g n e' := by
  funext m; unfold updE; split <;> rfl
def fpF (l : List Str) (g : Str → FE) : List Addr := l.flatMap fun n => (g n).fp
theorem mem_fpF {l : List Str} {g : Str → FE} {c : Addr} : c ∈ fpF l g ↔ ∃ n ∈ l, c ∈ (g n).fp := by unfold fpF; rw [List.mem_flatMap]
theorem fpF_congr {l : List Str} {g g' : Str → FE} (h : ∀ n ∈ l, (g n).fp = (g' n).fp) : fpF l g = fpF l g' := by
  unfold fpF
  rw [List.flatMap_def, List.flatMap_def, List.map_congr_left h]
/-! ### a fan -/
structure FanC (K : PySem.W.Frag) (mg : Str → Option Value) (C : Addr) : Prop where
  cl_Fan : Cls K C
  mg_Fan : mg "Fan" = some (.ref C)
  n_teller : NoAttr K C "teller"
  n_roads : NoAttr K C "roads"
  n_hearers : NoAttr K C "hearers"
structure FA where
  p : Addr
  rd : Addr
  hd : Addr
  tp : Addr
  ts : Addr
  td : Addr
def fFl (a : FA) : List (Str × V) := [("teller", .ref a.tp), ("roads", .ref a.rd), ("hearers", .ref a.hd)]
theorem fFl_t (a : FA) : (fFl a).lookup ("teller" : Str) = some (V.ref a.tp) := lk_hit
theorem fFl_r (a : FA) : (fFl a).lookup ("roads" : Str) = some (V.ref a.rd) := (lk_miss (by decide +kernel)).trans lk_hit
theorem fFl_h (a : FA) : (fFl a).lookup ("hearers" : Str) = some (V.ref a.hd) := (lk_miss (by decide +kernel)).trans ((lk_miss (by decide +kernel)).trans lk_hit)
theorem fFl_no {a : FA} {f : Str} (h1 : ¬ f = "teller") (h2 : ¬ f = "roads") (h3 : ¬ f = "hearers") : (fFl a).lookup f = none := (lk_miss h1).trans ((lk_miss h2).trans (lk_miss h3))
theorem fFl_make (a : FA) : putF "hearers" (.ref a.hd) (putF "roads" (.ref a.rd) (putF "teller" (.ref a.tp) [])) = fFl a := by
  show putF "hearers" (.ref a.hd) (putF "roads" (.ref a.rd) [("teller", .ref a.tp)]) = _
  rw [pf_miss (by decide +kernel)]
  show putF "hearers" (.ref a.hd) [("teller", .ref a.tp), ("roads", .ref a.rd)] = _
  rw [pf_miss (by decide +kernel), pf_miss (by decide +kernel)]
  rfl
def FA.own (a : FA) : List Addr := [a.p, a.rd, a.hd, a.tp, a.ts, a.td]
def FA.fp (a : FA) (l : List Str) (g : Str → FE) : List Addr := a.own ++ fpF l g
def rdT (l : List Str) (g : Str → FE) : List (Key × V) := tabN l fun n => .ref (g n).p
def hdT (l : List Str) (g : Str → FE) : List (Key × V) := tabN l fun n => .ref (g n).B.p
/-- all but the table of roads, which may be walked -/
structure FAt0 (CF CT CR CH : Addr) (H : Hp) (a : FA) (l : List Str) (g : Str → FE) (k : Int) (all : List Msg) : Prop where
  ob : ∃ dx, H a.p = some (.ins CF dx (fFl a))
  tl : TAt CT H a.tp k 0 all a.ts a.td
  hs : H a.hd = some (.dK (hdT l g))
  en : ∀ n ∈ l, FEAt CR CH H (g n)
  nd : l.Nodup
  ap : ∀ n ∈ l, ∀ m ∈ l, n ≠ m → ∀ c ∈ (g n).fp, c ∉ (g m).fp
  own : ∀ n ∈ l, ∀ c ∈ (g n).fp, c ∉ a.own
  ne : a.rd ∉ [a.p, a.hd]
  bt : ∀ c ∈ [a.p, a.rd, a.hd], c ∉ [a.tp, a.ts, a.td]
structure FAt (CF CT CR CH : Addr) (H : Hp) (a : FA) (l : List Str) (g : Str → FE) (k : Int) (all : List Msg) : Prop extends FAt0 CF CT CR CH H a l g k all where
  rs : H a.rd = some (.dK (rdT l g))
section
variable {CF CT CR CH : Addr} {H H' : Hp} {a : FA} {l : List Str} {g : Str → FE} {k : Int} {all all' : List Msg} {n : Str} {e : FE}
theorem FAt0.step {ps ps' : List Addr} (h : FAt0 CF CT CR CH H a l g k all) (st : Stp ps H ps' H') (hd : ∀ c ∈ a.fp l g, c ≠ a.rd → c ∉ ps) : FAt0 CF CT CR CH H' a l g k all := by
  obtain ⟨⟨dx, h1⟩, h2, h4, h5, h6, h7, h8, h9, h10⟩ := h
  have n1 : a.p ≠ a.rd := fun z => h9 (by simp [z])
  have n2 : a.hd ≠ a.rd := fun z => h9 (by simp [z])
  have nt : ∀ c ∈ [a.tp, a.ts, a.td], c ≠ a.rd := fun c hc z => h10 a.rd (by simp) (z ▸ hc)
  have ho : ∀ c ∈ a.own, c ≠ a.rd → c ∉ ps := fun c hc hn => hd c (List.mem_append_left _ hc) hn
  refine ⟨⟨dx, st.keep h1 (ho _ (by simp [FA.own]) n1)⟩, h2.stp st (fun c hc => ho c ?_ (nt c hc)), st.keep h4 (ho _ (by simp [FA.own]) n2), fun n hn => (h5 n hn).step st fun c hc => hd c (List.mem_append_right _ (mem_fpF.mpr ⟨n, hn, hc⟩)) (fun z => h8 n hn c hc (by rw [z]; simp [FA.own])), h6, h7, h8, h9, h10⟩
  simp only [List.mem_cons, List.not_mem_nil, or_false] at hc
  rcases hc with rfl | rfl | rfl <;> simp [FA.own]
theorem FAt.step {ps ps' : List Addr} (h : FAt CF CT CR CH H a l g k all) (st : Stp ps H ps' H') (hd : ∀ c ∈ a.fp l g, c ∉ ps) : FAt CF CT CR CH H' a l g k all :=
  ⟨h.toFAt0.step st fun c hc _ => hd c hc, st.keep h.rs (hd _ (List.mem_append_left _ (by simp [FA.own])))⟩
theorem FAt.same (h : FAt CF CT CR CH H a l g k all) (s : Same H H') : FAt CF CT CR CH H' a l g k all := h.step (s.step []) fun _ _ => List.not_mem_nil
theorem TAt.live3 {C : Addr} {H : Hp} {p : Addr} {k r : Int} {all : List Msg} {s d : Addr} (h : TAt C H p k r all s d) : ∀ c ∈ [p, s, d], ∃ o, H c = some o := fun c hc => by
  obtain ⟨⟨dx, h1⟩, ⟨ys, h2, h3⟩, ⟨kvs, h4, h5⟩⟩ := h
  simp only [List.mem_cons, List.not_mem_nil, or_false] at hc
  rcases hc with rfl | rfl | rfl
  · exact ⟨_, h1⟩
  · exact ⟨_, h2⟩
  · exact ⟨_, h4⟩
theorem FAt.live (h : FAt CF CT CR CH H a l g k all) : ∀ c ∈ a.fp l g, ∃ o, H c = some o := fun c hc => by
  rcases List.mem_append.mp hc with z | z
  · simp only [FA.own, List.mem_cons, List.not_mem_nil, or_false] at z
    rcases z with rfl | rfl | rfl | rfl | rfl | rfl
    · obtain ⟨dx, e⟩ := h.ob; exact ⟨_, e⟩
    · exact ⟨_, h.rs⟩
    · exact ⟨_, h.hs⟩
    · exact h.tl.live3 _ (by simp)
    · exact h.tl.live3 _ (by simp)
    · exact h.tl.live3 _ (by simp)
  · obtain ⟨n, hn, hc⟩ := mem_fpF.mp z
    exact (h.en n hn).live c hc
theorem FAt.free (h : FAt CF CT CR CH H a l g k all) {c : Addr} (hc : H c = none) : c ∉ a.fp l g := fun z => by
  obtain ⟨o, ho⟩ := h.live c z
  rw [ho] at hc; cases hc
theorem FAt.out {ps ps' : List Addr} (h : FAt CF CT CR CH H a l g k all) (st : Stp ps H ps' H') (hd : ∀ c ∈ a.fp l g, c ∉ ps) : ∀ c ∈ a.fp l g, c ∉ ps' := fun c hc => by
  obtain ⟨o, ho⟩ := h.live c hc
  exact st.out ho (hd c hc)
/-- one road, or its hearer, has gone on -/
theorem FAt0.put (h : FAt0 CF CT CR CH H a l g k all) (hn : n ∈ l) (lv : ∃ o, H a.rd = some o) (st : Stp (g n).fp H e.fp H') (he : FEAt CR CH H' e) (hp : e.p = (g n).p) (hb : e.B.p = (g n).B.p) : FAt0 CF CT CR CH H' a l (updE g n e) k all ∧ Stp (a.fp l g) H (a.fp l (updE g n e)) H' := by
  have oo : ∀ c ∈ a.own, c ∉ (g n).fp := fun c hc z => h.own n hn c z hc
  have ho : ∀ c ∈ a.own, c ∉ e.fp := fun c hc => by
    have hl : ∃ o, H c = some o := by
      have hc' := hc
      simp only [FA.own, List.mem_cons, List.not_mem_nil, or_false] at hc'
      rcases hc' with rfl | rfl | rfl | rfl | rfl | rfl
      · obtain ⟨dx, e⟩ := h.ob; exact ⟨_, e⟩
      · exact lv
      · exact ⟨_, h.hs⟩
      · exact h.tl.live3 _ (by simp)
      · exact h.tl.live3 _ (by simp)
      · exact h.tl.live3 _ (by simp)
    obtain ⟨o, hl⟩ := hl
    exact st.out hl (oo c hc)
  have hoth : ∀ m ∈ l, m ≠ n → ∀ c ∈ (g m).fp, c ∉ (g n).fp := fun m hm hne => h.ap m hm n hn hne
  have hT : hdT l (updE g n e) = hdT l g := tabN_congr fun m _ => by
    by_cases z : m = n
    · subst z; rw [updE_same, hb]
    · rw [updE_ne z]
  obtain ⟨dx, h1⟩ := h.ob
  refine ⟨⟨⟨dx, st.keep h1 (oo _ (by simp [FA.own]))⟩, h.tl.stp st (fun c hc => oo c ?_), by rw [hT]; exact st.keep h.hs (oo _ (by simp [FA.own])), fun m hm => ?_, h.nd, fun m hm m' hm' hne => ?_, fun m hm c hc => ?_, h.ne, h.bt⟩, st.weak (fun c hc => List.mem_append_right _ (mem_fpF.mpr ⟨n, hn, hc⟩)) fun c hc => ?_⟩
  · simp only [List.mem_cons, List.not_mem_nil, or_false] at hc
    rcases hc with rfl | rfl | rfl <;> simp [FA.own]
  · by_cases z : m = n
    · subst z; rw [updE_same]; exact he
    · rw [updE_ne z]; exact (h.en m hm).step st (hoth m hm z)
  · by_cases z : m = n
    · subst z
      rw [updE_same, updE_ne (Ne.symm hne)]
      exact fun c hc y => (h.en m' hm').out st (hoth m' hm' (Ne.symm hne)) c y hc
    · rw [updE_ne z]
      by_cases z' : m' = n
      · subst z'
        rw [updE_same]
        exact (h.en m hm).out st (hoth m hm z)
      · rw [updE_ne z']; exact h.ap m hm m' hm' hne
  · by_cases z : m = n
    · subst z; rw [updE_same] at hc; exact fun y => ho c y hc
    · rw [updE_ne z] at hc; exact h.own m hm c hc
  · rcases List.mem_append.mp hc with z | z
    · exact .inr (List.mem_append_left _ z)
    · obtain ⟨m, hm, hc⟩ := mem_fpF.mp z
      by_cases y : m = n
      · subst y; rw [updE_same] at hc; exact .inl hc
      · rw [updE_ne y] at hc; exact .inr (List.mem_append_right _ (mem_fpF.mpr ⟨m, hm, hc⟩))
theorem rdT_upd (hp : e.p = (g n).p) : rdT l (updE g n e) = rdT l g := tabN_congr fun m _ => by
  by_cases z : m = n
  · subst z; rw [updE_same, hp]
  · rw [updE_ne z]
theorem FAt.put (h : FAt CF CT CR CH H a l g k all) (hn : n ∈ l) (st : Stp (g n).fp H e.fp H') (he : FEAt CR CH H' e) (hp : e.p = (g n).p) (hb : e.B.p = (g n).B.p) : FAt CF CT CR CH H' a l (updE g n e) k all ∧ Stp (a.fp l g) H (a.fp l (updE g n e)) H' := by
  have ⟨h1, h2⟩ := h.toFAt0.put hn ⟨_, h.rs⟩ st he hp hb
  exact ⟨⟨h1, by rw [rdT_upd hp]; exact st.keep h.rs (fun z => h.own n hn _ z (by simp [FA.own]))⟩, h2⟩
/-- the teller has told -/
theorem FAt.told (h : FAt CF CT CR CH H a l g k all) (tl : TAt CT H' a.tp k 0 all' a.ts a.td) (st : Stp [a.tp, a.ts, a.td] H [a.tp, a.ts, a.td] H') : FAt CF CT CR CH H' a l g k all' ∧ Stp (a.fp l g) H (a.fp l g) H' := by
  have sub : ∀ c ∈ [a.tp, a.ts, a.td], c ∈ a.own := fun c hc => by
    simp only [List.mem_cons, List.not_mem_nil, or_false] at hc
    rcases hc with rfl | rfl | rfl <;> simp [FA.own]
  obtain ⟨dx, h1⟩ := h.ob
  exact ⟨⟨⟨⟨dx, st.keep h1 (h.bt _ (by simp))⟩, tl, st.keep h.hs (h.bt _ (by simp)), fun n hn => (h.en n hn).step st fun c hc z => h.own n hn c hc (sub c z), h.nd, h.ap, h.own, h.ne, h.bt⟩, st.keep h.rs (h.bt _ (by simp))⟩, st.up fun c hc => List.mem_append_left _ (sub c hc)⟩
end
/-! the promises of a fan's methods -/
section
variable (CF CT CR CH : Addr)
def spFInit : Sp := fun vs H Q _ => ∃ (p dx : Addr) (k : Int), vs = [.ref p, .int k] ∧ H p = some (.ins CF dx []) ∧ ∀ a H', FA.p a = p → (∀ g, FAt CF CT CR CH H' a [] g k []) → Stp [p] H a.own H' → Q .non H'
def spFLay : Sp := fun vs H Q _ => ∃ a l g k all n sz way, vs = [.ref (FA.p a), .str n, .int sz, .str way] ∧ FAt CF CT CR CH H a l g k all ∧ n ∉ l ∧ l.length < 100 ∧
  ∀ e H', FAt CF CT CR CH H' a (l ++ [n]) (updE g n e) k all → FE.sz e = sz → e.way = way → e.s = ⟨[], [], false⟩ → e.h = hs0 → Stp (a.fp l g) H (a.fp (l ++ [n]) (updE g n e)) H' → Q .non H'
def spFKnow : Sp := fun vs H Q _ => ∃ a l g k all n, vs = [.ref (FA.p a), .str n] ∧ FAt CF CT CR CH H a l g k all ∧ n ∈ l ∧ Q .non H
def spFRoad : Sp := fun vs H Q _ => ∃ a l g k all n, vs = [.ref (FA.p a), .str n] ∧ FAt CF CT CR CH H a l g k all ∧ n ∈ l ∧ Q (.ref (g n).p) H
def spFHearer : Sp := fun vs H Q _ => ∃ a l g k all n, vs = [.ref (FA.p a), .str n] ∧ FAt CF CT CR CH H a l g k all ∧ n ∈ l ∧ Q (.ref (g n).B.p) H
def spFNames : Sp := fun vs H Q _ => ∃ a l g k all, vs = [.ref (FA.p a)] ∧ FAt CF CT CR CH H a l g k all ∧ l.length < 64 ∧ ∀ p ts, H p = none → SortT l ts → Q (.ref p) (upd H p (.lst (ts.map V.str)))
/-- m has been put to a road -/
structure FPut (m : Msg) (e e' : FE) : Prop where
  sz : e'.sz = e.sz
  way : e'.way = e.way
  s : e'.s = rputS e.sz e.way e.s m
  h : e'.h = e.h
def spFTell : Sp := fun vs H Q _ => ∃ a l g k all t x, vs = [.ref (FA.p a), .str t, .str x] ∧ FAt CF CT CR CH H a l g k all ∧ all.length < 60 ∧ 0 ≤ k ∧ l.length < 100 ∧ (∀ n ∈ l, (g n).s.rows.length < 63 ∧ (g n).s.out.length < 1000) ∧
  ∀ g' H', FAt CF CT CR CH H' a l g' k (all ++ [⟨(all.length : Int) + 1, t, x⟩]) → (∀ n ∈ l, FPut ⟨(all.length : Int) + 1, t, x⟩ (g n) (g' n)) → Stp (a.fp l g) H (a.fp l g') H' → Q (.int ((all.length : Int) + 1)) H'
def spFCarry : Sp := fun vs H Q _ => ∃ a l g k all n i, vs = [.ref (FA.p a), .str n, .int i] ∧ FAt CF CT CR CH H a l g k all ∧ n ∈ l ∧ 0 ≤ i ∧ Fits (g n).h ((g n).s.rows.take i.toNat) ∧ (∀ m ∈ (g n).s.rows, mOk m) ∧ Diff (g n).h.held ∧ (g n).h.heard.length + (g n).h.held.length + (g n).h.lost.length < 1000 ∧ (g n).s.rows.length < 1000 ∧
  ∀ e lh ys found H', FAt CF CT CR CH H' a l (updE g n e) k all → FE.sz e = (g n).sz → e.way = (g n).way → e.s = { (g n).s with rows := (g n).s.rows.drop i.toNat } → e.h = takeS (g n).h ((g n).s.rows.take i.toNat) → (takeS (g n).h ((g n).s.rows.take i.toNat)).heard = (g n).h.heard ++ found → Stp (a.fp l g) H (a.fp l (updE g n e)) H' → (lh ∈ a.fp l g ∨ H lh = none) → lh ∉ a.fp l (updE g n e) → H' lh = some (.lst ys) → Ms H' ys found → Q (.ref lh) H'
def spFCatch : Sp := fun vs H Q _ => ∃ a l g k all n, vs = [.ref (FA.p a), .str n] ∧ FAt CF CT CR CH H a l g k all ∧ n ∈ l ∧ 0 ≤ k ∧ Rows all ∧ all.length < 60 ∧ (∀ m ∈ all, mOk m) ∧ Hw all (g n).h ∧ (g n).h.next ≤ (all.length : Int) + 1 ∧ (g n).h.heard.length + (g n).h.held.length ≤ 200 ∧
  ∀ e q lh ys found H', FAt CF CT CR CH H' a l (updE g n e) k all → FE.sz e = (g n).sz → e.way = (g n).way → e.s = { (g n).s with cut := false } → e.h = catchS k all (g n).h → (catchS k all (g n).h).heard = (g n).h.heard ++ found → Stp (a.fp l g) H (a.fp l (updE g n e)) H' → q ∉ a.fp l (updE g n e) → (lh ∈ a.fp l g ∨ H lh = none) → lh ∉ a.fp l (updE g n e) → H' q = some (.tup [.ref lh, .int (((catchS k all (g n).h).lost.length : Int) - ((g n).h.lost.length : Int))]) → H' lh = some (.lst ys) → Ms H' ys found → Q (.ref q) H'
/-- caught up, with a new list -/
def spCaughtN (C CH : Addr) : Sp := fun vs H Q _ => ∃ tp a k r all sd d hs, vs = [.ref tp, .ref (HA.p a)] ∧ TAt C H tp k r all sd d ∧ HAt CH H a hs [] ∧ (∀ c ∈ [tp, sd, d], c ∉ a.fp) ∧ 0 ≤ k ∧ Rows all ∧ all.length < 60 ∧ (∀ m ∈ all, mOk m) ∧ Hw all hs ∧ hs.next ≤ (all.length : Int) + 1 ∧ hs.heard.length + hs.held.length ≤ 200 ∧
  ∀ q l ys found H', HAt CH H' a (catchS k all hs) [] → (catchS k all hs).heard = hs.heard ++ found → Stp a.fp H a.fp H' → H q = none → H' q = some (.tup [.ref l, .int (((catchS k all hs).lost.length : Int) - (hs.lost.length : Int))]) → H' l = some (.lst ys) → Ms H' ys found → l ∉ a.fp → q ∉ a.fp → H l = none → Q (.ref q) H'
def spFClose : Sp := fun vs H Q _ => ∃ a l g k all n, vs = [.ref (FA.p a), .str n] ∧ FAt CF CT CR CH H a l g k all ∧ n ∈ l ∧ ∀ H', FAt CF CT CR CH H' a (l.filter fun m => decide (m ≠ n)) g k all → Stp (a.fp l g) H (a.fp (l.filter fun m => decide (m ≠ n)) g) H' → Q .non H'
def spFHeard : Sp := fun vs H Q _ => ∃ a l g k all n, vs = [.ref (FA.p a), .str n] ∧ FAt CF CT CR CH H a l g k all ∧ n ∈ l ∧ ∀ q ys, H q = none → Ms (upd H q (.lst ys)) ys (g n).h.heard → Q (.ref q) (upd H q (.lst ys))
def spFLost : Sp := fun vs H Q _ => ∃ a l g k all n, vs = [.ref (FA.p a), .str n] ∧ FAt CF CT CR CH H a l g k all ∧ n ∈ l ∧ ∀ q, H q = none → Q (.ref q) (upd H q (.lst ((g n).h.lost.map V.int)))
def spFWait : Sp := fun vs H Q _ => ∃ a l g k all n, vs = [.ref (FA.p a), .str n] ∧ FAt CF CT CR CH H a l g k all ∧ n ∈ l ∧ ∀ q ys, H q = none → Ms (upd H q (.lst ys)) ys (g n).s.rows → Q (.ref q) (upd H q (.lst ys))
def lagF (all : List Msg) (e : FE) : Int := (all.length : Int) - e.h.next + 1
def spFLag : Sp := fun vs H Q _ => ∃ a l g k all n, vs = [.ref (FA.p a), .str n] ∧ FAt CF CT CR CH H a l g k all ∧ n ∈ l ∧ Q (.int (lagF all (g n))) H
end
end L2

namespace K42
open PySem L2
def top (i : Nat) : Stmt := PySem.Challenge.pw_tellroads_k42_whole_roads_apart.main.body.getD i (.Pass ⟨0, 0, 0, 0⟩)
structure Txt (mg : Str → Option Value) : Prop where
  b_len : mg "len" = none
  b_range : mg "range" = none
  b_list : mg "list" = none
  b_max : mg "max" = none
  b_sorted : mg "sorted" = none
  b_min : mg "min" = none
structure TxtC (K : PySem.W.Frag) (mg : Str → Option Value) (C CH : Addr) : Prop where
  R_Teller : TellerC K mg C
  R_Hearer : HearK K mg CH
structure TxtF (K : PySem.W.Frag) (mg : Str → Option Value) (CF C CR CH : Addr) : Prop where
  R_Fan : FanC K mg CF
  R_Teller : TellerC K mg C
  R_Road : RoadC K mg CR
  R_Hearer : HearK K mg CH
section
variable {K : PySem.W.Frag} {mg : Str → Option Value} {C CH : Addr} (h : TxtC K mg C CH)
include h
theorem TxtC.cl_Teller : Cls K C := h.R_Teller.cl_Teller
theorem TxtC.mg_Teller : mg "Teller" = some (.ref C) := h.R_Teller.mg_Teller
theorem TxtC.cl_Hearer : Cls K CH := h.R_Hearer.cl_Hearer
theorem TxtC.mg_Hearer : mg "Hearer" = some (.ref CH) := h.R_Hearer.mg_Hearer
end
section
variable {K : PySem.W.Frag} {mg : Str → Option Value} {CF C CR CH : Addr} (h : TxtF K mg CF C CR CH)
include h
theorem TxtF.cl_Fan : Cls K CF := h.R_Fan.cl_Fan
theorem TxtF.mg_Fan : mg "Fan" = some (.ref CF) := h.R_Fan.mg_Fan
theorem TxtF.cl_Teller : Cls K C := h.R_Teller.cl_Teller
theorem TxtF.mg_Teller : mg "Teller" = some (.ref C) := h.R_Teller.mg_Teller
theorem TxtF.cl_Road : Cls K CR := h.R_Road.cl_Road
theorem TxtF.mg_Road : mg "Road" = some (.ref CR) := h.R_Road.mg_Road
theorem TxtF.cl_Hearer : Cls K CH := h.R_Hearer.cl_Hearer
theorem TxtF.mg_Hearer : mg "Hearer" = some (.ref CH) := h.R_Hearer.mg_Hearer
end
/-! ### the draws -/
def cellF (ns : List Int) (k : Int) : Int := if ns = [] then 7 * k else ns.getD (k % (ns.length : Int)).toNat 0 + 6553 * (k / (ns.length : Int))
def draw1 (c k : Int) : Int := (c % 2147483563 * 69069 + 104723 * (k + 1)) % 2147483563
def draw2 (h : Int) : Int := (h * h + h / 3) % 2147483399
def draw3 (h m : Int) : Int := (h * h + h / 7) % 2147483647 / 11 % m
def drawnF (ns : List Int) (k m : Int) : Int := draw3 (draw2 (draw1 (cellF ns k) k)) m
theorem drawn_nn (ns : List Int) (k : Int) {m : Int} (h : 0 < m) : 0 ≤ drawnF ns k m := Int.emod_nonneg _ (by omega)
theorem drawn_lt (ns : List Int) (k : Int) {m : Int} (h : 0 < m) : drawnF ns k m < m := Int.emod_lt_of_pos _ h
def spCell (K : PySem.W.Frag) : Sp := fun vs H Q _ => ∃ (a : Addr) (ns : List Int) (k : Int), vs = [.ref a, .int k] ∧ SqL K H a (ns.map V.int) ∧ ns.length ≤ 63 ∧ 0 ≤ k ∧ ∀ H', Same H H' → Q (.int (cellF ns k)) H'
def spDrawn (K : PySem.W.Frag) : Sp := fun vs H Q _ => ∃ (a : Addr) (ns : List Int) (k m : Int), vs = [.ref a, .int k, .int m] ∧ SqL K H a (ns.map V.int) ∧ ns.length ≤ 63 ∧ 0 ≤ k ∧ 0 < m ∧ ∀ H', Same H H' → Q (.int (drawnF ns k m)) H'
section
variable {P : Program} {w : World} {K : PySem.W.Frag} {mg : Str → Option Value} {base : Heap}
abbrev s_l_cell : Stmt := top 23
abbrev N_l_cell : List Str := ["_law_script", "_law_k"]
theorem sc_l_cell : FnScope N_l_cell ["_law_script", "_law_k"] (defScope s_l_cell) := ⟨rfl, rfl, rfl, by decide +kernel, rfl, by decide +kernel, by decide +kernel⟩
theorem ok_l_cell {f : Addr} {fd : FuncData} (F : Fun K "_law_cell" "_law_cell" s_l_cell f fd) (T : Txt mg) : FnOk P w K mg base CX0 1 f fd ["_law_script", "_law_k"] (spCell K) := by
  refine F.ok sc_l_cell (fun vs H Q E h => ?_) (fun cdv A outer s H vs Q E hr h => ?_)
  · obtain ⟨a, ns, k, rfl, _⟩ := h; rfl
  · obtain ⟨a, ns, k, rfl, hS, hlen, hk, q⟩ := h
    refine ⟨_, (pss_cons (ps_if (pt_cmpR (k_eq0 K hr.units0) (pv 0) (as_lst as_nil) (nomark _)) (pss_one (ps_ret (pe_op op_mul pe_int (pv 1)))) pss_nil)
      (pss_one (ps_ret (pe_op op_add (pe_ix (k_ix_list K) (pv 0) (pe_op op_mod (pv 1) (as_callB (k_len_seq K) (by rfl) T.b_len PySem.boot_len (at_cons (pv 0) as_nil))) (fun _ _ => rfl)) (pe_op op_mul pe_int (pe_op op_fdiv (pv 1) (as_callB (k_len_seq K) (by rfl) T.b_len PySem.boot_len (at_cons (pv 0) as_nil)))))))), ?_⟩
    refine ⟨_, rfl, by decide, fun p hp => ?_⟩
    have s1 : Same H (upd H p (.lst [])) := Same.new hp
    refine ⟨a, p, _, rfl, rfl, s1.seq hS, SqL.ofL upd_same, _, rfl, ?_⟩
    refine ite2 (fun he => ?_) (fun he => ?_)
    · have e : ns = [] := by simpa using he
      refine ⟨_, rfl, _, _, rfl, rfl, .inl ⟨by decide, by decide⟩, ?_⟩
      have z := q _ s1
      unfold cellF at z
      rw [if_pos e] at z
      exact z
    · have e : ns ≠ [] := by simpa using he
      have hl : 0 < ns.length := List.length_pos_iff.mpr e
      refine ⟨_, rfl, _, rfl, _, rfl, a, _, rfl, .inl (s1.seq hS), _, _, rfl, rfl, ?_, ?_⟩
      · show (0 : Int) < ((ns.map V.int).length : Int)
        rw [List.length_map]; omega
      · have hlt : (k % (ns.length : Int)).toNat < ns.length := by
          have h1 := Int.emod_nonneg k (b := (ns.length : Int)) (by omega)
          have h2 := Int.emod_lt_of_pos k (b := (ns.length : Int)) (by omega)
          omega
        have hi : atI (ns.map V.int) (k % ((ns.map V.int).length : Int)) = some (V.int (ns.getD (k % (ns.length : Int)).toNat 0)) := by
          rw [List.length_map]
          have h1 := Int.emod_nonneg k (b := (ns.length : Int)) (by omega)
          have e2 : k % (ns.length : Int) = ((k % (ns.length : Int)).toNat : Int) := by omega
          rw [e2]
          refine atI_nat ?_
          rw [Int.toNat_natCast, List.getElem?_map, List.getElem?_eq_getElem hlt]
          simp [List.getD, List.getElem?_eq_getElem hlt]
        refine ⟨a, _, _, _, rfl, rfl, s1.seq hS, hi, _, rfl, _, rfl, a, _, rfl, .inl (s1.seq hS), _, _, rfl, rfl, ?_, _, _, rfl, rfl, .inl ⟨by decide, by decide⟩, _, _, rfl, rfl, ?_⟩
        · show (0 : Int) < ((ns.map V.int).length : Int) ∧ ((ns.map V.int).length : Int) < 1073741824
          rw [List.length_map]; omega
        · have z := q _ s1
          unfold cellF at z
          rw [if_neg e] at z
          show Q (.int (ns.getD (k % (ns.length : Int)).toNat 0 + 6553 * (k / ((ns.map V.int).length : Int)))) _
          rw [List.length_map]
          exact z
abbrev s_l_drawn : Stmt := top 24
abbrev N_l_drawn : List Str := ["_law_script", "_law_k", "_law_many", "_law_cell_here"]
theorem sc_l_drawn : FnScope N_l_drawn ["_law_script", "_law_k", "_law_many"] (defScope s_l_drawn) := ⟨rfl, rfl, rfl, by decide +kernel, rfl, by decide +kernel, by decide +kernel⟩
theorem ok_l_drawn {f : Addr} {fd : FuncData} (F : Fun K "_law_drawn" "_law_drawn" s_l_drawn f fd) (T : Txt mg) (c_l_cell : Callee P w K mg base 1 "_law_cell" ["_law_script", "_law_k"] (spCell K)) :
    FnOk P w K mg base CX0 2 f fd ["_law_script", "_law_k", "_law_many"] (spDrawn K) := by
  refine F.ok sc_l_drawn (fun vs H Q E h => ?_) (fun cdv A outer s H vs Q E hr h => ?_)
  · obtain ⟨a, ns, k, m, rfl, _⟩ := h; rfl
  · obtain ⟨a, ns, k, m, rfl, hS, hlen, hk, hm, q⟩ := h
    refine ⟨_, (pss_cons (ps_set (i := 3) sc_l_drawn.nd rfl (Or.inl rfl) (pe_op op_mod (pe_op op_add (pe_op op_mul (pe_op op_mod (as_fn c_l_cell (hr.mono (by decide)) (at_cons (pv 0) (as_cons (pv 1) as_nil))) pe_int) pe_int) (pe_op op_mul pe_int (pe_op op_add (pv 1) pe_int))) pe_int))
      (pss_cons (ps_set (i := 3) sc_l_drawn.nd rfl (Or.inl rfl) (pe_op op_mod (pe_op op_add (pe_op op_mul (pv 3) (pv 3)) (pe_op op_fdiv (pv 3) pe_int)) pe_int))
      (pss_one (ps_ret (pe_op op_mod (pe_op op_fdiv (pe_op op_mod (pe_op op_add (pe_op op_mul (pv 3) (pv 3)) (pe_op op_fdiv (pv 3) pe_int)) pe_int) pe_int) (pv 2)))))), ?_⟩
    refine ⟨_, rfl, _, rfl, a, ns, k, rfl, hS, hlen, hk, fun H1 s1 => ?_⟩
    have b1 : ∀ x : Int, 0 ≤ x % 2147483563 ∧ x % 2147483563 < 2147483563 := fun x => ⟨Int.emod_nonneg _ (by decide), Int.emod_lt_of_pos _ (by decide)⟩
    have b2 : ∀ x : Int, 0 ≤ x % 2147483399 ∧ x % 2147483399 < 2147483399 := fun x => ⟨Int.emod_nonneg _ (by decide), Int.emod_lt_of_pos _ (by decide)⟩
    refine ⟨_, _, rfl, rfl, (by decide : (0 : Int) < 2147483563), _, _, rfl, rfl, .inr ⟨by decide, by decide⟩, _, rfl, _, _, rfl, rfl, _, _, rfl, rfl, .inl ⟨by decide, by decide⟩, _, _, rfl, rfl, _, _, rfl, rfl, (by decide : (0 : Int) < 2147483563), ?_⟩
    have c1 := b1 (cellF ns k % 2147483563 * 69069 + 104723 * (k + 1))
    refine ⟨_, rfl, _, rfl, _, _, rfl, rfl, .inl ⟨?_, ?_⟩, _, rfl, _, _, rfl, rfl, ⟨by decide, by decide⟩, _, _, rfl, rfl, _, _, rfl, rfl, (by decide : (0 : Int) < 2147483399), ?_⟩
    · exact Int.lt_of_lt_of_le (by decide) c1.1
    · exact Int.lt_trans c1.2 (by decide)
    have c2 := b2 (draw1 (cellF ns k) k * draw1 (cellF ns k) k + draw1 (cellF ns k) k / 3)
    refine ⟨_, rfl, _, rfl, _, _, rfl, rfl, .inl ⟨?_, ?_⟩, _, rfl, _, _, rfl, rfl, ⟨by decide, by decide⟩, _, _, rfl, rfl, _, _, rfl, rfl, (by decide : (0 : Int) < 2147483647), _, _, rfl, rfl, ⟨by decide, by decide⟩, _, rfl, _, _, rfl, rfl, hm, ?_⟩
    · exact Int.lt_of_lt_of_le (by decide) c2.1
    · exact Int.lt_trans c2.2 (by decide)
    exact q H1 s1
end

section
variable {P : Program} {w : World} {K : PySem.W.Frag} {mg : Str → Option Value} {base : Heap}
abbrev s_number_of : Stmt := top 8
abbrev N_number_of : List Str := ["message"]
theorem sc_number_of : FnScope N_number_of ["message"] (defScope s_number_of) := ⟨rfl, rfl, rfl, by decide +kernel, rfl, by decide +kernel, by decide +kernel⟩
theorem ok_number_of {f : Addr} {fd : FuncData} (F : Fun K "number_of" "number_of" s_number_of f fd) : FnOk P w K mg base CX0 1 f fd ["message"] (spItem 0) := by
  refine F.ok sc_number_of (fun vs H Q E h => ?_) (fun cdv A outer s H vs Q E hr h => ?_)
  · obtain ⟨a, x, y, z, rfl, _⟩ := h; rfl
  · obtain ⟨a, x, y, z, rfl, h1, q⟩ := h
    refine ⟨_, (pss_one (ps_ret (pe_ix (k_ix_tup K) (pv 0) pe_int (fun _ _ => rfl)))), ?_⟩
    exact ⟨_, rfl, a, _, 0, x, rfl, rfl, SqT.ofT h1, rfl, q⟩

abbrev s_topic_of : Stmt := top 9
abbrev N_topic_of : List Str := ["message"]
theorem sc_topic_of : FnScope N_topic_of ["message"] (defScope s_topic_of) := ⟨rfl, rfl, rfl, by decide +kernel, rfl, by decide +kernel, by decide +kernel⟩
theorem ok_topic_of {f : Addr} {fd : FuncData} (F : Fun K "topic_of" "topic_of" s_topic_of f fd) : FnOk P w K mg base CX0 1 f fd ["message"] (spItem 1) := by
  refine F.ok sc_topic_of (fun vs H Q E h => ?_) (fun cdv A outer s H vs Q E hr h => ?_)
  · obtain ⟨a, x, y, z, rfl, _⟩ := h; rfl
  · obtain ⟨a, x, y, z, rfl, h1, q⟩ := h
    refine ⟨_, (pss_one (ps_ret (pe_ix (k_ix_tup K) (pv 0) pe_int (fun _ _ => rfl)))), ?_⟩
    exact ⟨_, rfl, a, _, 1, y, rfl, rfl, SqT.ofT h1, rfl, q⟩

abbrev s_of_topics : Stmt := top 10
abbrev N_of_topics : List Str := ["messages", "topics"]
theorem sc_of_topics : FnScope N_of_topics ["messages", "topics"] (defScope s_of_topics) := ⟨rfl, rfl, rfl, by decide +kernel, rfl, by decide +kernel, by decide +kernel⟩
theorem ok_of_topics {f : Addr} {fd : FuncData} (F : Fun K "of_topics" "of_topics" s_of_topics f fd) (T : Txt mg) (c_topic_of : Callee P w K mg base 1 "topic_of" ["message"] (spItem 1)) :
    FnOk P w K mg base CX0 2 f fd ["messages", "topics"] (spOfT K) := by
  refine F.ok sc_of_topics (fun vs H Q E h => ?_) (fun cdv A outer s H vs Q E hr h => ?_)
  · obtain ⟨a, xs, ms, tv, ts, rfl, _⟩ := h; rfl
  · obtain ⟨a, xs, ms, tv, ts, rfl, ha, hm, hlen, ht, q⟩ := h
    refine ⟨_, (pss_cons (ps_if (pt_cmpR op_isN (pv 1) pe_non (nomark _)) (pss_one (ps_ret (as_callTy (k_list_of K) (by rfl) T.b_list PyProof.Rows.boot_list (at_cons (pv 0) as_nil)))) pss_nil)
      (pss_one (ps_ret (pe_comp (N' := ["message", "topics"]) (ix := [none, some 1]) (own := [0]) rfl (cs_of (osc := defScope s_of_topics) (ON := N_of_topics) rfl rfl (by decide +kernel)) (by decide) (k_it_list K (pv 0)) (fun _ _ _ _ => (pg_name (i := 0) (show (["message", "topics"] : List Str).Nodup by decide +kernel) rfl (Or.inl rfl))) own_name (fun _ _ _ _ => (pifs_one (pt_cmpR (k_in_seq K) (as_fn c_topic_of (hr.mono (by decide)) (at_cons (pv 0) as_nil)) (pv 1) (by with_unfolding_all rfl)))) (fun _ _ _ _ => (pv 0)))))), ?_⟩
    refine ⟨_, rfl, rfl, _, rfl, ?_⟩
    rcases ht with ⟨rfl, rfl⟩ | ⟨b, l, rfl, hb, rfl⟩
    · refine ite2 (fun _ => ?_) (fun h => absurd (decide_eq_true rfl) h)
      refine ⟨_, rfl, a, xs, rfl, .inl (SqL.ofL ha), fun p hp => ?_⟩
      exact q p xs _ (Same.new hp) hp upd_same (hm.same (Same.new hp))
    · refine ite2 (fun h => absurd (of_decide_eq_true h) (by simp)) (fun _ => ?_)
      refine ⟨_, rfl, a, rfl, ⟨xs, SqL.ofL ha⟩, ms.length, fun i ys H2 => Same H H2 ∧ Ms H2 ys ((ms.take i).filter fun m => decide (m.t ∈ l)), (by rw [sizeLine_eq]; omega), ⟨Same.refl _, Ms.nil⟩, ?_, ?_⟩
      · rintro i ys H2 hi ⟨s2, hy⟩
        obtain ⟨c, ec, hc⟩ := (hm.same s2).get hi
        refine ⟨⟨xs, .ref c, SqL.ofL (s2 _ _ ha), ec⟩, ?_⟩
        rintro x H3 ⟨rfl, hx⟩
        have hx' := hx xs (SqL.ofL (s2 _ _ ha))
        rw [ec] at hx'
        obtain rfl := Option.some.inj hx'
        refine rd_name ?_
        refine ⟨_, rfl, c, _, _, _, rfl, hc, _, rfl, b, l.map V.str, rfl, .inl (s2.seq hb), rfl, flat_strs l, _, rfl, ?_⟩
        have e : (if false = true then !inV (.str ms[i].t) (l.map V.str) else inV (.str ms[i].t) (l.map V.str)) = decide (ms[i].t ∈ l) := in_strs _ l
        refine ite2 (fun h => ?_) (fun h => ?_)
        · refine ⟨_, rfl, s2, ?_⟩
          have h' : decide (ms[i].t ∈ l) = true := e.symm.trans h
          rw [flt_succ hi, if_pos h']
          exact hy.append (Ms.one hc)
        · refine ⟨s2, ?_⟩
          have h' : ¬ decide (ms[i].t ∈ l) = true := fun z => h (e.trans z)
          rw [flt_succ hi, if_neg h', List.append_nil]
          exact hy
      · rintro ys H2 ⟨s2, hy⟩
        refine ⟨⟨xs, SqL.ofL (s2 _ _ ha), by rw [hm.len]; exact Nat.le_refl _⟩, fun D hD => ?_⟩
        rw [List.take_length] at hy
        exact q D ys _ (s2.trans (Same.new hD)) (s2.free hD) upd_same (hy.same (Same.new hD))

abbrev s_with_greater_numbers : Stmt := top 11
abbrev N_with_greater_numbers : List Str := ["messages", "number"]
theorem sc_with_greater_numbers : FnScope N_with_greater_numbers ["messages", "number"] (defScope s_with_greater_numbers) := ⟨rfl, rfl, rfl, by decide +kernel, rfl, by decide +kernel, by decide +kernel⟩
theorem ok_with_greater_numbers {f : Addr} {fd : FuncData} (F : Fun K "with_greater_numbers" "with_greater_numbers" s_with_greater_numbers f fd) (T : Txt mg) (c_number_of : Callee P w K mg base 1 "number_of" ["message"] (spItem 0)) :
    FnOk P w K mg base CX0 2 f fd ["messages", "number"] spGreater := by
  refine F.ok sc_with_greater_numbers (fun vs H Q E h => ?_) (fun cdv A outer s H vs Q E hr h => ?_)
  · obtain ⟨a, xs, ms, n, rfl, _⟩ := h; rfl
  · obtain ⟨a, xs, ms, n, rfl, ha, hm, hlen, q⟩ := h
    refine ⟨_, (pss_one (ps_ret (pe_comp (N' := ["message", "number"]) (ix := [none, some 1]) (own := [0]) rfl (cs_of (osc := defScope s_with_greater_numbers) (ON := N_with_greater_numbers) rfl rfl (by decide +kernel)) (by decide) (k_it_list K (pv 0)) (fun _ _ _ _ => (pg_name (i := 0) (show (["message", "number"] : List Str).Nodup by decide +kernel) rfl (Or.inl rfl))) own_name (fun _ _ _ _ => (pifs_one (pt_cmpR op_gt (as_fn c_number_of (hr.mono (by decide)) (at_cons (pv 0) as_nil)) (pv 1) (nomark _)))) (fun _ _ _ _ => (pv 0))))), ?_⟩
    refine ⟨_, rfl, a, rfl, ⟨xs, SqL.ofL ha⟩, ms.length, fun i ys H2 => Same H H2 ∧ Ms H2 ys ((ms.take i).filter fun m => decide (m.n > n)), (by rw [sizeLine_eq]; omega), ⟨Same.refl _, Ms.nil⟩, ?_, ?_⟩
    · rintro i ys H2 hi ⟨s2, hy⟩
      obtain ⟨c, ec, hc⟩ := (hm.same s2).get hi
      refine ⟨⟨xs, .ref c, SqL.ofL (s2 _ _ ha), ec⟩, ?_⟩
      rintro x H3 ⟨rfl, hx⟩
      have hx' := hx xs (SqL.ofL (s2 _ _ ha))
      rw [ec] at hx'
      obtain rfl := Option.some.inj hx'
      refine rd_name ?_
      refine ⟨_, rfl, c, _, _, _, rfl, hc, _, rfl, _, _, rfl, rfl, _, rfl, ?_⟩
      refine ite2 (fun h => ?_) (fun h => ?_)
      · refine ⟨_, rfl, s2, ?_⟩
        rw [flt_succ hi, if_pos h]
        exact hy.append (Ms.one hc)
      · refine ⟨s2, ?_⟩
        rw [flt_succ hi, if_neg h, List.append_nil]
        exact hy
    · rintro ys H2 ⟨s2, hy⟩
      refine ⟨⟨xs, SqL.ofL (s2 _ _ ha), by rw [hm.len]; exact Nat.le_refl _⟩, fun D hD => ?_⟩
      rw [List.take_length] at hy
      exact q D ys _ (s2.trans (Same.new hD)) (s2.free hD) upd_same (hy.same (Same.new hD))

abbrev s_Teller___init__ : Stmt := inClass (top 19) 0
abbrev N_Teller___init__ : List Str := ["self", "keep"]
theorem sc_Teller___init__ : FnScope N_Teller___init__ ["self", "keep"] (defScope s_Teller___init__) := ⟨rfl, rfl, rfl, by decide +kernel, rfl, by decide +kernel, by decide +kernel⟩
theorem ok_Teller_init {f C : Addr} {fd : FuncData} (F : Fun K "__init__" "Teller.__init__" s_Teller___init__ f fd) (TC : TellerC K mg C) : FnOk P w K mg base CX0 1 f fd ["self", "keep"] (spInitT C) := by
  refine F.ok sc_Teller___init__ (fun vs H Q E h => ?_) (fun cdv A outer s H vs Q E hr h => ?_)
  · obtain ⟨p, dx, k, rfl, _⟩ := h; rfl
  · obtain ⟨p, dx, k, rfl, hp, q⟩ := h
    refine ⟨_, (pss_cons (k_sfld K (pv 0) (pv 1) rfl)
      (pss_cons (k_sfld K (pv 0) pe_int rfl)
      (pss_cons (k_sfld K (pv 0) pe_int rfl)
      (pss_cons (k_sfld K (pv 0) (as_lst as_nil) rfl)
      (pss_one (k_sfld K (pv 0) pe_dnewK rfl)))))), ?_⟩
    have l1 := putF_len "keep" (.int k) []
    have l2 := putF_len "turn" (.int 0) (putF "keep" (.int k) [])
    have l3 := putF_len "total" (.int 0) (putF "turn" (.int 0) (putF "keep" (.int k) []))
    have l0 : ([] : List (Str × V)).length = 0 := rfl
    refine ⟨_, rfl, _, rfl, p, C, dx, [], rfl, hp, TC.cl_Teller, TC.n_keep, (by show 0 < 1000; decide), ?_⟩
    refine ⟨_, rfl, p, C, dx, _, rfl, upd_same, TC.cl_Teller, TC.n_turn, by omega, ?_⟩
    refine ⟨_, rfl, p, C, dx, _, rfl, upd_same, TC.cl_Teller, TC.n_total, by omega, ?_⟩
    refine ⟨Nat.zero_le _, fun s hs => ?_⟩
    have nps : p ≠ s := ne_of_none upd_same hs
    refine ⟨_, rfl, p, C, dx, _, rfl, (by rw [upd_ne nps]; exact upd_same), TC.cl_Teller, TC.n_stored, by omega, ?_⟩
    intro d hd
    have npd : p ≠ d := ne_of_none upd_same hd
    have nsd : s ≠ d := fun e => by rw [← e, upd_ne nps.symm, upd_same] at hd; cases hd
    have l4 := putF_len "stored" (.ref s) (putF "total" (.int 0) (putF "turn" (.int 0) (putF "keep" (.int k) [])))
    refine ⟨_, rfl, p, C, dx, _, rfl, (by rw [upd_ne npd]; exact upd_same), TC.cl_Teller, TC.n_newest, by omega, ?_⟩
    rw [tF_make]
    have hs0 : H s = none := by rw [upd_ne nps.symm, upd_ne nps.symm, upd_ne nps.symm] at hs; exact hs
    have hd0 : H d = none := by rw [upd_ne npd.symm, upd_ne nsd.symm, upd_ne npd.symm, upd_ne npd.symm, upd_ne npd.symm] at hd; exact hd
    refine q s d _ hs0 hd0 ⟨⟨dx, upd_same⟩, ⟨[], ?_, (by unfold lastK; rw [List.drop_nil]; exact Ms.nil)⟩, ⟨[], ?_, .nil⟩⟩ fun b o e hb => ?_
    · rw [upd_ne nps.symm, upd_ne nsd, upd_ne nps.symm, upd_same]
    · rw [upd_ne npd.symm, upd_same]
    · rw [upd_ne hb, upd_ne (ne_of_none e hd0), upd_ne hb, upd_ne (ne_of_none e hs0), upd_ne hb, upd_ne hb, upd_ne hb]
      exact e
abbrev s_Teller_tell : Stmt := inClass (top 19) 1
abbrev N_Teller_tell : List Str := ["self", "topic", "text", "message"]
theorem sc_Teller_tell : FnScope N_Teller_tell ["self", "topic", "text"] (defScope s_Teller_tell) := ⟨rfl, rfl, rfl, by decide +kernel, rfl, by decide +kernel, by decide +kernel⟩
theorem ok_Teller_tell {f C : Addr} {fd : FuncData} (F : Fun K "tell" "Teller.tell" s_Teller_tell f fd) (T : Txt mg) (TC : TellerC K mg C) : FnOk P w K mg base CX0 1 f fd ["self", "topic", "text"] (spTell C) := by
  refine F.ok sc_Teller_tell (fun vs H Q E h => ?_) (fun cdv A outer s0 H vs Q E hr h => ?_)
  · obtain ⟨p, t, x, k, r, all, s, d, rfl, _⟩ := h; rfl
  · obtain ⟨p, t, x, k, r, all, s, d, rfl, TA, hlen, hk, q⟩ := h
    refine ⟨_, (pss_cons (k_sfld K (pv 0) (pe_op op_add (k_fld K (pv 0) rfl) pe_int) rfl)
      (pss_cons (ps_set (i := 3) sc_Teller_tell.nd rfl (Or.inl rfl) (as_tup (as_cons (k_fld K (pv 0) rfl) (as_cons (pv 1) (as_cons (pv 2) as_nil)))))
      (pss_cons (ps_dput (hu_of hr) (k_fld K (pv 0) rfl) (pv 1) (pv 3) rfl)
      (pss_cons (ps_expr (k_bm K PySem.F.plainAttrs_list PySem.F.slot_list_append PySem.F.type_list_append mt_append (k_fld K (pv 0) rfl) (pa_cons (pv 3) pa_nil)))
      (pss_cons (ps_if (pt_cmpR op_gt (as_callB (k_len_seq K) (by rfl) T.b_len PySem.boot_len (at_cons (k_fld K (pv 0) rfl) as_nil)) (k_fld K (pv 0) rfl) (nomark _)) (pss_one (ps_expr (k_bm K PySem.F.plainAttrs_list PySem.F.slot_list_pop PySem.F.type_list_pop mt_popAt (k_fld K (pv 0) rfl) (pa_cons pe_int pa_nil)))) pss_nil)
      (pss_one (ps_ret (k_fld K (pv 0) rfl)))))))), ?_⟩
    obtain ⟨⟨dx, h1⟩, ⟨ys, hs, hms⟩, ⟨kvs, hd, hdm⟩⟩ := id TA
    have nps : p ≠ s := ne_of h1 hs (by intro z; cases z)
    have npd : p ≠ d := ne_of h1 hd (by intro z; cases z)
    have nsd : s ≠ d := ne_of hs hd (by intro z; cases z)
    have lF : ∀ n, (tF k r n s d).length < 1000 := fun n => by show 5 < 1000; decide
    -- self.total = self.total + 1
    refine ⟨_, rfl, p, C, dx, _, _, rfl, h1, TC.cl_Teller, TC.n_total, tF_total, _, _, rfl, rfl, _, rfl, p, C, dx, _, rfl, h1, TC.cl_Teller, TC.n_total, lF _, ?_⟩
    rw [tF_setTotal]
    have a1 : upd H p (.ins C dx (tF k r ((all.length : Int) + 1) s d)) p = some (.ins C dx (tF k r ((all.length : Int) + 1) s d)) := upd_same
    have a2 : upd H p (.ins C dx (tF k r ((all.length : Int) + 1) s d)) s = some (.lst ys) := by rw [upd_ne nps.symm]; exact hs
    have a3 : upd H p (.ins C dx (tF k r ((all.length : Int) + 1) s d)) d = some (.dK kvs) := by rw [upd_ne npd.symm]; exact hd
    have aB : But [p, s, d] H (upd H p (.ins C dx (tF k r ((all.length : Int) + 1) s d))) := fun c o e hc => by rw [upd_ne (fun z => hc (by rw [z]; exact List.mem_cons_self))]; exact e
    have aT : Tups H (upd H p (.ins C dx (tF k r ((all.length : Int) + 1) s d))) := (Tups.refl H).put h1 (fun _ z => by cases z)
    generalize upd H p (.ins C dx (tF k r ((all.length : Int) + 1) s d)) = Ha at a1 a2 a3 aB aT ⊢
    -- message
    refine ⟨_, rfl, p, C, dx, _, _, rfl, a1, TC.cl_Teller, TC.n_total, tF_total, _, rfl, _, rfl, (show 3 ≤ sizeLine by decide), fun c hc => ?_⟩
    have sb := Same.new (o := .tup [.int ((all.length : Int) + 1), .str t, .str x]) hc
    have b1 := sb _ _ a1
    have b2 := sb _ _ a2
    have b3 := sb _ _ a3
    have bc : upd Ha c (.tup [.int ((all.length : Int) + 1), .str t, .str x]) c = some (mT ⟨(all.length : Int) + 1, t, x⟩) := upd_same
    have bB : But [p, s, d] H _ := fun c' o e hc' => sb _ _ (aB c' o e hc')
    have bT := aT.trans sb.tups
    generalize upd Ha c (.tup [.int ((all.length : Int) + 1), .str t, .str x]) = Hb at b1 b2 b3 bc bB bT ⊢
    -- self.newest[topic] = message
    have hkl : kvs.length < sizeLine := by
      have h1 := newest_len all
      rw [hdm.len, sizeLine_eq]
      omega
    refine ⟨_, rfl, _, rfl, p, C, dx, _, _, rfl, b1, TC.cl_Teller, TC.n_newest, tF_newest, _, rfl, d, _, rfl, DPut.k (k := Sum.inr t) b3 hkl, ?_⟩
    have cT : Tups Hb (upd Hb d (.dK (putK kvs (Sum.inr t) (.ref c)))) := (Tups.refl Hb).put b3 (fun _ z => by cases z)
    have c1 : upd Hb d (.dK (putK kvs (Sum.inr t) (.ref c))) p = _ := (upd_ne npd).trans b1
    have c2 : upd Hb d (.dK (putK kvs (Sum.inr t) (.ref c))) s = _ := (upd_ne nsd).trans b2
    have c3 : upd Hb d (.dK (putK kvs (Sum.inr t) (.ref c))) d = some (.dK (putK kvs (Sum.inr t) (.ref c))) := upd_same
    have cc := cT _ _ bc
    have cB : But [p, s, d] H (upd Hb d (.dK (putK kvs (Sum.inr t) (.ref c)))) := fun c' o e hc' => by rw [upd_ne (fun z => hc' (by rw [z]; simp))]; exact bB c' o e hc'
    have cTT := bT.trans cT
    generalize upd Hb d (.dK (putK kvs (Sum.inr t) (.ref c))) = Hc at c1 c2 c3 cc cB cTT ⊢
    -- self.stored.append(message)
    have hyl := hms.len
    have hll := lastK_len k all
    refine ⟨_, rfl, p, C, dx, _, _, rfl, c1, TC.cl_Teller, TC.n_stored, tF_stored, .inl ⟨rfl, _, SqL.ofL c2⟩, _, rfl, s, ys, .ref c, rfl, rfl, c2, by rw [sizeLine_eq]; omega, ?_⟩
    have dT : Tups Hc (upd Hc s (.lst (ys ++ [.ref c]))) := (Tups.refl Hc).put c2 (fun _ z => by cases z)
    have d1 : upd Hc s (.lst (ys ++ [.ref c])) p = _ := (upd_ne nps).trans c1
    have d2 : upd Hc s (.lst (ys ++ [.ref c])) s = some (.lst (ys ++ [.ref c])) := upd_same
    have d3 : upd Hc s (.lst (ys ++ [.ref c])) d = _ := (upd_ne nsd.symm).trans c3
    have dc := dT _ _ cc
    have dB : But [p, s, d] H (upd Hc s (.lst (ys ++ [.ref c]))) := fun c' o e hc' => by rw [upd_ne (fun z => hc' (by rw [z]; simp))]; exact cB c' o e hc'
    have dTT := cTT.trans dT
    generalize upd Hc s (.lst (ys ++ [.ref c])) = Hd at d1 d2 d3 dc dB dTT ⊢
    have mAll : Ms Hd (ys ++ [.ref c]) (lastK k all ++ [⟨(all.length : Int) + 1, t, x⟩]) := (hms.tups dTT).append (Ms.one dc)
    have nAll : DM Hd (putK kvs (Sum.inr t) (.ref c)) (newest (all ++ [⟨(all.length : Int) + 1, t, x⟩])) := by
      rw [newest_snoc]
      exact (hdm.tups dTT).put t (msg_has dc)
    have eT : tF k r ((all.length : Int) + 1) s d = tF k r ((all ++ [(⟨(all.length : Int) + 1, t, x⟩ : Msg)]).length : Int) s d := by rw [List.length_append, List.length_singleton]; rfl
    have elen : (((ys ++ [V.ref c]).length : Nat) : Int) = (min all.length k.toNat : Nat) + 1 := by rw [List.length_append, List.length_singleton, hyl, hll]; rfl
    -- if len(self.stored) > self.keep
    refine ⟨_, rfl, p, C, dx, _, _, rfl, d1, TC.cl_Teller, TC.n_stored, tF_stored, s, _, rfl, .inl (SqL.ofL d2), _, rfl, p, C, dx, _, _, rfl, d1, TC.cl_Teller, TC.n_keep, tF_keep, _, _, rfl, rfl, _, rfl, ?_⟩
    refine ite2 (fun hg => ?_) (fun hg => ?_)
    · have hg' : (((ys ++ [V.ref c]).length : Nat) : Int) > k := of_decide_eq_true hg
      have hfull : k.toNat ≤ all.length := by omega
      obtain ⟨y, yr, ey⟩ : ∃ y yr, ys ++ [V.ref c] = y :: yr := by
        cases ys with
        | nil => exact ⟨_, _, rfl⟩
        | cons y yr => exact ⟨_, _, rfl⟩
      have hix : seqIndex? 0 (ys ++ [V.ref c]).length = some 0 := by
        refine (ixN_seq (j := 0) ?_).1
        unfold ixN
        rw [if_pos (by decide), if_pos (by rw [ey, List.length_cons]; omega)]
        rfl
      refine ⟨_, rfl, p, C, dx, _, _, rfl, d1, TC.cl_Teller, TC.n_stored, tF_stored, .inl ⟨rfl, _, SqL.ofL d2⟩, s, _, 0, 0, y, rfl, rfl, d2, by decide, by decide, hix, by rw [ey]; rfl, ?_⟩
      have e1 : upd Hd s (.lst ((ys ++ [V.ref c]).eraseIdx 0)) p = _ := (upd_ne nps).trans d1
      refine ⟨_, rfl, p, C, dx, _, _, rfl, e1, TC.cl_Teller, TC.n_total, tF_total, ?_⟩
      have eT2 : Tups Hd (upd Hd s (.lst ((ys ++ [V.ref c]).eraseIdx 0))) := (Tups.refl Hd).put d2 (fun _ z => by cases z)
      refine q _ ⟨⟨dx, ?_⟩, ⟨_, upd_same, ?_⟩, ⟨_, (upd_ne nsd.symm).trans d3, nAll.tups eT2⟩⟩ fun c' o e hc' => ?_
      · rw [← eT]; exact e1
      · have ee : (ys ++ [V.ref c]).eraseIdx 0 = (ys ++ [V.ref c]).drop 1 := by rw [ey]; rfl
        rw [lastK_full hfull]
        rw [ee] at eT2 ⊢
        exact (mAll.drop 1).tups eT2
      · rw [upd_ne (fun z => hc' (by rw [z]; simp))]; exact dB c' o e hc'
    · have hg' : ¬ (((ys ++ [V.ref c]).length : Nat) : Int) > k := fun z => hg (decide_eq_true z)
      have hsm : all.length + 1 ≤ k.toNat := by omega
      refine ⟨_, rfl, p, C, dx, _, _, rfl, d1, TC.cl_Teller, TC.n_total, tF_total, ?_⟩
      refine q _ ⟨⟨dx, ?_⟩, ⟨_, d2, ?_⟩, ⟨_, d3, nAll⟩⟩ dB
      · rw [← eT]; exact d1
      · rw [lastK_small hsm]; exact mAll
abbrev s_Teller_told : Stmt := inClass (top 19) 2
abbrev N_Teller_told : List Str := ["self"]
theorem sc_Teller_told : FnScope N_Teller_told ["self"] (defScope s_Teller_told) := ⟨rfl, rfl, rfl, by decide +kernel, rfl, by decide +kernel, by decide +kernel⟩
theorem ok_Teller_told {f C : Addr} {fd : FuncData} (F : Fun K "told" "Teller.told" s_Teller_told f fd) (TC : TellerC K mg C) : FnOk P w K mg base CX0 1 f fd ["self"] (spTold C) := by
  refine F.ok sc_Teller_told (fun vs H Q E h => ?_) (fun cdv A outer s0 H vs Q E hr h => ?_)
  · obtain ⟨p, k, r, all, s, d, rfl, _⟩ := h; rfl
  · obtain ⟨p, k, r, all, s, d, rfl, TA, q⟩ := h
    refine ⟨_, (pss_one (ps_ret (k_fld K (pv 0) rfl))), ?_⟩
    obtain ⟨dx, h1⟩ := TA.ob
    exact ⟨_, rfl, p, C, dx, _, _, rfl, h1, TC.cl_Teller, TC.n_total, tF_total, q⟩
abbrev s_Teller_oldest : Stmt := inClass (top 19) 4
abbrev N_Teller_oldest : List Str := ["self"]
theorem sc_Teller_oldest : FnScope N_Teller_oldest ["self"] (defScope s_Teller_oldest) := ⟨rfl, rfl, rfl, by decide +kernel, rfl, by decide +kernel, by decide +kernel⟩
theorem ok_Teller_oldest {f C : Addr} {fd : FuncData} (F : Fun K "oldest" "Teller.oldest" s_Teller_oldest f fd) (T : Txt mg) (TC : TellerC K mg C) : FnOk P w K mg base CX0 1 f fd ["self"] (spOldest C) := by
  refine F.ok sc_Teller_oldest (fun vs H Q E h => ?_) (fun cdv A outer s0 H vs Q E hr h => ?_)
  · obtain ⟨p, k, r, all, s, d, rfl, _⟩ := h; rfl
  · obtain ⟨p, k, r, all, s, d, rfl, TA, q⟩ := h
    refine ⟨_, (pss_one (ps_ret (pe_op op_add (pe_op op_sub (k_fld K (pv 0) rfl) (as_callB (k_len_seq K) (by rfl) T.b_len PySem.boot_len (at_cons (k_fld K (pv 0) rfl) as_nil))) pe_int))), ?_⟩
    obtain ⟨dx, h1⟩ := TA.ob
    obtain ⟨ys, hs, hm⟩ := TA.st
    rw [← hm.len] at q
    exact ⟨_, rfl, p, C, dx, _, _, rfl, h1, TC.cl_Teller, TC.n_total, tF_total, _, rfl, p, C, dx, _, _, rfl, h1, TC.cl_Teller, TC.n_stored, tF_stored, s, ys, rfl, .inl (SqL.ofL hs), _, _, rfl, rfl, _, _, rfl, rfl, q⟩
abbrev s_Teller_behind : Stmt := inClass (top 19) 6
abbrev N_Teller_behind : List Str := ["self", "number", "topics", "found"]
theorem sc_Teller_behind : FnScope N_Teller_behind ["self", "number", "topics"] (defScope s_Teller_behind) := ⟨rfl, rfl, rfl, by decide +kernel, rfl, by decide +kernel, by decide +kernel⟩
theorem ok_Teller_behind {f C : Addr} {fd : FuncData} (F : Fun K "behind" "Teller.behind" s_Teller_behind f fd) (T : Txt mg) (TC : TellerC K mg C) (c_of_topics : Callee P w K mg base 2 "of_topics" ["messages", "topics"] (spOfT K)) (c_with_greater_numbers : Callee P w K mg base 2 "with_greater_numbers" ["messages", "number"] spGreater)
    (m_oldest : CalleeM P w K mg base 1 C "oldest" ["self"] (spOldest C)) : FnOk P w K mg base CX0 3 f fd ["self", "number", "topics"] (spBehind K C) := by
  refine F.ok sc_Teller_behind (fun vs H Q E h => ?_) (fun cdv A outer s0 H vs Q E hr h => ?_)
  · obtain ⟨p, n, tv, ts, k, r, all, s, d, rfl, _⟩ := h; rfl
  · obtain ⟨p, n, tv, ts, k, r, all, s, d, rfl, TA, hlen, hn0, hn1, htv, q⟩ := h
    refine ⟨_, (pss_cons (ps_if (PW.pt (pw_or (pt_cmpR op_lt (pv 1) pe_int (nomark _)) (pw_or1 (pt_cmpR op_gt (pv 1) (k_fld K (pv 0) rfl) (nomark _))))) (pss_one ps_never) pss_nil)
      (pss_cons (ps_set (i := 3) sc_Teller_behind.nd rfl (Or.inl rfl) (as_fn c_of_topics (hr.mono (by decide)) (at_cons (as_fn c_with_greater_numbers (hr.mono (by decide)) (at_cons (k_fld K (pv 0) rfl) (as_cons (pv 1) as_nil))) (as_cons (pv 2) as_nil))))
      (pss_one (ps_ret (as_tup (as_cons (pv 3) (as_cons (as_callB (call_max2 rfl) (by rfl) T.b_max PyProof.Rows.boot_max (at_cons pe_int (as_cons (pe_op op_sub (pe_op op_sub (as_meth0 m_oldest TC.cl_Teller (hr.mono (by decide)) (pv 0)) pe_int) (pv 1)) as_nil))) as_nil))))))), ?_⟩
    obtain ⟨dx, h1⟩ := TA.ob
    obtain ⟨ys, hs, hm⟩ := TA.st
    have hll := lastK_len k all
    refine ⟨_, rfl, _, _, rfl, rfl, _, rfl, ?_⟩
    refine ite2 (fun z => absurd (of_decide_eq_true z) (by omega)) (fun _ => ?_)
    refine ⟨_, rfl, _, rfl, p, C, dx, _, _, rfl, h1, TC.cl_Teller, TC.n_total, tF_total, _, _, rfl, rfl, _, rfl, ?_⟩
    refine ite2 (fun z => absurd (of_decide_eq_true z) (by omega)) (fun _ => ?_)
    refine ⟨_, rfl, p, C, dx, _, _, rfl, h1, TC.cl_Teller, TC.n_stored, tF_stored, _, rfl, s, ys, _, n, rfl, hs, hm, by omega, fun p1 y1 H1 s1 n1 e1 m1 => ?_⟩
    have hfl : ((lastK k all).filter fun m => decide (m.n > n)).length ≤ (lastK k all).length := List.length_filter_le _ _
    refine ⟨_, rfl, p1, y1, _, tv, ts, rfl, e1, m1, by omega, htv.same s1, fun p2 y2 H2 s2 n2 e2 m2 => ?_⟩
    have s12 := s1.trans s2
    obtain ⟨dx', g1⟩ := (TA.same s12).ob
    refine ⟨_, rfl, _, rfl, p, dx', _, rfl, g1, tF_no (by decide +kernel) (by decide +kernel) (by decide +kernel) (by decide +kernel) (by decide +kernel), p, k, r, all, s, d, rfl, TA.same s12, ?_⟩
    refine ⟨_, _, rfl, rfl, _, rfl, _, _, rfl, rfl, 0, _, rfl, (show 2 ≤ sizeLine by decide), fun p3 hp3 => ?_⟩
    have s3 := Same.new (o := .tup [.ref p2, .int (missedF k n all)]) hp3
    exact q p3 p2 y2 _ (s12.trans s3) (s12.free hp3) (s1.free n2) upd_same (s3 _ _ e2) (m2.same s3)

abbrev s_Road___init__ : Stmt := inClass (top 17) 0
abbrev N_Road___init__ : List Str := ["self", "size", "way"]
theorem sc_Road___init__ : FnScope N_Road___init__ ["self", "size", "way"] (defScope s_Road___init__) := ⟨rfl, rfl, rfl, by decide +kernel, rfl, by decide +kernel, by decide +kernel⟩
theorem ok_Road_init {f C : Addr} {fd : FuncData} (F : Fun K "__init__" "Road.__init__" s_Road___init__ f fd) (TC : RoadC K mg C) : FnOk P w K mg base CX0 1 f fd ["self", "size", "way"] (spInitR C) := by
  refine F.ok sc_Road___init__ (fun vs H Q E h => ?_) (fun cdv A outer s H vs Q E hr h => ?_)
  · obtain ⟨p, dx, sz, way, rfl, _⟩ := h; rfl
  · obtain ⟨p, dx, sz, way, rfl, hp, q⟩ := h
    refine ⟨_, (pss_cons (k_sfld K (pv 0) (pv 1) rfl)
      (pss_cons (k_sfld K (pv 0) (pv 2) rfl)
      (pss_cons (k_sfld K (pv 0) (as_lst as_nil) rfl)
      (pss_cons (k_sfld K (pv 0) (as_lst as_nil) rfl)
      (pss_one (k_sfld K (pv 0) pe_bl rfl)))))), ?_⟩
    have l1 := putF_len "size" (.int sz) []
    have l2 := putF_len "way" (.str way) (putF "size" (.int sz) [])
    have l0 : ([] : List (Str × V)).length = 0 := rfl
    refine ⟨_, rfl, _, rfl, p, C, dx, [], rfl, hp, TC.cl_Road, TC.n_size, (by show 0 < 1000; decide), ?_⟩
    refine ⟨_, rfl, _, rfl, p, C, dx, _, rfl, upd_same, TC.cl_Road, TC.n_way, by omega, ?_⟩
    refine ⟨Nat.zero_le _, fun r hr => ?_⟩
    have npr : p ≠ r := ne_of_none upd_same hr
    refine ⟨_, rfl, p, C, dx, _, rfl, (by rw [upd_ne npr]; exact upd_same), TC.cl_Road, TC.n_row, by omega, ?_⟩
    refine ⟨Nat.zero_le _, fun d hd => ?_⟩
    have npd : p ≠ d := ne_of_none upd_same hd
    have nrd : r ≠ d := fun e => by rw [← e, upd_ne npr.symm, upd_same] at hd; cases hd
    have l3 := putF_len "row" (.ref r) (putF "way" (.str way) (putF "size" (.int sz) []))
    refine ⟨_, rfl, p, C, dx, _, rfl, (by rw [upd_ne npd]; exact upd_same), TC.cl_Road, TC.n_dropped, by omega, ?_⟩
    have l4 := putF_len "dropped" (.ref d) (putF "row" (.ref r) (putF "way" (.str way) (putF "size" (.int sz) [])))
    refine ⟨_, rfl, p, C, dx, _, rfl, upd_same, TC.cl_Road, TC.n_broken, by omega, ?_⟩
    rw [rF_make]
    have hr0 : H r = none := by rw [upd_ne npr.symm, upd_ne npr.symm] at hr; exact hr
    have hd0 : H d = none := by rw [upd_ne npd.symm, upd_ne nrd.symm, upd_ne npd.symm, upd_ne npd.symm] at hd; exact hd
    refine q r d _ ⟨⟨dx, upd_same⟩, ⟨[], ?_, Ms.nil⟩, ?_, nrd⟩ ⟨fun b o e hb => ?_, fun b xs e => ?_, fun c hc => ?_⟩
    · rw [upd_ne npr.symm, upd_ne npr.symm, upd_ne nrd, upd_ne npr.symm, upd_same]
    · rw [upd_ne npd.symm, upd_ne npd.symm, upd_same]; rfl
    · have hb' : b ≠ p := by simpa using hb
      rw [upd_ne hb', upd_ne hb', upd_ne (ne_of_none e hd0), upd_ne hb', upd_ne (ne_of_none e hr0), upd_ne hb', upd_ne hb']; exact e
    · have hb' : b ≠ p := ne_of e hp (by intro z; cases z)
      rw [upd_ne hb', upd_ne hb', upd_ne (ne_of_none e hd0), upd_ne hb', upd_ne (ne_of_none e hr0), upd_ne hb', upd_ne hb']; exact e
    · simp only [List.mem_cons, List.not_mem_nil, or_false] at hc
      rcases hc with rfl | rfl | rfl
      · exact .inl (by simp)
      · exact .inr hr0
      · exact .inr hd0
abbrev s_Road_leave_out : Stmt := inClass (top 17) 3
abbrev N_Road_leave_out : List Str := ["self", "messages"]
theorem sc_Road_leave_out : FnScope N_Road_leave_out ["self", "messages"] (defScope s_Road_leave_out) := ⟨rfl, rfl, rfl, by decide +kernel, rfl, by decide +kernel, by decide +kernel⟩
theorem ok_Road_leave_out {f C : Addr} {fd : FuncData} (F : Fun K "leave_out" "Road.leave_out" s_Road_leave_out f fd) (TC : RoadC K mg C) (c_number_of : Callee P w K mg base 1 "number_of" ["message"] (spItem 0)) : FnOk P w K mg base CX0 2 f fd ["self", "messages"] (spLeave C) := by
  refine F.ok sc_Road_leave_out (fun vs H Q E h => ?_) (fun cdv A outer s0 H vs Q E hr h => ?_)
  · obtain ⟨p, b, xs, ms, sz, way, s, r, d, rfl, _⟩ := h; rfl
  · obtain ⟨p, b, xs, ms, sz, way, s, r, d, rfl, RA, hb, hm, hml, hol, q⟩ := h
    refine ⟨_, (pss_one (ps_expr (k_bm K PySem.F.plainAttrs_list PySem.F.slot_list_extend PySem.F.type_list_extend mt_extend (k_fld K (pv 0) rfl) (pa_cons (pe_comp (N' := ["message"]) (ix := [none]) (own := [0]) rfl (cs_of (osc := defScope s_Road_leave_out) (ON := N_Road_leave_out) rfl rfl (by decide +kernel)) (by decide) (k_it_list K (pv 1)) (fun _ _ _ _ => (pg_name (i := 0) (show (["message"] : List Str).Nodup by decide +kernel) rfl (Or.inl rfl))) own_name (fun _ _ _ _ => pifs_nil) (fun _ _ _ _ => (as_fn c_number_of (hr.mono (by decide)) (at_cons (pv 0) as_nil)))) pa_nil)))), ?_⟩
    obtain ⟨⟨dx, h1⟩, ⟨ys, h2, h3⟩, h4, h5⟩ := id RA
    refine ⟨_, rfl, p, C, dx, _, _, rfl, h1, TC.cl_Road, TC.n_dropped, rF_dropped, .inl ⟨rfl, _, SqL.ofL h4⟩, _, rfl, b, rfl, ⟨xs, SqL.ofL hb⟩, ?_⟩
    refine ⟨_, PMap H ms fun m => .int m.n, szl (by omega), PMap.zero, PMap.step hb hm (fun c m R N hmm hc hR => ?_), fun ys' H2 hP => ?_⟩
    · exact rd_name (rd_yes (iteT ⟨_, rfl, c, _, _, _, rfl, hc, hR⟩))
    · obtain ⟨hst, rfl, rfl⟩ := PMap.done (K := K) hb hm hP
      refine ⟨hst, fun D hD => ?_⟩
      have s1 := Same.new (o := .lst (ms.map fun m => V.int m.n)) hD
      refine ⟨d, D, _, _, rfl, rfl, s1 _ _ h4, upd_same, by rw [List.length_map, List.length_map, sizeLine_eq]; omega, ?_⟩
      have st : Stp [d] H [d] _ := (s1.step [d]).trans (Stp.put (o := .lst (s.out.map V.int ++ ms.map fun m => V.int m.n)) (s1 _ _ h4) (fun _ z => by cases z) (by simp))
      refine q _ ⟨⟨dx, st.keep h1 (by simp [RA.npd])⟩, ⟨ys, st.keep h2 (by simp [h5]), h3.step st⟩, ?_, h5⟩ st
      rw [upd_same, List.map_append, List.map_map]; rfl
abbrev s_Road_put_without_room : Stmt := inClass (top 17) 2
abbrev N_Road_put_without_room : List Str := ["self", "message"]
theorem sc_Road_put_without_room : FnScope N_Road_put_without_room ["self", "message"] (defScope s_Road_put_without_room) := ⟨rfl, rfl, rfl, by decide +kernel, rfl, by decide +kernel, by decide +kernel⟩
theorem ok_Road_put_without_room {f C : Addr} {fd : FuncData} (F : Fun K "put_without_room" "Road.put_without_room" s_Road_put_without_room f fd) (TC : RoadC K mg C) (m_leave_out : CalleeM P w K mg base 2 C "leave_out" ["self", "messages"] (spLeave C)) : FnOk P w K mg base CX0 3 f fd ["self", "message"] (spPutW C) := by
  refine F.ok sc_Road_put_without_room (fun vs H Q E h => ?_) (fun cdv A outer s0 H vs Q E hr h => ?_)
  · obtain ⟨p, c, m, sz, way, s, r, d, rfl, _⟩ := h; rfl
  · obtain ⟨p, c, m, sz, way, s, r, d, rfl, RA, hc, hrl, hol, hcut, hns, q⟩ := h
    refine ⟨_, (pss_cons (ps_if (pt_cmpR op_eq (k_fld K (pv 0) rfl) pe_str (nomark _)) (pss_cons (ps_expr (as_meth m_leave_out TC.cl_Road (hr.mono (by decide)) (pv 0) (at_cons (pe_slice (k_sl_list K) (k_fld K (pv 0) rfl) po_none (po_some pe_int)) as_nil)))
      (pss_cons (k_sfld K (pv 0) (pe_op op_cat (pe_slice (k_sl_list K) (k_fld K (pv 0) rfl) (po_some pe_int) po_none) (as_lst (as_cons (pv 1) as_nil))) rfl)
      (pss_one (ps_ret pe_bl)))) pss_nil)
      (pss_cons (ps_if (pt_cmpR op_eq (k_fld K (pv 0) rfl) pe_str (nomark _)) (pss_cons (ps_expr (as_meth m_leave_out TC.cl_Road (hr.mono (by decide)) (pv 0) (at_cons (as_lst (as_cons (pv 1) as_nil)) as_nil)))
      (pss_one (ps_ret pe_bl))) pss_nil)
      (pss_cons (ps_expr (as_meth m_leave_out TC.cl_Road (hr.mono (by decide)) (pv 0) (at_cons (pe_op op_cat (k_fld K (pv 0) rfl) (as_lst (as_cons (pv 1) as_nil))) as_nil)))
      (pss_cons (k_sfld K (pv 0) (as_lst as_nil) rfl)
      (pss_cons (k_sfld K (pv 0) pe_bl rfl)
      (pss_one (ps_ret pe_bl))))))), ?_⟩
    obtain ⟨⟨dx, h1⟩, ⟨ys, h2, h3⟩, h4, h5⟩ := id RA
    have no : ∀ {r d : Addr} {b : Bool}, (rF sz way r d b).lookup ("leave_out" : Str) = none := rF_no (by decide +kernel) (by decide +kernel) (by decide +kernel) (by decide +kernel) (by decide +kernel)
    have lF : ∀ {r d : Addr} {b : Bool}, (rF sz way r d b).length < 1000 := by intro r d b; show 5 < 1000; decide
    have hyl := h3.len
    have hsc : ¬ s.cut = true := by rw [hcut]; decide
    refine ⟨_, rfl, p, C, dx, _, _, rfl, h1, TC.cl_Road, TC.n_way, rF_way, rfl, _, rfl, ?_⟩
    refine ite2 (fun ho => ?_) (fun ho => ?_)
    · have how : way = "old" := by simpa using ho
      have eS : rputS sz way s m = { s with rows := s.rows.drop 1 ++ [m], out := s.out ++ (s.rows.take 1).map (·.n) } := by
        unfold rputS; rw [if_neg hsc, if_neg hns, if_pos how]
      have eB : rputB sz way s = true := by unfold rputB; rw [if_neg hsc, if_neg hns, if_pos how]
      rw [eS, eB] at q
      refine ⟨_, rfl, p, dx, _, rfl, h1, no, _, rfl, p, C, dx, _, _, rfl, h1, TC.cl_Road, TC.n_row, rF_row, _, rfl, r, ys, rfl, SqL.ofL h2, fun l hl => ?_⟩
      rw [cut_to (by decide)]
      have s1 := Same.new (o := .lst (ys.take (1 : Int).toNat)) hl
      refine ⟨p, l, _, s.rows.take 1, sz, way, s, r, d, rfl, RA.same s1, upd_same, (h3.same s1).take 1, by rw [List.length_take]; omega, hol, fun H2 RA2 st2 => ?_⟩
      have st2' := (s1.step [d]).trans st2
      obtain ⟨⟨dx2, g1⟩, ⟨ys2, g2, g3⟩, g4, g5⟩ := id RA2
      refine ⟨_, rfl, p, C, dx2, _, _, rfl, g1, TC.cl_Road, TC.n_row, rF_row, _, rfl, r, ys2, rfl, SqL.ofL g2, fun l2 hl2 => ?_⟩
      rw [cut_from (by decide)]
      have s3 := Same.new (o := .lst (ys2.drop (1 : Int).toNat)) hl2
      refine ⟨_, rfl, (show 1 ≤ sizeLine by decide), fun l3 hl3 => ?_⟩
      have s4 := s3.trans (Same.new (o := .lst [.ref c]) hl3)
      refine ⟨l2, l3, _, _, rfl, rfl, (Same.new (o := .lst [.ref c]) hl3) _ _ upd_same, upd_same, by rw [List.length_drop, sizeLine_eq, g3.len]; show _ - _ + 1 ≤ _; have : ({ s with out := s.out ++ (s.rows.take 1).map (·.n) } : RS).rows.length = s.rows.length := rfl; omega, fun l4 hl4 => ?_⟩
      have s5 := s4.trans (Same.new (o := .lst (ys2.drop (1 : Int).toNat ++ [.ref c])) hl4)
      have i1 := s5 _ _ g1
      refine ⟨_, rfl, p, C, dx2, _, rfl, i1, TC.cl_Road, TC.n_row, lF, ?_⟩
      rw [rF_setRow]
      have np4 : p ≠ l4 := ne_of_none (s4 _ _ g1) hl4
      have nd4 : l4 ≠ d := (ne_of_none (s4 _ _ g4) hl4).symm
      have st : Stp [p, r, d] H [p, l4, d] _ := ((st2'.up (qs := [p, r, d]) (by simp)).trans ((s4.step [p, r, d]).trans (Stp.make (o := .lst (ys2.drop (1 : Int).toNat ++ [.ref c])) hl4))).trans ((Stp.put (p := p) (ps := [p, l4, d]) (o := .ins C dx2 (rF sz way l4 d s.cut)) i1 (fun _ z => by cases z) (by simp)).weak (qs := l4 :: [p, r, d]) (by simp) (by simp))
      have hc2 := st.tup _ _ hc
      refine q l4 _ ⟨⟨dx2, upd_same⟩, ⟨_, (upd_ne np4.symm).trans upd_same, ?_⟩, ?_, nd4⟩ st
      · exact ((g3.drop 1).tups (s5.tups.trans (Stp.put (ps := [p]) (o := .ins C dx2 (rF sz way l4 d s.cut)) i1 (fun _ z => by cases z) (by simp)).tup)).append (Ms.one hc2)
      · rw [upd_ne (ne_of g1 g4 (by intro z; cases z)).symm]
        exact s5 _ _ g4
    · have how : ¬ way = "old" := by simpa using ho
      refine ⟨_, rfl, p, C, dx, _, _, rfl, h1, TC.cl_Road, TC.n_way, rF_way, rfl, _, rfl, ?_⟩
      refine ite2 (fun hw => ?_) (fun hw => ?_)
      · have hwn : way = "new" := by simpa using hw
        have eS : rputS sz way s m = { s with out := s.out ++ [m.n] } := by
          unfold rputS; rw [if_neg hsc, if_neg hns, if_neg how, if_pos hwn]
        have eB : rputB sz way s = false := by unfold rputB; rw [if_neg hsc, if_neg hns, if_neg how]
        rw [eS, eB] at q
        refine ⟨_, rfl, p, dx, _, rfl, h1, no, _, rfl, (show 1 ≤ sizeLine by decide), fun l hl => ?_⟩
        have s1 := Same.new (o := .lst [.ref c]) hl
        exact ⟨p, l, _, [m], sz, way, s, r, d, rfl, RA.same s1, upd_same, Ms.one (s1 _ _ hc), (show 1 < 64 by decide), hol, fun H2 RA2 st2 => q r H2 RA2 (((s1.step [d]).trans st2).up (by simp))⟩
      · have hwn : ¬ way = "new" := by simpa using hw
        have eS : rputS sz way s m = ⟨[], s.out ++ (s.rows ++ [m]).map (·.n), true⟩ := by
          unfold rputS; rw [if_neg hsc, if_neg hns, if_neg how, if_neg hwn]
        have eB : rputB sz way s = false := by unfold rputB; rw [if_neg hsc, if_neg hns, if_neg how]
        rw [eS, eB] at q
        refine ⟨_, rfl, p, dx, _, rfl, h1, no, _, rfl, p, C, dx, _, _, rfl, h1, TC.cl_Road, TC.n_row, rF_row, _, rfl, (show 1 ≤ sizeLine by decide), fun l hl => ?_⟩
        have s1 := Same.new (o := .lst [.ref c]) hl
        refine ⟨r, l, _, _, rfl, rfl, s1 _ _ h2, upd_same, by rw [sizeLine_eq, hyl]; show _ + 1 ≤ _; omega, fun l2 hl2 => ?_⟩
        have s2 := s1.trans (Same.new (o := .lst (ys ++ [.ref c])) hl2)
        refine ⟨p, l2, _, s.rows ++ [m], sz, way, s, r, d, rfl, RA.same s2, upd_same, (h3.same s2).append (Ms.one (s2 _ _ hc)), by rw [List.length_append]; show _ + 1 < _; omega, hol, fun H3 RA3 st3 => ?_⟩
        obtain ⟨⟨dx3, g1⟩, ⟨ys3, g2, g3⟩, g4, g5⟩ := id RA3
        refine ⟨Nat.zero_le _, fun l4 hl4 => ?_⟩
        have s4 := Same.new (o := .lst []) hl4
        have i1 := s4 _ _ g1
        refine ⟨_, rfl, p, C, dx3, _, rfl, i1, TC.cl_Road, TC.n_row, lF, ?_⟩
        rw [rF_setRow]
        refine ⟨_, rfl, p, C, dx3, _, rfl, upd_same, TC.cl_Road, TC.n_broken, lF, ?_⟩
        rw [rF_setBroken, upd_upd]
        have np4 : p ≠ l4 := ne_of_none g1 hl4
        have nd4 : l4 ≠ d := (ne_of_none g4 hl4).symm
        have st : Stp [p, r, d] H [p, l4, d] _ := ((((s2.step [d]).trans st3).up (qs := [p, r, d]) (by simp)).trans (Stp.make (o := .lst []) hl4)).trans ((Stp.put (p := p) (ps := [p, l4, d]) (o := .ins C dx3 (rF sz way l4 d true)) i1 (fun _ z => by cases z) (by simp)).weak (qs := l4 :: [p, r, d]) (by simp) (by simp))
        refine q l4 _ ⟨⟨dx3, upd_same⟩, ⟨_, (upd_ne np4.symm).trans upd_same, Ms.nil⟩, ?_, nd4⟩ st
        rw [upd_ne (ne_of g1 g4 (by intro z; cases z)).symm]
        exact s4 _ _ g4
abbrev s_Road_put : Stmt := inClass (top 17) 1
abbrev N_Road_put : List Str := ["self", "message"]
theorem sc_Road_put : FnScope N_Road_put ["self", "message"] (defScope s_Road_put) := ⟨rfl, rfl, rfl, by decide +kernel, rfl, by decide +kernel, by decide +kernel⟩
theorem ok_Road_put {f C : Addr} {fd : FuncData} (F : Fun K "put" "Road.put" s_Road_put f fd) (T : Txt mg) (TC : RoadC K mg C) (m_leave_out : CalleeM P w K mg base 2 C "leave_out" ["self", "messages"] (spLeave C)) (m_put_without_room : CalleeM P w K mg base 3 C "put_without_room" ["self", "message"] (spPutW C)) : FnOk P w K mg base CX0 4 f fd ["self", "message"] (spPut C) := by
  refine F.ok sc_Road_put (fun vs H Q E h => ?_) (fun cdv A outer s0 H vs Q E hr h => ?_)
  · obtain ⟨p, c, m, sz, way, s, r, d, rfl, _⟩ := h; rfl
  · obtain ⟨p, c, m, sz, way, s, r, d, rfl, RA, hc, hrl, hol, q⟩ := h
    refine ⟨_, (pss_cons (ps_if (pt_val (k_fld K (pv 0) rfl)) (pss_cons (ps_expr (as_meth m_leave_out TC.cl_Road (hr.mono (by decide)) (pv 0) (at_cons (as_lst (as_cons (pv 1) as_nil)) as_nil)))
      (pss_one (ps_ret pe_bl))) pss_nil)
      (pss_cons (ps_if (pt_cmpR op_lt (as_callB (k_len_seq K) (by rfl) T.b_len PySem.boot_len (at_cons (k_fld K (pv 0) rfl) as_nil)) (k_fld K (pv 0) rfl) (nomark _)) (pss_cons (ps_expr (k_bm K PySem.F.plainAttrs_list PySem.F.slot_list_append PySem.F.type_list_append mt_append (k_fld K (pv 0) rfl) (pa_cons (pv 1) pa_nil)))
      (pss_one (ps_ret pe_bl))) pss_nil)
      (pss_one (ps_ret (as_meth m_put_without_room TC.cl_Road (hr.mono (by decide)) (pv 0) (at_cons (pv 1) as_nil)))))), ?_⟩
    obtain ⟨⟨dx, h1⟩, ⟨ys, h2, h3⟩, h4, h5⟩ := id RA
    have no1 : ∀ {r d : Addr} {b : Bool}, (rF sz way r d b).lookup ("leave_out" : Str) = none := rF_no (by decide +kernel) (by decide +kernel) (by decide +kernel) (by decide +kernel) (by decide +kernel)
    have no2 : ∀ {r d : Addr} {b : Bool}, (rF sz way r d b).lookup ("put_without_room" : Str) = none := rF_no (by decide +kernel) (by decide +kernel) (by decide +kernel) (by decide +kernel) (by decide +kernel)
    have hyl := h3.len
    refine ⟨_, rfl, p, C, dx, _, _, rfl, h1, TC.cl_Road, TC.n_broken, rF_broken, _, rfl, ?_⟩
    refine ite2 (fun hsc => ?_) (fun hsc => ?_)
    · have eS : rputS sz way s m = { s with out := s.out ++ [m.n] } := by unfold rputS; rw [if_pos hsc]
      have eB : rputB sz way s = false := by unfold rputB; rw [if_pos hsc]
      rw [eS, eB] at q
      refine ⟨_, rfl, p, dx, _, rfl, h1, no1, _, rfl, (show 1 ≤ sizeLine by decide), fun l hl => ?_⟩
      have s1 := Same.new (o := .lst [.ref c]) hl
      exact ⟨p, l, _, [m], sz, way, s, r, d, rfl, RA.same s1, upd_same, Ms.one (s1 _ _ hc), (show 1 < 64 by decide), hol, fun H2 RA2 st2 => q r H2 RA2 (((s1.step [d]).trans st2).up (by simp))⟩
    · refine ⟨_, rfl, p, C, dx, _, _, rfl, h1, TC.cl_Road, TC.n_row, rF_row, r, ys, rfl, .inl (SqL.ofL h2), _, rfl, p, C, dx, _, _, rfl, h1, TC.cl_Road, TC.n_size, rF_size, _, _, rfl, rfl, _, rfl, ?_⟩
      refine ite2 (fun hlt => ?_) (fun hlt => ?_)
      · have hlt' : (s.rows.length : Int) < sz := by rw [← hyl]; exact of_decide_eq_true hlt
        have eS : rputS sz way s m = { s with rows := s.rows ++ [m] } := by unfold rputS; rw [if_neg hsc, if_pos hlt']
        have eB : rputB sz way s = true := by unfold rputB; rw [if_neg hsc, if_pos hlt']
        rw [eS, eB] at q
        refine ⟨_, rfl, p, C, dx, _, _, rfl, h1, TC.cl_Road, TC.n_row, rF_row, .inl ⟨rfl, _, SqL.ofL h2⟩, _, rfl, r, ys, .ref c, rfl, rfl, h2, by rw [sizeLine_eq, hyl]; omega, ?_⟩
        have st : Stp [r] H [r] (upd H r (.lst (ys ++ [.ref c]))) := Stp.put h2 (fun _ z => by cases z) (by simp)
        exact q r _ ⟨⟨dx, st.keep h1 (by simp [RA.npr])⟩, ⟨_, upd_same, (h3.step st).append (Ms.one (st.tup _ _ hc))⟩, st.keep h4 (by simp [h5.symm]), h5⟩ (st.up (by simp))
      · have hlt' : ¬ (s.rows.length : Int) < sz := by rw [← hyl]; exact fun z => hlt (decide_eq_true z)
        exact ⟨_, rfl, p, dx, _, rfl, h1, no2, _, rfl, p, c, m, sz, way, s, r, d, rfl, RA, hc, hrl, hol, by simpa using hsc, hlt', q⟩
abbrev s_Road_take : Stmt := inClass (top 17) 4
abbrev N_Road_take : List Str := ["self", "many", "taken"]
theorem sc_Road_take : FnScope N_Road_take ["self", "many"] (defScope s_Road_take) := ⟨rfl, rfl, rfl, by decide +kernel, rfl, by decide +kernel, by decide +kernel⟩
theorem ok_Road_take {f C : Addr} {fd : FuncData} (F : Fun K "take" "Road.take" s_Road_take f fd) (T : Txt mg) (TC : RoadC K mg C) : FnOk P w K mg base CX0 1 f fd ["self", "many"] (spTakeR C) := by
  refine F.ok sc_Road_take (fun vs H Q E h => ?_) (fun cdv A outer s0 H vs Q E hr h => ?_)
  · obtain ⟨p, n, sz, way, s, r, d, rfl, _⟩ := h; rfl
  · obtain ⟨p, n, sz, way, s, r, d, rfl, RA, hn, q⟩ := h
    refine ⟨_, (pss_cons (ps_set (i := 2) sc_Road_take.nd rfl (Or.inl rfl) (pe_slice (k_sl_list K) (k_fld K (pv 0) rfl) po_none (po_some (as_callB (call_max2 rfl) (by rfl) T.b_max PyProof.Rows.boot_max (at_cons pe_int (as_cons (pv 1) as_nil))))))
      (pss_cons (k_sfld K (pv 0) (pe_slice (k_sl_list K) (k_fld K (pv 0) rfl) (po_some (as_callB (k_len_seq K) (by rfl) T.b_len PySem.boot_len (at_cons (pv 2) as_nil))) po_none) rfl)
      (pss_one (ps_ret (pv 2))))), ?_⟩
    obtain ⟨⟨dx, h1⟩, ⟨ys, h2, h3⟩, h4, h5⟩ := id RA
    have lF : ∀ {r d : Addr} {b : Bool}, (rF sz way r d b).length < 1000 := by intro r d b; show 5 < 1000; decide
    have hmx : (if n > 0 then n else 0) = n := by split <;> omega
    refine ⟨_, rfl, p, C, dx, _, _, rfl, h1, TC.cl_Road, TC.n_row, rF_row, _, rfl, _, _, rfl, _, rfl, r, ys, rfl, SqL.ofL h2, fun l hl => ?_⟩
    rw [hmx, cut_to hn]
    have s1 := Same.new (o := .lst (ys.take n.toNat)) hl
    refine ⟨_, rfl, p, C, dx, _, _, rfl, s1 _ _ h1, TC.cl_Road, TC.n_row, rF_row, _, rfl, l, _, rfl, .inl (SqL.ofL upd_same), _, rfl, r, ys, rfl, SqL.ofL (s1 _ _ h2), fun l2 hl2 => ?_⟩
    have e2 : cutV ys (some (((ys.take n.toNat).length : Nat) : Int)) none = ys.drop n.toNat := by
      rw [cut_from (by omega), Int.toNat_natCast, List.length_take]
      by_cases hh : n.toNat ≤ ys.length
      · rw [Nat.min_eq_left hh]
      · rw [Nat.min_eq_right (by omega), List.drop_of_length_le (Nat.le_refl _), List.drop_of_length_le (by omega)]
    rw [e2]
    have s2 := s1.trans (Same.new (o := .lst (ys.drop n.toNat)) hl2)
    have i1 := s2 _ _ h1
    refine ⟨_, rfl, p, C, dx, _, rfl, i1, TC.cl_Road, TC.n_row, lF, ?_⟩
    rw [rF_setRow]
    have np2 : p ≠ l2 := ne_of_none (s1 _ _ h1) hl2
    have nd2 : l2 ≠ d := (ne_of_none (s1 _ _ h4) hl2).symm
    have nl2 : l ≠ l2 := ne_of_none upd_same hl2
    have nlp : l ≠ p := (ne_of_none h1 hl).symm
    have stp := Stp.put (p := p) (ps := [p]) (o := .ins C dx (rF sz way l2 d s.cut)) i1 (fun _ z => by cases z) (by simp)
    have st : Stp [p, r, d] H [p, l2, d] _ := ((s1.step [p, r, d]).trans (Stp.make (o := .lst (ys.drop n.toNat)) hl2)).trans (stp.weak (qs := l2 :: [p, r, d]) (by simp) (by simp))
    refine ⟨_, rfl, q l _ l2 _ ⟨⟨dx, upd_same⟩, ⟨_, (upd_ne np2.symm).trans upd_same, (h3.drop _).step st⟩, ?_, nd2⟩ st hl ?_ ?_ ((h3.take _).step st)⟩
    · rw [upd_ne RA.npd.symm]; exact s2 _ _ h4
    · simp [nlp, nl2, (ne_of_none h4 hl).symm]
    · rw [upd_ne nlp, upd_ne nl2, upd_same]
abbrev s_Road_waiting : Stmt := inClass (top 17) 5
abbrev N_Road_waiting : List Str := ["self"]
theorem sc_Road_waiting : FnScope N_Road_waiting ["self"] (defScope s_Road_waiting) := ⟨rfl, rfl, rfl, by decide +kernel, rfl, by decide +kernel, by decide +kernel⟩
theorem ok_Road_waiting {f C : Addr} {fd : FuncData} (F : Fun K "waiting" "Road.waiting" s_Road_waiting f fd) (T : Txt mg) (TC : RoadC K mg C) : FnOk P w K mg base CX0 1 f fd ["self"] (spWait C) := by
  refine F.ok sc_Road_waiting (fun vs H Q E h => ?_) (fun cdv A outer s0 H vs Q E hr h => ?_)
  · obtain ⟨p, sz, way, s, r, d, rfl, _⟩ := h; rfl
  · obtain ⟨p, sz, way, s, r, d, rfl, RA, q⟩ := h
    refine ⟨_, (pss_one (ps_ret (as_callTy (k_list_of K) (by rfl) T.b_list PyProof.Rows.boot_list (at_cons (k_fld K (pv 0) rfl) as_nil)))), ?_⟩
    obtain ⟨⟨dx, h1⟩, ⟨ys, h2, h3⟩, h4, h5⟩ := id RA
    exact ⟨_, rfl, p, C, dx, _, _, rfl, h1, TC.cl_Road, TC.n_row, rF_row, r, ys, rfl, .inl (SqL.ofL h2), fun l hl => q l ys hl (h3.same (Same.new hl))⟩

abbrev s_Road_mend : Stmt := inClass (top 17) 8
abbrev N_Road_mend : List Str := ["self"]
theorem sc_Road_mend : FnScope N_Road_mend ["self"] (defScope s_Road_mend) := ⟨rfl, rfl, rfl, by decide +kernel, rfl, by decide +kernel, by decide +kernel⟩
theorem ok_Road_mend {f C : Addr} {fd : FuncData} (F : Fun K "mend" "Road.mend" s_Road_mend f fd) (TC : RoadC K mg C) : FnOk P w K mg base CX0 1 f fd ["self"] (spMend C) := by
  refine F.ok sc_Road_mend (fun vs H Q E h => ?_) (fun cdv A outer s0 H vs Q E hr h => ?_)
  · obtain ⟨p, sz, way, s, r, d, rfl, _⟩ := h; rfl
  · obtain ⟨p, sz, way, s, r, d, rfl, RA, q⟩ := h
    refine ⟨_, (pss_one (k_sfld K (pv 0) pe_bl rfl)), ?_⟩
    obtain ⟨⟨dx, h1⟩, ⟨ys, h2, h3⟩, h4, h5⟩ := id RA
    refine ⟨_, rfl, p, C, dx, _, rfl, h1, TC.cl_Road, TC.n_broken, (show 5 < 1000 by decide), ?_⟩
    rw [rF_setBroken]
    have st : Stp [p] H [p] (upd H p (.ins C dx (rF sz way r d false))) := Stp.put h1 (fun _ z => by cases z) (by simp)
    exact q _ ⟨⟨dx, upd_same⟩, ⟨ys, st.keep h2 (by simp [RA.npr.symm]), h3.step st⟩, st.keep h4 (by simp [RA.npd.symm]), h5⟩ (st.up (by simp))

theorem no_h {C : Addr} {H : Hp} {a : HA} {s : HS} {ex : List (Str × V)} (h : HAt C H a s ex) {nx : Int} {f : Str} (hf : f = "expects" ∨ f = "take" ∨ f = "take_all" ∨ f = "refuse_others" ∨ f = "hear_held" ∨ f = "heard" ∨ f = "early" ∨ f = "missing" ∨ f = "lost" ∨ f = "give_up" ∨ f = "state") : (hF nx a.q a.h a.k a.g ex).lookup f = none := by
  rcases hf with rfl | rfl | rfl | rfl | rfl | rfl | rfl | rfl | rfl | rfl | rfl <;> exact (hF_no (by decide +kernel) (by decide +kernel) (by decide +kernel) (by decide +kernel) (by decide +kernel)).trans (h.exn _ (by decide +kernel))
abbrev s_Hearer___init__ : Stmt := inClass (top 14) 0
abbrev N_Hearer___init__ : List Str := ["self"]
theorem sc_Hearer___init__ : FnScope N_Hearer___init__ ["self"] (defScope s_Hearer___init__) := ⟨rfl, rfl, rfl, by decide +kernel, rfl, by decide +kernel, by decide +kernel⟩
theorem ok_Hearer_init {f C : Addr} {fd : FuncData} (F : Fun K "__init__" "Hearer.__init__" s_Hearer___init__ f fd) (TC : HearC K C) : FnOk P w K mg base CX0 1 f fd ["self"] (spInitH C) := by
  refine F.ok sc_Hearer___init__ (fun vs H Q E h => ?_) (fun cdv A outer s H vs Q E hr h => ?_)
  · obtain ⟨p, dx, rfl, _⟩ := h; rfl
  · obtain ⟨p, dx, rfl, hp, qq⟩ := h
    refine ⟨_, (pss_cons (k_sfld K (pv 0) pe_int rfl)
      (pss_cons (k_sfld K (pv 0) (as_lst as_nil) rfl)
      (pss_cons (k_sfld K (pv 0) pe_dnewK rfl)
      (pss_cons (k_sfld K (pv 0) pe_dnewK rfl)
      (pss_one (k_sfld K (pv 0) (as_lst as_nil) rfl)))))), ?_⟩
    have l0 : ([] : List (Str × V)).length = 0 := rfl
    have l1 := putF_len "next_number" (.int 1) []
    refine ⟨_, rfl, p, C, dx, [], rfl, hp, TC.cl_Hearer, TC.n_next_number, (by show 0 < 1000; decide), ?_⟩
    refine ⟨Nat.zero_le _, fun q hq => ?_⟩
    have npq : p ≠ q := ne_of_none upd_same hq
    refine ⟨_, rfl, p, C, dx, _, rfl, (by rw [upd_ne npq]; exact upd_same), TC.cl_Hearer, TC.n_past, by omega, ?_⟩
    have l2 := putF_len "past" (.ref q) (putF "next_number" (.int 1) [])
    intro h hh
    have nph : p ≠ h := ne_of_none upd_same hh
    have nqh : q ≠ h := fun e => by rw [← e, upd_ne npq.symm, upd_same] at hh; cases hh
    refine ⟨_, rfl, p, C, dx, _, rfl, (by rw [upd_ne nph]; exact upd_same), TC.cl_Hearer, TC.n_held, by omega, ?_⟩
    have l3 := putF_len "held" (.ref h) (putF "past" (.ref q) (putF "next_number" (.int 1) []))
    intro k hk
    have npk : p ≠ k := ne_of_none upd_same hk
    have nhk : h ≠ k := fun e => by rw [← e, upd_ne nph.symm, upd_same] at hk; cases hk
    have nqk : q ≠ k := fun e => by rw [← e, upd_ne npq.symm, upd_ne nqh, upd_ne npq.symm, upd_same] at hk; cases hk
    refine ⟨_, rfl, p, C, dx, _, rfl, (by rw [upd_ne npk]; exact upd_same), TC.cl_Hearer, TC.n_known, by omega, ?_⟩
    have l4 := putF_len "known" (.ref k) (putF "held" (.ref h) (putF "past" (.ref q) (putF "next_number" (.int 1) [])))
    refine ⟨Nat.zero_le _, fun g hg => ?_⟩
    have npg : p ≠ g := ne_of_none upd_same hg
    have nkg : k ≠ g := fun e => by rw [← e, upd_ne npk.symm, upd_same] at hg; cases hg
    have nhg : h ≠ g := fun e => by rw [← e, upd_ne nph.symm, upd_ne nhk, upd_ne nph.symm, upd_same] at hg; cases hg
    have nqg : q ≠ g := fun e => by rw [← e, upd_ne npq.symm, upd_ne nqk, upd_ne npq.symm, upd_ne nqh, upd_ne npq.symm, upd_same] at hg; cases hg
    refine ⟨_, rfl, p, C, dx, _, rfl, (by rw [upd_ne npg]; exact upd_same), TC.cl_Hearer, TC.n_given_up, by omega, ?_⟩
    rw [hF_make]
    have q0 : H q = none := by rw [upd_ne npq.symm] at hq; exact hq
    have h0 : H h = none := by rw [upd_ne nph.symm, upd_ne nqh.symm, upd_ne nph.symm] at hh; exact hh
    have k0 : H k = none := by rw [upd_ne npk.symm, upd_ne nhk.symm, upd_ne npk.symm, upd_ne nqk.symm, upd_ne npk.symm] at hk; exact hk
    have g0 : H g = none := by rw [upd_ne npg.symm, upd_ne nkg.symm, upd_ne npg.symm, upd_ne nhg.symm, upd_ne npg.symm, upd_ne nqg.symm, upd_ne npg.symm] at hg; exact hg
    refine qq ⟨p, q, h, k, g⟩ _ rfl ⟨⟨dx, upd_same⟩, ⟨[], ?_, Ms.nil⟩, ⟨[], ?_, .nil⟩, ⟨[], [], ?_, .nil, List.nodup_nil, Nat.le_refl _, (fun m => by simp [hs0])⟩, ?_, nqg, nhk, fun _ _ => rfl, by decide⟩ ⟨fun b o e hb => ?_, fun b xs e => ?_, fun c hc => ?_⟩
    · show upd _ _ _ q = _; rw [upd_ne npq.symm, upd_ne nqg, upd_ne npq.symm, upd_ne nqk, upd_ne npq.symm, upd_ne nqh, upd_ne npq.symm, upd_same]
    · show upd _ _ _ h = _; rw [upd_ne nph.symm, upd_ne nhg, upd_ne nph.symm, upd_ne nhk, upd_ne nph.symm, upd_same]
    · show upd _ _ _ k = _; rw [upd_ne npk.symm, upd_ne nkg, upd_ne npk.symm, upd_same]
    · show upd _ _ _ g = _; rw [upd_ne npg.symm, upd_same]; rfl
    · have hb' : b ≠ p := by simpa using hb
      rw [upd_ne hb', upd_ne (ne_of_none e g0), upd_ne hb', upd_ne (ne_of_none e k0), upd_ne hb', upd_ne (ne_of_none e h0), upd_ne hb', upd_ne (ne_of_none e q0), upd_ne hb']; exact e
    · have hb' : b ≠ p := ne_of e hp (by intro z; cases z)
      rw [upd_ne hb', upd_ne (ne_of_none e g0), upd_ne hb', upd_ne (ne_of_none e k0), upd_ne hb', upd_ne (ne_of_none e h0), upd_ne hb', upd_ne (ne_of_none e q0), upd_ne hb']; exact e
    · simp only [HA.fp, List.mem_cons, List.not_mem_nil, or_false] at hc
      rcases hc with rfl | rfl | rfl | rfl | rfl
      · exact .inl (by simp)
      · exact .inr q0
      · exact .inr h0
      · exact .inr k0
      · exact .inr g0
abbrev s_Hearer_expects : Stmt := inClass (top 14) 1
abbrev N_Hearer_expects : List Str := ["self"]
theorem sc_Hearer_expects : FnScope N_Hearer_expects ["self"] (defScope s_Hearer_expects) := ⟨rfl, rfl, rfl, by decide +kernel, rfl, by decide +kernel, by decide +kernel⟩
theorem ok_Hearer_expects {f C : Addr} {fd : FuncData} (F : Fun K "expects" "Hearer.expects" s_Hearer_expects f fd) (TC : HearC K C) : FnOk P w K mg base CX0 1 f fd ["self"] (spExpects C) := by
  refine F.ok sc_Hearer_expects (fun vs H Q E h => ?_) (fun cdv A outer s0 H vs Q E hr h => ?_)
  · obtain ⟨a, s, ex, rfl, _⟩ := h; rfl
  · obtain ⟨a, s, ex, rfl, hA, q⟩ := h
    refine ⟨_, (pss_one (ps_ret (k_fld K (pv 0) rfl))), ?_⟩
    obtain ⟨dx, h1⟩ := hA.ob
    exact ⟨_, rfl, a.p, C, dx, _, _, rfl, h1, TC.cl_Hearer, TC.n_next_number, hF_next, q⟩
abbrev s_Hearer_heard : Stmt := inClass (top 14) 6
abbrev N_Hearer_heard : List Str := ["self"]
theorem sc_Hearer_heard : FnScope N_Hearer_heard ["self"] (defScope s_Hearer_heard) := ⟨rfl, rfl, rfl, by decide +kernel, rfl, by decide +kernel, by decide +kernel⟩
theorem ok_Hearer_heard {f C : Addr} {fd : FuncData} (F : Fun K "heard" "Hearer.heard" s_Hearer_heard f fd) (T : Txt mg) (TC : HearC K C) : FnOk P w K mg base CX0 1 f fd ["self"] (spHeard C) := by
  refine F.ok sc_Hearer_heard (fun vs H Q E h => ?_) (fun cdv A outer s0 H vs Q E hr h => ?_)
  · obtain ⟨a, s, ex, rfl, _⟩ := h; rfl
  · obtain ⟨a, s, ex, rfl, hA, q⟩ := h
    refine ⟨_, (pss_one (ps_ret (as_callTy (k_list_of K) (by rfl) T.b_list PyProof.Rows.boot_list (at_cons (k_fld K (pv 0) rfl) as_nil)))), ?_⟩
    obtain ⟨dx, h1⟩ := hA.ob
    obtain ⟨ys, h2, h3⟩ := hA.pa
    exact ⟨_, rfl, a.p, C, dx, _, _, rfl, h1, TC.cl_Hearer, TC.n_past, hF_past, a.q, ys, rfl, .inl (SqL.ofL h2), fun l hl => q l ys hl (h3.same (Same.new hl))⟩
abbrev s_Hearer_hear_held : Stmt := inClass (top 14) 5
abbrev N_Hearer_hear_held : List Str := ["self", "heard"]
theorem sc_Hearer_hear_held : FnScope N_Hearer_hear_held ["self"] (defScope s_Hearer_hear_held) := ⟨rfl, rfl, rfl, by decide +kernel, rfl, by decide +kernel, by decide +kernel⟩
theorem hear_mem {s : HS} (d : Diff s.held) : Diff (hearS s).held ∧ (hearS s).heard.length + (hearS s).held.length = s.heard.length + s.held.length ∧ ∀ m, (m ∈ (hearS s).heard ∨ m ∈ (hearS s).held) ↔ (m ∈ s.heard ∨ m ∈ s.held) := by
  refine (hearS_ind (P := fun t => Diff t.held ∧ t.heard.length + t.held.length = s.heard.length + s.held.length ∧ ∀ m, (m ∈ t.heard ∨ m ∈ t.held) ↔ (m ∈ s.heard ∨ m ∈ s.held)) ?_ s ⟨d, rfl, fun _ => Iff.rfl⟩).1
  rintro t m ⟨h1, h2, h3⟩ e
  obtain ⟨hm, hn⟩ := findN_some e
  refine ⟨dropN_diff h1, ?_, fun x => ?_⟩
  · have := dropN_len h1 hm
    show (t.heard ++ [m]).length + (dropN t.held m.n).length = _
    rw [List.length_append, List.length_singleton]; omega
  · rw [← h3 x]
    show (x ∈ t.heard ++ [m] ∨ x ∈ dropN t.held m.n) ↔ _
    rw [List.mem_append, List.mem_singleton, dropN_mem]
    constructor
    · rintro ((z | rfl) | ⟨z, _⟩)
      · exact .inl z
      · exact .inr hm
      · exact .inr z
    · rintro (z | z)
      · exact .inl (.inl z)
      · by_cases ee : x.n = m.n
        · exact .inl (.inr (h1.eq z hm ee))
        · exact .inr ⟨z, ee⟩
theorem ok_Hearer_hear_held {f C : Addr} {fd : FuncData} (F : Fun K "hear_held" "Hearer.hear_held" s_Hearer_hear_held f fd) (TC : HearC K C) : FnOk P w K mg base CX0 1 f fd ["self"] (spHear C) := by
  refine F.ok sc_Hearer_hear_held (fun vs H Q E h => ?_) (fun cdv A outer s0 H vs Q E hr h => ?_)
  · obtain ⟨a, s, ex, rfl, _⟩ := h; rfl
  · obtain ⟨a, s, ex, rfl, hA, hd, hsm, q⟩ := h
    refine ⟨_, (pss_cons (ps_set (i := 1) sc_Hearer_hear_held.nd rfl (Or.inl rfl) (as_lst as_nil))
      (pss_cons (ps_while PassesOwn.never (pt_cmp (pc_din (hu_of hr) (k_fld K (pv 0) rfl) (k_fld K (pv 0) rfl))) (pss_cons (ps_expr (k_bm K PySem.F.plainAttrs_list PySem.F.slot_list_append PySem.F.type_list_append mt_append (pv 1) (pa_cons (pe_dpop1 (k_fld K (pv 0) rfl) (k_fld K (pv 0) rfl) ⟨rfl, rfl, rfl, rfl⟩) pa_nil)))
      (pss_one (k_sfld K (pv 0) (pe_op op_add (k_fld K (pv 0) rfl) pe_int) rfl))))
      (pss_cons (ps_expr (k_bm K PySem.F.plainAttrs_list PySem.F.slot_list_extend PySem.F.type_list_extend mt_extend (k_fld K (pv 0) rfl) (pa_cons (pv 1) pa_nil)))
      (pss_one (ps_ret (pv 1)))))), ?_⟩
    obtain ⟨npq, nph, npk, npg, nqh, nqk, nqg, nhk, nhg, nkg⟩ := hA.apart
    obtain ⟨⟨dx, h1⟩, ⟨yq, h2, m2⟩, ⟨kh, h3, d3⟩, hkn, h5, _, _, hex, hexl⟩ := id hA
    obtain ⟨hD, hL, hM⟩ := hear_mem hd
    unfold HS.small at hsm
    refine ⟨Nat.zero_le _, fun l hl0 => ?_⟩
    have nl : l ∉ a.fp := hA.free hl0
    have nl' : l ≠ a.p ∧ l ≠ a.q ∧ l ≠ a.h ∧ l ≠ a.k ∧ l ≠ a.g := by simpa [HA.fp] using nl
    have s1 := Same.new (o := .lst []) hl0
    let W : Nat → St → Hp → Prop := fun m σ H' => ∃ (t : HS) (found : List Msg) (fs : List V) (kv : List (Key × V)), m = t.held.length ∧ σ = [some (.ref a.p), some (.ref l)] ∧ hearS t = hearS s ∧ t.heard = s.heard ++ found ∧ t.lost = s.lost ∧ t.heard.length + t.held.length = s.heard.length + s.held.length ∧
      H' a.p = some (.ins C dx (hF t.next a.q a.h a.k a.g ex)) ∧ H' a.h = some (.dK kv) ∧ DI H' kv t.held ∧ H' l = some (.lst fs) ∧ Ms H' fs found ∧ Diff t.held ∧ Stp [l, a.p, a.h] (upd H l (.lst [])) [l, a.p, a.h] H'
    refine ⟨W, ?_, ?_⟩
    · exact ⟨_, s, [], [], kh, rfl, rfl, rfl, (List.append_nil _).symm, rfl, rfl, s1 _ _ h1, s1 _ _ h3, d3.same s1, upd_same, Ms.nil, hd, Stp.refl _ _⟩
    · rintro m σ H' ⟨t, found, fs, kv, rfl, rfl, et, eh, el, esz, g1, g3, gd, gl, gm, gdf, st⟩
      refine ⟨_, rfl, a.p, C, dx, _, _, rfl, g1, TC.cl_Hearer, TC.n_next_number, hF_next, _, rfl, a.p, C, dx, _, _, rfl, g1, TC.cl_Hearer, TC.n_held, hF_held, a.h, _, rfl, DGet.k (k := Sum.inl t.next) g3, _, rfl, ?_⟩
      have lfs := gm.len
      have lfo : found.length ≤ 3000 := by have := congrArg List.length eh; rw [List.length_append] at this; omega
      cases e : findN t.held t.next with
      | none =>
        rw [gd.none _ e]
        refine iteF ?_
        have eS : hearS s = t := by rw [← et]; exact hearS_none e
        -- self.past.extend(heard)
        have g2 := st.keep (s1 _ _ h2) (by simp [nl'.2.1.symm, npq.symm, nqh])
        have g5 := st.keep (s1 _ _ h5) (by simp [nl'.2.2.2.2.symm, npg.symm, nhg.symm])
        obtain ⟨kvk, mk, hk1, hk2, hk3, hk4, hk5⟩ := hkn
        have g4 := st.keep (s1 _ _ hk1) (by simp [nl'.2.2.2.1.symm, npk.symm, nhk.symm])
        have m2' := (m2.same s1).step st
        have lyq := m2.len
        refine ⟨_, rfl, a.p, C, dx, _, _, rfl, g1, TC.cl_Hearer, TC.n_past, hF_past, .inl ⟨rfl, _, SqL.ofL g2⟩, _, rfl, a.q, l, yq, fs, rfl, rfl, g2, gl, by rw [sizeLine_eq]; omega, ?_⟩
        have sq := Stp.put (ps := [a.q]) (o := .lst (yq ++ fs)) g2 (fun _ z => by cases z) (by simp)
        refine ⟨_, rfl, ?_⟩
        rw [eS] at q hM hL
        have st' : Stp a.fp H (l :: a.fp) _ := ((Stp.make (ps := a.fp) (o := .lst []) hl0).trans (st.weak (qs := l :: a.fp) (by simp [HA.fp]) (by intro c hc; exact .inr hc))).trans (sq.weak (qs := l :: a.fp) (by simp [HA.fp]) (by intro c hc; exact .inr hc))
        refine q l fs found _ ⟨⟨dx, sq.keep g1 (by simp [npq])⟩, ⟨_, upd_same, ?_⟩, ⟨kv, sq.keep g3 (by simp [nqh.symm]), gd.tups sq.tup⟩, ⟨kvk, mk, sq.keep g4 (by simp [nqk.symm]), ((hk2.same s1).tups st.tup).tups sq.tup, hk3, by omega, fun m => (hk5 m).trans (hM m).symm⟩, ?_, nqg, nhk, hex, hexl⟩ eh st' hl0 nl (sq.keep gl (by simp [nl'.2.1])) (gm.step sq)
        · rw [eh]; exact (m2'.step sq).append (gm.step sq)
        · rw [el]; exact sq.keep g5 (by simp [nqg.symm])
      | some m =>
        obtain ⟨c, hv, hc⟩ := gd.some _ e
        obtain ⟨hmm, hmn⟩ := findN_some e
        rw [hv]
        refine iteT ?_
        refine ⟨fun σ' H2 => ∃ m', m' < t.held.length ∧ W m' σ' H2, fun _ _ z => z, ?body⟩
        case body =>
          -- heard.append(self.held.pop(..))
          refine ⟨_, rfl, .inl ⟨rfl, _, SqL.ofL gl⟩, _, rfl, a.p, C, dx, _, _, rfl, g1, TC.cl_Hearer, TC.n_held, hF_held, a.h, rfl, .inl ⟨kv, .inl g3⟩, _, rfl, a.p, C, dx, _, _, rfl, g1, TC.cl_Hearer, TC.n_next_number, hF_next, kv, Sum.inl t.next, .ref c, g3, rfl, hv, ?_⟩
          have sa := Stp.put (ps := [a.h]) (o := .dK (dropK kv (Sum.inl t.next))) g3 (fun _ z => by cases z) (by simp)
          have gl1 := sa.keep gl (by simp [nl'.2.2.1])
          refine ⟨l, fs, .ref c, rfl, rfl, gl1, by rw [sizeLine_eq]; omega, ?_⟩
          have sb := Stp.put (ps := [l]) (o := .lst (fs ++ [.ref c])) gl1 (fun _ z => by cases z) (by simp)
          have g1b := sb.keep (sa.keep g1 (by simp [nph])) (by simp [nl'.1.symm])
          -- self.next_number
          refine ⟨_, rfl, a.p, C, dx, _, _, rfl, g1b, TC.cl_Hearer, TC.n_next_number, hF_next, _, _, rfl, rfl, _, rfl, a.p, C, dx, _, rfl, g1b, TC.cl_Hearer, TC.n_next_number, ?_, ?_⟩
          · exact hF_len hexl
          rw [hF_setNext]
          have sc := Stp.put (ps := [a.p]) (o := .ins C dx (hF (t.next + 1) a.q a.h a.k a.g ex)) g1b (fun _ z => by cases z) (by simp)
          have dl := dropN_len gdf hmm
          exact ⟨_, dropN_lt hmm, ⟨t.heard ++ [m], dropN t.held m.n, t.lost⟩, found ++ [m], fs ++ [.ref c], dropK kv (Sum.inl t.next), rfl, rfl, by rw [← hearS_some e]; exact et, by rw [eh, List.append_assoc], el, by show (t.heard ++ [m]).length + (dropN t.held m.n).length = _; rw [List.length_append, List.length_singleton]; omega,
            by rw [next_snoc]; exact upd_same, sc.keep (sb.keep upd_same (by simp [nl'.2.2.1.symm])) (by simp [nph.symm]), by rw [hmn]; exact ((gd.drop t.next).tups sa.tup).tups (sb.tup.trans sc.tup), sc.keep upd_same (by simp [nl'.1]), (((gm.step sa).step sb).append (Ms.one (sb.tup _ _ (sa.tup _ _ hc)))).step sc, dropN_diff gdf,
            st.trans ((sa.up (by simp)).trans ((sb.up (by simp)).trans (sc.up (by simp))))⟩
abbrev s_Hearer_refuse_others : Stmt := inClass (top 14) 4
abbrev N_Hearer_refuse_others : List Str := ["self", "messages", "fresh", "message", "number"]
theorem sc_Hearer_refuse_others : FnScope N_Hearer_refuse_others ["self", "messages"] (defScope s_Hearer_refuse_others) := ⟨rfl, rfl, rfl, by decide +kernel, rfl, by decide +kernel, by decide +kernel⟩
theorem ok_Hearer_refuse_others {f C : Addr} {fd : FuncData} (F : Fun K "refuse_others" "Hearer.refuse_others" s_Hearer_refuse_others f fd) (TC : HearC K C) (c_number_of : Callee P w K mg base 1 "number_of" ["message"] (spItem 0)) : FnOk P w K mg base CX0 2 f fd ["self", "messages"] (spRefuse C) := by
  refine F.ok sc_Hearer_refuse_others (fun vs H Q E h => ?_) (fun cdv A outer s0 H vs Q E hr h => ?_)
  · obtain ⟨a, s, ex, b, xs, ms, rfl, _⟩ := h; rfl
  · obtain ⟨a, s, ex, b, xs, ms, rfl, hA, hb, hm, hml, hfit, hok, q⟩ := h
    refine ⟨_, (pss_cons (ps_set (i := 2) sc_Hearer_refuse_others.nd rfl (Or.inl rfl) pe_dnewK)
      (pss_one (ps_for PassesOwn.never rfl (k_it_list K (pv 1)) (pg_name (i := 3) sc_Hearer_refuse_others.nd rfl (Or.inl rfl)) (pss_cons (ps_set (i := 4) sc_Hearer_refuse_others.nd rfl (Or.inl rfl) (as_fn c_number_of (hr.mono (by decide)) (at_cons (pv 3) as_nil)))
      (pss_cons (ps_if (pt_cmpR (op_neD hr.units) (pe_dget2 (hu_of hr) (k_fld K (pv 0) rfl) (pv 4) (pe_dget2 (hu_of hr) (pv 2) (pv 4) (pv 3) ⟨rfl, rfl, rfl, rfl⟩) ⟨rfl, rfl, rfl, rfl⟩) (pv 3) (nomark _)) (pss_one ps_never) pss_nil)
      (pss_one (ps_if (pt_cmpR op_ge (pv 4) (k_fld K (pv 0) rfl) (nomark _)) (pss_one (ps_dput (hu_of hr) (pv 2) (pv 4) (pv 3) rfl)) pss_nil))))))), ?_⟩
    intro f0 hf0
    have s1 := Same.new (o := .dK []) hf0
    have hxl := hm.len
    refine ⟨_, rfl, b, rfl, ⟨xs, SqL.ofL (s1 _ _ hb)⟩, for_list (K := K) (a := b) (xs := xs) (fun i σ H' => ∃ (o3 o4 : Option V) (kv : List (Key × V)) (fr : List Msg), σ = [some (.ref a.p), some (.ref b), some (.ref f0), o3, o4] ∧ H' f0 = some (.dK kv) ∧ DI H' kv fr ∧ fr.length ≤ i ∧ (∀ x ∈ fr, x ∈ ms) ∧ Same H H')
      ⟨none, none, [], [], rfl, upd_same, .nil, Nat.le_refl _, (fun _ z => nomatch z), s1⟩ (fun i σ H' _ ⟨_, _, _, _, _, _, _, _, _, sH⟩ => SqL.ofL (sH _ _ hb)) ?_ ?_⟩
    · rintro i y σ H' hi ⟨o3, o4, kv, fr, rfl, hf, dF, hfl, hfm, sH⟩
      have hil : i < ms.length := by rw [← hxl]; exact (List.getElem?_eq_some_iff.mp hi).1
      obtain ⟨c, ec, hc⟩ := (hm.same sH).get hil
      rw [hi] at ec
      obtain rfl := Option.some.inj ec
      have hmem := List.getElem_mem hil
      generalize ms[i] = m at hc hmem
      refine rd_name ?_
      obtain ⟨⟨dx, h1⟩, _, _, ⟨kvk, mk, hk1, hk2, hk3, hk4, hk5⟩, _, _, _, _, _⟩ := hA.same sH
      refine ⟨_, rfl, c, _, _, _, rfl, hc, ?_⟩
      -- what is known of its number is it
      have hv : ∃ c', (valV kvk (Sum.inl m.n)).getD ((valV kv (Sum.inl m.n)).getD (.ref c)) = .ref c' ∧ H' c' = some (mT m) := by
        cases e : findN mk m.n with
        | some x =>
          obtain ⟨c', h1, h2⟩ := hk2.some _ e
          obtain ⟨hx, hn⟩ := findN_some e
          have : x = m := hfit.1 m hmem x ((hk5 x).mp hx) hn
          rw [h1]; exact ⟨c', rfl, by rw [← this]; exact h2⟩
        | none =>
          rw [hk2.none _ e]
          cases e' : findN fr m.n with
          | some x =>
            obtain ⟨c', h1, h2⟩ := dF.some _ e'
            obtain ⟨hx, hn⟩ := findN_some e'
            have : x = m := hfit.2 m hmem x (hfm x hx) hn
            rw [h1]; exact ⟨c', rfl, by rw [← this]; exact h2⟩
          | none => rw [dF.none _ e']; exact ⟨c, rfl, hc⟩
      obtain ⟨c', ev, hc'⟩ := hv
      refine ⟨_, rfl, a.p, C, dx, _, _, rfl, h1, TC.cl_Hearer, TC.n_known, hF_known, a.k, rfl, .inl ⟨kvk, .inl hk1⟩, _, rfl, _, rfl, f0, rfl, .inl ⟨kv, .inl hf⟩, _, rfl, _, rfl, _, DGet.k (k := Sum.inl m.n) hf, _, DGet.k (k := Sum.inl m.n) hk1, ?_⟩
      rw [ev]
      refine ⟨_, rfl, ne_D (msg_has hc') (msg_has hc) (shaped_m (hok m hmem)) ⟨_, rfl, iteF ?_⟩⟩
      refine ⟨_, rfl, _, rfl, a.p, C, dx, _, _, rfl, h1, TC.cl_Hearer, TC.n_next_number, hF_next, _, _, rfl, rfl, _, rfl, ?_⟩
      refine ite2 (fun hz => ?_) (fun hz => ?_)
      · refine ⟨_, rfl, _, rfl, _, rfl, f0, _, rfl, DPut.k (k := Sum.inl m.n) hf (by rw [dF.len, sizeLine_eq]; omega), ?_⟩
        have st := Stp.put (ps := [f0]) (o := .dK (putK kv (Sum.inl m.n) (.ref c))) hf (fun _ z => by cases z) (by simp)
        have hpl : (putM fr m).length ≤ fr.length + 1 := putM_len
        refine ⟨_, _, _, putM fr m, rfl, upd_same, (dF.put (msg_has hc)).tups st.tup, by omega, fun x hx => ?_, fun z o hz => st.keep (sH z o hz) (by simp [ne_of_none hz hf0])⟩
        rcases (putM_mem (fun y hy e => hfit.2 m hmem y (hfm y hy) e)).mp hx with z | rfl
        · exact hfm x z
        · exact hmem
      · exact ⟨_, _, kv, fr, rfl, hf, dF, by omega, hfm, sH⟩
    · rintro σ H' ⟨o3, o4, kv, fr, rfl, hf, dF, hfl, hfm, sH⟩
      exact q _ sH
abbrev s_Hearer_take_all : Stmt := inClass (top 14) 3
abbrev N_Hearer_take_all : List Str := ["self", "messages", "message", "number"]
theorem sc_Hearer_take_all : FnScope N_Hearer_take_all ["self", "messages"] (defScope s_Hearer_take_all) := ⟨rfl, rfl, rfl, by decide +kernel, rfl, by decide +kernel, by decide +kernel⟩
theorem fits_adds {s : HS} {ms : List Msg} (hf : Fits s ms) (i : Nat) : ∀ x, x ∈ ((ms.take i).foldl addS s).held → x ∈ s.held ∨ x ∈ ms := by
  induction i with
  | zero => intro x hx; exact .inl hx
  | succ i ih =>
    intro x hx
    by_cases hi : i < ms.length
    · rw [List.take_add_one, List.getElem?_eq_getElem hi, List.foldl_append] at hx
      have hx' : x ∈ (addS ((ms.take i).foldl addS s) ms[i]).held := hx
      unfold addS at hx'
      split at hx'
      · have hpp : ∀ y ∈ ((ms.take i).foldl addS s).held, y.n = ms[i].n → y = ms[i] := fun y hy e => by
          rcases ih y hy with w | w
          · exact hf.1 _ (List.getElem_mem hi) y (.inr w) e
          · exact hf.2 _ (List.getElem_mem hi) y w e
        rcases (putM_mem hpp).mp hx' with z | z
        · exact ih x z
        · exact .inr (by rw [z]; exact List.getElem_mem hi)
      · exact ih x hx'
    · rw [List.take_of_length_le (by omega)] at hx
      rw [List.take_of_length_le (by omega)] at ih
      exact ih x hx
theorem ok_Hearer_take_all {f C : Addr} {fd : FuncData} (F : Fun K "take_all" "Hearer.take_all" s_Hearer_take_all f fd) (TC : HearC K C) (c_number_of : Callee P w K mg base 1 "number_of" ["message"] (spItem 0)) (m_refuse_others : CalleeM P w K mg base 2 C "refuse_others" ["self", "messages"] (spRefuse C)) (m_hear_held : CalleeM P w K mg base 1 C "hear_held" ["self"] (spHear C)) : FnOk P w K mg base CX0 3 f fd ["self", "messages"] (spTakeAll C) := by
  refine F.ok sc_Hearer_take_all (fun vs H Q E h => ?_) (fun cdv A outer s0 H vs Q E hr h => ?_)
  · obtain ⟨a, s, ex, b, xs, ms, rfl, _⟩ := h; rfl
  · obtain ⟨a, s, ex, b, xs, ms, rfl, hA, hb, hm, hml, hfit, hok, hd, hsz, q⟩ := h
    refine ⟨_, (pss_cons (ps_expr (as_meth m_refuse_others TC.cl_Hearer (hr.mono (by decide)) (pv 0) (at_cons (pv 1) as_nil)))
      (pss_cons (ps_for PassesOwn.never rfl (k_it_list K (pv 1)) (pg_name (i := 2) sc_Hearer_take_all.nd rfl (Or.inl rfl)) (pss_cons (ps_set (i := 3) sc_Hearer_take_all.nd rfl (Or.inl rfl) (as_fn c_number_of (hr.mono (by decide)) (at_cons (pv 2) as_nil)))
      (pss_one (ps_if (pt_cmpR op_ge (pv 3) (k_fld K (pv 0) rfl) (nomark _)) (pss_cons (ps_dput (hu_of hr) (k_fld K (pv 0) rfl) (pv 3) (pv 2) rfl)
      (pss_one (ps_dput (hu_of hr) (k_fld K (pv 0) rfl) (pv 3) (pv 2) rfl))) pss_nil))))
      (pss_one (ps_ret (as_meth0 m_hear_held TC.cl_Hearer (hr.mono (by decide)) (pv 0)))))), ?_⟩
    obtain ⟨dx, h1⟩ := hA.ob
    have hxl := hm.len
    refine ⟨_, rfl, a.p, dx, _, rfl, h1, no_h hA (.inr (.inr (.inr (.inl rfl)))), _, rfl, a, s, ex, b, xs, ms, rfl, hA, hb, hm, hml, hfit, hok, fun H1 s1 => ?_⟩
    refine ⟨_, rfl, b, rfl, ⟨xs, SqL.ofL (s1 _ _ hb)⟩, for_list (K := K) (a := b) (xs := xs) (fun i σ H' => ∃ (o2 o3 : Option V), σ = [some (.ref a.p), some (.ref b), o2, o3] ∧ HAt C H' a ((ms.take i).foldl addS s) ex ∧ Diff ((ms.take i).foldl addS s).held ∧ ((ms.take i).foldl addS s).held.length ≤ s.held.length + i ∧ Stp [a.h, a.k] H [a.h, a.k] H')
      ⟨none, none, rfl, hA.same s1, hd, Nat.le_refl _, s1.step _⟩ (fun i σ H' _ ⟨_, _, _, _, _, _, st⟩ => SqL.ofL (st.keep hb ?nb)) ?_ ?_⟩
    case nb =>
      obtain ⟨kvs, h3, _⟩ := hA.he
      obtain ⟨kvs', _, h4, _⟩ := hA.kn
      simp [ne_of hb h3 (by intro z; cases z), ne_of hb h4 (by intro z; cases z)]
    · rintro i y σ H' hi ⟨o2, o3, rfl, hA', hd', hl', st⟩
      have hil : i < ms.length := by rw [← hxl]; exact (List.getElem?_eq_some_iff.mp hi).1
      obtain ⟨c, ec, hc⟩ := (hm.step st).get hil
      rw [hi] at ec
      obtain rfl := Option.some.inj ec
      have hmem := List.getElem_mem hil
      have enx := adds_next (ms.take i) s
      have ehd := adds_heard (ms.take i) s
      have hfa := fits_adds hfit i
      rw [List.take_add_one, List.getElem?_eq_getElem hil, List.foldl_append]
      show gName _ _ _ _ _
      generalize ms[i] = m at hc hmem ⊢
      generalize (ms.take i).foldl addS s = t at hA' hd' hl' enx ehd hfa ⊢
      refine rd_name ?_
      obtain ⟨npq, nph, npk, npg, nqh, nqk, nqg, nhk, nhg, nkg⟩ := hA'.apart
      obtain ⟨⟨dx', g1⟩, ⟨yq, g2, m2⟩, ⟨kh, g3, d3⟩, ⟨kvk, mk, g4, d4, hk3, hk4, hk5⟩, g5, _, _, hex, hexl⟩ := id hA'
      refine ⟨_, rfl, c, _, _, _, rfl, hc, ?_⟩
      refine ⟨_, rfl, _, rfl, a.p, C, dx', _, _, rfl, g1, TC.cl_Hearer, TC.n_next_number, hF_next, _, _, rfl, rfl, _, rfl, ?_⟩
      have hsh : ∀ x ∈ t.held, x.n = m.n → x = m := fun x hx e => by
        rcases hfa x hx with z | z
        · exact hfit.1 m hmem x (.inr z) e
        · exact hfit.2 m hmem x z e
      have hsk : ∀ x ∈ mk, x.n = m.n → x = m := fun x hx e => by
        rcases (hk5 x).mp hx with z | z
        · exact hfit.1 m hmem x (.inl (ehd ▸ z)) e
        · exact hsh x z e
      refine ite2 (fun hz => ?_) (fun hz => ?_)
      · have hz' : m.n ≥ t.next := of_decide_eq_true hz
        have eA : (some m).toList.foldl addS t = ⟨t.heard, putM t.held m, t.lost⟩ := by show addS t m = _; unfold addS; rw [if_pos hz']
        refine ⟨_, rfl, _, rfl, a.p, C, dx', _, _, rfl, g1, TC.cl_Hearer, TC.n_held, hF_held, _, rfl, a.h, _, rfl, DPut.k (k := Sum.inl m.n) g3 (by rw [d3.len, sizeLine_eq]; omega), ?_⟩
        have sa := Stp.put (ps := [a.h]) (o := .dK (putK kh (Sum.inl m.n) (.ref c))) g3 (fun _ z => by cases z) (by simp)
        have g1a := sa.keep g1 (by simp [nph])
        have g4a := sa.keep g4 (by simp [nhk.symm])
        have hml2 : mk.length < 3000 := by
          have h2 := congrArg List.length ehd
          omega
        refine ⟨_, rfl, _, rfl, a.p, C, dx', _, _, rfl, g1a, TC.cl_Hearer, TC.n_known, hF_known, _, rfl, a.k, _, rfl, DPut.k (k := Sum.inl m.n) g4a (by rw [d4.len, sizeLine_eq]; omega), ?_⟩
        have sb := Stp.put (ps := [a.k]) (o := .dK (putK kvk (Sum.inl m.n) (.ref c))) g4a (fun _ z => by cases z) (by simp)
        have sab : Stp [a.h, a.k] H' [a.h, a.k] _ := (sa.up (by simp)).trans (sb.up (by simp))
        have hpl : (putM t.held m).length ≤ t.held.length + 1 := putM_len
        have hcb := sab.tup _ _ hc
        rw [eA]
        refine ⟨_, _, rfl, ⟨⟨dx', sab.keep g1 (by simp [nph, npk])⟩, ⟨yq, sab.keep g2 (by simp [nqh, nqk]), m2.step sab⟩, ⟨_, sb.keep upd_same (by simp [nhk]), (d3.tups sab.tup).put (msg_has hcb)⟩, ⟨_, putM mk m, upd_same, (d4.tups sab.tup).put (msg_has hcb), putM_diff hsk hk3, ?_, fun x => ?_⟩, sab.keep g5 (by simp [nhg.symm, nkg.symm]), nqg, nhk, hex, hexl⟩, putM_diff hsh hd', by show (putM t.held m).length ≤ _; omega, st.trans sab⟩
        · show (putM mk m).length ≤ t.heard.length + (putM t.held m).length
          rcases putM_case hsk with ⟨h, e⟩ | ⟨h, e⟩
          · rw [e]
            rcases putM_case hsh with ⟨_, e'⟩ | ⟨_, e'⟩
            · rw [e']; exact hk4
            · rw [e', List.length_append]; show _ ≤ _ + (_ + 1); omega
          · rw [e]
            rcases putM_case hsh with ⟨h', e'⟩ | ⟨_, e'⟩
            · exact absurd rfl (h m ((hk5 m).mpr (.inr h')))
            · rw [e', List.length_append, List.length_append]; show _ + 1 ≤ _ + (_ + 1); omega
        · rw [putM_mem hsk, hk5 x]
          show _ ↔ x ∈ t.heard ∨ x ∈ putM t.held m
          rw [putM_mem hsh]
          constructor
          · rintro ((z | z) | z)
            · exact .inl z
            · exact .inr (.inl z)
            · exact .inr (.inr z)
          · rintro (z | z | z)
            · exact .inl (.inl z)
            · exact .inl (.inr z)
            · exact .inr z
      · have hz' : ¬ m.n ≥ t.next := fun z => hz (decide_eq_true z)
        have eA : (some m).toList.foldl addS t = t := by show addS t m = _; unfold addS; rw [if_neg hz']
        rw [eA]
        exact ⟨_, _, rfl, hA', hd', by omega, st⟩
    · rintro σ H' ⟨o2, o3, rfl, hA', hd', hl', st⟩
      rw [hxl, List.take_length] at hA' hd' hl'
      obtain ⟨dx', g1⟩ := hA'.ob
      have e1 := adds_heard ms s
      have e2 := adds_lost ms s
      refine ⟨_, rfl, a.p, dx', _, rfl, g1, no_h hA' (.inr (.inr (.inr (.inr (.inl rfl))))), a, _, ex, rfl, hA', hd', by unfold HS.small; rw [e1, e2]; omega, fun l ys found H2 hA2 eh st2 hl0 nl el ml => ?_⟩
      rw [e1] at eh
      refine q l ys found H2 hA2 eh ((st.weak (qs := a.fp) (qs' := a.fp) (by simp [HA.fp]) (fun _ z => .inr z)).trans st2) ?_ nl el ml
      rcases (st.free' hl0) with z | z
      · exact absurd (show l ∈ a.fp by simp only [List.mem_cons, List.not_mem_nil, or_false] at z; rcases z with rfl | rfl <;> simp [HA.fp]) nl
      · exact z

abbrev s_Hearer_lost : Stmt := inClass (top 14) 9
abbrev N_Hearer_lost : List Str := ["self"]
theorem sc_Hearer_lost : FnScope N_Hearer_lost ["self"] (defScope s_Hearer_lost) := ⟨rfl, rfl, rfl, by decide +kernel, rfl, by decide +kernel, by decide +kernel⟩
theorem ok_Hearer_lost {f C : Addr} {fd : FuncData} (F : Fun K "lost" "Hearer.lost" s_Hearer_lost f fd) (T : Txt mg) (TC : HearC K C) : FnOk P w K mg base CX0 1 f fd ["self"] (spLost C) := by
  refine F.ok sc_Hearer_lost (fun vs H Q E h => ?_) (fun cdv A outer s0 H vs Q E hr h => ?_)
  · obtain ⟨a, s, ex, rfl, _⟩ := h; rfl
  · obtain ⟨a, s, ex, rfl, hA, q⟩ := h
    refine ⟨_, (pss_one (ps_ret (as_callTy (k_list_of K) (by rfl) T.b_list PyProof.Rows.boot_list (at_cons (k_fld K (pv 0) rfl) as_nil)))), ?_⟩
    obtain ⟨dx, h1⟩ := hA.ob
    exact ⟨_, rfl, a.p, C, dx, _, _, rfl, h1, TC.cl_Hearer, TC.n_given_up, hF_given, a.g, _, rfl, .inl (SqL.ofL hA.lo), fun l hl => q l hl⟩

abbrev s_Hearer_give_up : Stmt := inClass (top 14) 10
abbrev N_Hearer_give_up : List Str := ["self", "number", "heard"]
theorem sc_Hearer_give_up : FnScope N_Hearer_give_up ["self", "number"] (defScope s_Hearer_give_up) := ⟨rfl, rfl, rfl, by decide +kernel, rfl, by decide +kernel, by decide +kernel⟩
theorem ok_Hearer_give_up {f C : Addr} {fd : FuncData} (F : Fun K "give_up" "Hearer.give_up" s_Hearer_give_up f fd) (TC : HearC K C) (m_hear_held : CalleeM P w K mg base 1 C "hear_held" ["self"] (spHear C)) : FnOk P w K mg base CX0 2 f fd ["self", "number"] (spGive C) := by
  refine F.ok sc_Hearer_give_up (fun vs H Q E h => ?_) (fun cdv A outer s0 H vs Q E hr h => ?_)
  · obtain ⟨a, s, ex, n, rfl, _⟩ := h; rfl
  · obtain ⟨a, s, ex, n, rfl, hA, hd, hsm, hsl, hn, q⟩ := h
    refine ⟨_, (pss_cons (ps_set (i := 2) sc_Hearer_give_up.nd rfl (Or.inl rfl) (as_lst as_nil))
      (pss_cons (ps_while PassesOwn.never (pt_cmpR op_lt (k_fld K (pv 0) rfl) (pv 1) (nomark _)) (pss_cons (ps_expr (k_bm K PySem.F.plainAttrs_list PySem.F.slot_list_append PySem.F.type_list_append mt_append (k_fld K (pv 0) rfl) (pa_cons (k_fld K (pv 0) rfl) pa_nil)))
      (pss_cons (k_sfld K (pv 0) (pe_op op_add (k_fld K (pv 0) rfl) pe_int) rfl)
      (pss_one (ps_expr (k_bm K PySem.F.plainAttrs_list PySem.F.slot_list_extend PySem.F.type_list_extend mt_extend (pv 2) (pa_cons (as_meth0 m_hear_held TC.cl_Hearer (hr.mono (by decide)) (pv 0)) pa_nil)))))))
      (pss_one (ps_ret (pv 2))))), ?_⟩
    refine ⟨Nat.zero_le _, fun l hl0 => ?_⟩
    have nl : l ∉ a.fp := hA.free hl0
    have s1 := Same.new (o := .lst []) hl0
    let W : Nat → St → Hp → Prop := fun m σ H' => ∃ (t : HS) (found : List Msg) (fs : List V), m = (n - t.next).toNat ∧ σ = [some (.ref a.p), some (.int n), some (.ref l)] ∧ giveS n t = giveS n s ∧ t.heard = s.heard ++ found ∧ t.heard.length + t.held.length = s.heard.length + s.held.length ∧ t.lost.length ≤ 500 ∧ Diff t.held ∧
      HAt C H' a t ex ∧ H' l = some (.lst fs) ∧ Ms H' fs found ∧ Stp a.fp H (l :: a.fp) H'
    refine ⟨W, ?_, ?_⟩
    · exact ⟨_, s, [], [], rfl, rfl, rfl, (List.append_nil _).symm, rfl, by omega, hd, hA.same s1, upd_same, Ms.nil, Stp.make hl0⟩
    · rintro m σ H' ⟨t, found, fs, rfl, rfl, et, eh, esz, hlo, hdt, hAt, gl, gm, st⟩
      obtain ⟨npq, nph, npk, npg, nqh, nqk, nqg, nhk, nhg, nkg⟩ := hAt.apart
      obtain ⟨⟨dx, g1⟩, ⟨yq, g2, m2⟩, ⟨kh, g3, d3⟩, ⟨kvk, mk, g4, d4, hk3, hk4, hk5⟩, g5, _, _, hex, hexl⟩ := id hAt
      have nl' : l ≠ a.p ∧ l ≠ a.q ∧ l ≠ a.h ∧ l ≠ a.k ∧ l ≠ a.g := by simpa [HA.fp] using nl
      have hnx : t.next = (t.heard.length : Int) + (t.lost.length : Int) + 1 := rfl
      have hlf := congrArg List.length eh
      rw [List.length_append] at hlf
      refine ⟨_, rfl, a.p, C, dx, _, _, rfl, g1, TC.cl_Hearer, TC.n_next_number, hF_next, _, rfl, _, _, rfl, rfl, _, rfl, ?_⟩
      refine ite2 (fun hz => ?_) (fun hz => ?_)
      · have hz' : t.next < n := of_decide_eq_true hz
        refine ⟨fun σ' H2 => ∃ m', m' < (n - t.next).toNat ∧ W m' σ' H2, fun _ _ z => z, ?_⟩
        -- self.given_up.append(self.next_number)
        refine ⟨_, rfl, a.p, C, dx, _, _, rfl, g1, TC.cl_Hearer, TC.n_given_up, hF_given, .inl ⟨rfl, _, SqL.ofL g5⟩, _, rfl, a.p, C, dx, _, _, rfl, g1, TC.cl_Hearer, TC.n_next_number, hF_next, a.g, _, _, rfl, rfl, g5, by rw [List.length_map, sizeLine_eq]; omega, ?_⟩
        have sa := Stp.put (ps := [a.g]) (o := .lst (t.lost.map V.int ++ [.int t.next])) g5 (fun _ z => by cases z) (by simp)
        have g1a := sa.keep g1 (by simp [npg])
        refine ⟨_, rfl, a.p, C, dx, _, _, rfl, g1a, TC.cl_Hearer, TC.n_next_number, hF_next, _, _, rfl, rfl, _, rfl, a.p, C, dx, _, rfl, g1a, TC.cl_Hearer, TC.n_next_number, hF_len hexl, ?_⟩
        rw [hF_setNext]
        have sb := Stp.put (ps := [a.p]) (o := .ins C dx (hF (t.next + 1) a.q a.h a.k a.g ex)) g1a (fun _ z => by cases z) (by simp)
        have sab : Stp [a.p, a.g] H' [a.p, a.g] _ := (sa.up (by simp)).trans (sb.up (by simp))
        have hAb : HAt C _ a (lose t) ex := ⟨⟨dx, by rw [lose_next]; exact upd_same⟩, ⟨yq, sab.keep g2 (by simp [npq.symm, nqg]), m2.step sab⟩, ⟨kh, sab.keep g3 (by simp [nph.symm, nhg]), d3.tups sab.tup⟩, ⟨kvk, mk, sab.keep g4 (by simp [npk.symm, nkg]), d4.tups sab.tup, hk3, hk4, hk5⟩, by rw [sb.keep upd_same (by simp [npg.symm])]; show _ = some (HO.lst ((t.lost ++ [t.next]).map V.int)); rw [List.map_append]; rfl, nqg, nhk, hex, hexl⟩
        have glb := sab.keep gl (by simp [nl'.1, nl'.2.2.2.2])
        have gmb := gm.step sab
        have stb : Stp a.fp H (l :: a.fp) _ := st.trans (sab.weak (by simp [HA.fp]) (fun _ z => .inr z))
        generalize upd (upd H' a.g (.lst (t.lost.map V.int ++ [.int t.next]))) a.p (.ins C dx (hF (t.next + 1) a.q a.h a.k a.g ex)) = Hb at hAb glb gmb stb ⊢
        -- heard.extend(self.hear_held())
        obtain ⟨dxb, gb1⟩ := hAb.ob
        have hdl : Diff (lose t).held := hdt
        obtain ⟨hD, hL, hM⟩ := hear_mem hdl
        refine ⟨_, rfl, .inl ⟨rfl, _, SqL.ofL glb⟩, _, rfl, a.p, dxb, _, rfl, gb1, no_h hAb (.inr (.inr (.inr (.inr (.inl rfl))))), a, _, ex, rfl, hAb, hdl, ?_, fun l2 y2 fo2 H2 hA2 eh2 st2 hl2 nl2 el2 ml2 => ?_⟩
        · unfold HS.small
          show t.heard.length + t.held.length + (t.lost ++ [t.next]).length < 3000
          rw [List.length_append]; show _ + (_ + 1) < _
          omega
        have gl2 := st2.keep glb nl
        have eh2' : (hearS (lose t)).heard = s.heard ++ (found ++ fo2) := by rw [eh2, ← List.append_assoc, ← eh]; rfl
        have hlf2 := congrArg List.length eh2'
        rw [List.length_append, List.length_append] at hlf2
        have hLt : (hearS (lose t)).heard.length + (hearS (lose t)).held.length = t.heard.length + t.held.length := hL
        refine ⟨l, l2, fs, y2, rfl, rfl, gl2, el2, by rw [sizeLine_eq, gm.len, ml2.len]; omega, ?_⟩
        have sc := Stp.put (ps := [l]) (o := .lst (fs ++ y2)) gl2 (fun _ z => by cases z) (by simp)
        have hnx2 := hearS_next (lose t)
        rw [lose_next] at hnx2
        have elost := hearS_lost (lose t)
        have ell : (hearS (lose t)).lost.length = t.lost.length + 1 := by rw [elost]; show (t.lost ++ [t.next]).length = _; rw [List.length_append]; rfl
        have hnx3 : (hearS (lose t)).next = ((hearS (lose t)).heard.length : Int) + ((hearS (lose t)).lost.length : Int) + 1 := rfl
        refine ⟨_, by omega, hearS (lose t), found ++ fo2, fs ++ y2, rfl, rfl, by rw [← giveS_lt hz']; exact et, eh2', by omega, by omega, hD, hA2.step sc (fun c hc z => nl (by rw [List.mem_singleton] at z; rw [← z]; exact hc)), upd_same, ((gmb.step st2).append ml2).step sc, ?_⟩
        exact (stb.trans (st2.weak (qs := l :: a.fp) (qs' := l :: a.fp) (fun c hc => List.mem_cons_of_mem _ hc) (fun _ z => .inr z))).trans (sc.up (by simp))
      · have hz' : ¬ t.next < n := fun z => hz (decide_eq_true z)
        have eS : giveS n s = t := by rw [← et]; exact giveS_ge hz'
        rw [eS] at q
        exact ⟨_, rfl, q l fs found _ hAt eh st hl0 nl gl gm⟩

abbrev s_caught_up : Stmt := top 15
abbrev N_caught_up : List Str := ["teller", "hearer", "found", "lost_ahead", "heard"]
theorem sc_caught_up : FnScope N_caught_up ["teller", "hearer"] (defScope s_caught_up) := ⟨rfl, rfl, rfl, by decide +kernel, rfl, by decide +kernel, by decide +kernel⟩
theorem no_t {k r n : Int} {s d : Addr} {f : Str} (h : f = "tell" ∨ f = "told" ∨ f = "kept" ∨ f = "oldest" ∨ f = "last" ∨ f = "mark" ∨ f = "behind") : (tF k r n s d).lookup f = none := by
  rcases h with rfl | rfl | rfl | rfl | rfl | rfl | rfl <;> exact tF_no (by decide +kernel) (by decide +kernel) (by decide +kernel) (by decide +kernel) (by decide +kernel)
theorem ok_caught_up {f C CH : Addr} {fd : FuncData} (F : Fun K "caught_up" "caught_up" s_caught_up f fd) (T : Txt mg) (TC : TxtC K mg C CH)
    (m_behind : CalleeM P w K mg base 3 C "behind" ["self", "number", "topics"] (spBehind K C)) (m_oldest : CalleeM P w K mg base 1 C "oldest" ["self"] (spOldest C))
    (m_expects : CalleeM P w K mg base 1 CH "expects" ["self"] (spExpects CH)) (m_refuse_others : CalleeM P w K mg base 2 CH "refuse_others" ["self", "messages"] (spRefuse CH)) (m_lost : CalleeM P w K mg base 1 CH "lost" ["self"] (spLost CH)) (m_give_up : CalleeM P w K mg base 2 CH "give_up" ["self", "number"] (spGive CH)) (m_take_all : CalleeM P w K mg base 3 CH "take_all" ["self", "messages"] (spTakeAll CH)) :
    FnOk P w K mg base CX0 4 f fd ["teller", "hearer"] (spCaughtN C CH) := by
  refine F.ok sc_caught_up (fun vs H Q E h => ?_) (fun cdv A outer s0 H vs Q E hr h => ?_)
  · obtain ⟨tp, a, k, r, all, sd, d, hs, rfl, _⟩ := h; rfl
  · obtain ⟨tp, a, k, r, all, sd, d, hs, rfl, TA, hH, dis, hk, hR, hal, hok, hw, hnx, hsz, q⟩ := h
    have m_Hearer_lost := m_lost
    refine ⟨_, (pss_cons (ps_set (i := 2) sc_caught_up.nd rfl (Or.inl rfl) (as_meth m_behind TC.cl_Teller (hr.mono (by decide)) (pv 0) (at_cons (pe_op op_sub (as_meth0 m_expects TC.cl_Hearer (hr.mono (by decide)) (pv 1)) pe_int) (as_cons pe_non as_nil))))
      (pss_cons (ps_expr (as_meth m_refuse_others TC.cl_Hearer (hr.mono (by decide)) (pv 1) (at_cons (pe_ix (k_ix_tup K) (pv 2) pe_int (fun _ _ => rfl)) as_nil)))
      (pss_cons (ps_set (i := 3) sc_caught_up.nd rfl (Or.inl rfl) (as_callB (k_len_seq K) (by rfl) T.b_len PySem.boot_len (at_cons (as_meth0 m_Hearer_lost TC.cl_Hearer (hr.mono (by decide)) (pv 1)) as_nil)))
      (pss_cons (ps_set (i := 4) sc_caught_up.nd rfl (Or.inl rfl) (as_lst as_nil))
      (pss_cut (ps_if (pt_cmpR op_gt (pe_ix (k_ix_tup K) (pv 2) pe_int (fun _ _ => rfl)) pe_int (nomark _)) (pss_one (ps_expr (k_bm K PySem.F.plainAttrs_list PySem.F.slot_list_extend PySem.F.type_list_extend mt_extend (pv 4) (pa_cons (as_meth m_give_up TC.cl_Hearer (hr.mono (by decide)) (pv 1) (at_cons (as_meth0 m_oldest TC.cl_Teller (hr.mono (by decide)) (pv 0)) as_nil)) pa_nil)))) pss_nil)
      (pss_cons (ps_expr (k_bm K PySem.F.plainAttrs_list PySem.F.slot_list_extend PySem.F.type_list_extend mt_extend (pv 4) (pa_cons (as_meth m_take_all TC.cl_Hearer (hr.mono (by decide)) (pv 1) (at_cons (pe_ix (k_ix_tup K) (pv 2) pe_int (fun _ _ => rfl)) as_nil)) pa_nil)))
      (pss_one (ps_ret (as_tup (as_cons (pv 4) (as_cons (pe_op op_sub (as_callB (k_len_seq K) (by rfl) T.b_len PySem.boot_len (at_cons (as_meth0 m_Hearer_lost TC.cl_Hearer (hr.mono (by decide)) (pv 1)) as_nil)) (pv 3)) as_nil))))))))))), ?_⟩
    obtain ⟨dA, hA0⟩ := TA.ob
    obtain ⟨dh, h1⟩ := hH.ob
    have hp := hs.next_pos
    have hll := lastK_len k all
    have hnl : hs.next = (hs.heard.length : Int) + (hs.lost.length : Int) + 1 := rfl
    -- found
    refine ⟨_, rfl, tp, dA, _, rfl, hA0, no_t (.inr (.inr (.inr (.inr (.inr (.inr rfl)))))), _, rfl, a.p, dh, _, rfl, h1, no_h hH (.inl rfl), a, hs, [], rfl, hH, _, _, rfl, rfl, tp, hs.next - 1, .non, none, k, r, all, sd, d, rfl, TA, by omega, by omega, by omega, .inl ⟨rfl, rfl⟩, fun q0 l0 y0 H1 s1 nq0 nl0 e0 el0 m0 => ?_⟩
    generalize hfnd : ofT none ((lastK k all).filter fun m => decide (m.n > hs.next - 1)) = fnd at m0
    have efnd : (lastK k all).filter (fun m => decide (m.n > hs.next - 1)) = fnd := hfnd
    have hfR : ∀ m ∈ fnd, m ∈ all := fun m hm => by rw [← efnd] at hm; exact List.mem_of_mem_drop (List.mem_filter.mp hm).1
    have lfn : fnd.length < 60 := by rw [← efnd]; have := List.length_filter_le (fun m : Msg => decide (m.n > hs.next - 1)) (lastK k all); omega
    -- refuse_others
    refine ⟨_, rfl, a.p, dh, _, rfl, s1 _ _ h1, no_h hH (.inr (.inr (.inr (.inl rfl)))), _, rfl, q0, _, 0, _, rfl, rfl, SqT.ofT e0, rfl, a, hs, [], l0, y0, fnd, rfl, hH.same s1, el0, m0, by omega, hw.toHw0.fits hR hfR, (fun m hm => hok m (hfR m hm)), fun H2 s2 => ?_⟩
    have t2 := s1.trans s2
    -- lost_ahead, heard
    refine ⟨_, rfl, a.p, dh, _, rfl, t2 _ _ h1, no_h hH (.inr (.inr (.inr (.inr (.inr (.inr (.inr (.inr (.inl rfl))))))))), a, hs, [], rfl, hH.same t2, fun l1 n1 => ⟨l1, _, rfl, .inl (SqL.ofL upd_same), ?_⟩⟩
    have t3 := t2.trans (Same.new (o := .lst (hs.lost.map V.int)) n1)
    refine ⟨Nat.zero_le _, fun lh nlh => ?_⟩
    have t4 := t3.trans (Same.new (o := .lst []) nlh)
    have elh := upd_same (H := upd H2 l1 (.lst (hs.lost.map V.int))) (a := lh) (o := .lst [])
    have nlh0 : H lh = none := t3.free nlh
    have oq0 : q0 ∉ a.fp := hH.free nq0
    have ol0 : l0 ∉ a.fp := hH.free nl0
    have olh : lh ∉ a.fp := hH.free nlh0
    have s24 : Same H1 _ := s2.trans ((Same.new (o := .lst (hs.lost.map V.int)) n1).trans (Same.new (o := .lst []) nlh))
    have e0' := s24 _ _ e0
    have el0' := s24 _ _ el0
    have m0' := m0.same s24
    generalize upd (upd H2 l1 (.lst (hs.lost.map V.int))) lh (.lst []) = H4 at t4 elh e0' el0' m0' ⊢
    have nlq : lh ≠ q0 := by
      intro z
      rw [z] at nlh
      have := ((s2.trans (Same.new (o := .lst (hs.lost.map V.int)) n1)) _ _ e0)
      rw [nlh] at this; cases this
    have nll : lh ≠ l0 := by
      intro z
      rw [z] at nlh
      have := ((s2.trans (Same.new (o := .lst (hs.lost.map V.int)) n1)) _ _ el0)
      rw [nlh] at this; cases this
    have elen : ((hs.lost.map V.int).length : Int) = (hs.lost.length : Int) := by rw [List.length_map]
    refine ⟨fun σ H' => ∃ (fo1 : List Msg) (ys1 : List V), σ = [some (.ref tp), some (.ref a.p), some (.ref q0), some (.int ((hs.lost.map V.int).length : Int)), some (.ref lh)] ∧ HAt CH H' a (if missedF k (hs.next - 1) all > 0 then giveS ((all.length : Int) - ((lastK k all).length : Int) + 1) hs else hs) [] ∧
      (if missedF k (hs.next - 1) all > 0 then giveS ((all.length : Int) - ((lastK k all).length : Int) + 1) hs else hs).heard = hs.heard ++ fo1 ∧ H' lh = some (.lst ys1) ∧ Ms H' ys1 fo1 ∧ Stp a.fp H a.fp H' ∧ H' q0 = some (.tup [.ref l0, .int (missedF k (hs.next - 1) all)]) ∧ H' l0 = some (.lst y0) ∧ Ms H' y0 fnd, ?_, ?_⟩
    case refine_2 =>
      refine ⟨_, rfl, q0, _, 1, _, rfl, rfl, SqT.ofT e0', rfl, _, _, rfl, rfl, _, rfl, ?_⟩
      refine ite2 (fun hz => ?_) (fun hz => ?_)
      · have hz' : missedF k (hs.next - 1) all > 0 := of_decide_eq_true hz
        rw [if_pos hz']
        have h14 := t4 _ _ h1
        refine ⟨_, rfl, .inl ⟨rfl, _, SqL.ofL elh⟩, _, rfl, a.p, dh, _, rfl, h14, no_h hH (.inr (.inr (.inr (.inr (.inr (.inr (.inr (.inr (.inr (.inl rfl)))))))))), _, rfl, tp, dA, _, rfl, t4 _ _ hA0, no_t (.inr (.inr (.inr (.inl rfl)))), tp, k, r, all, sd, d, rfl, TA.same t4, a, hs, [], _, rfl, hH.same t4, hw.dh, by omega, by omega, by omega, fun l2 y2 fo2 H5 hA5 eh5 st5 nl2 ol2 el2 ml2 => ?_⟩
        have elh5 := st5.keep elh olh
        refine ⟨lh, l2, _, _, rfl, rfl, elh5, el2, ?_, ?_⟩
        · rw [ml2.len, sizeLine_eq]
          have h1 := congrArg List.length eh5
          rw [List.length_append] at h1
          have h2 := (give_mem (n := (all.length : Int) - ((lastK k all).length : Int) + 1) hw.dh).2.2
          show 0 + _ ≤ _; omega
        have sc := Stp.put (ps := [lh]) (o := .lst ([] ++ y2)) elh5 (fun _ z => by cases z) (by simp)
        refine ⟨fo2, [] ++ y2, rfl, hA5.step sc (fun c hc z => olh (by rw [List.mem_singleton] at z; rw [← z]; exact hc)), eh5, upd_same, ml2.step sc, ?_, sc.keep (st5.keep e0' oq0) (by simp [nlq.symm]), sc.keep (st5.keep el0' ol0) (by simp [nll.symm]), (m0'.step st5).step sc⟩
        refine ⟨fun c o ho hc => sc.keep (st5.keep (t4 _ _ ho) hc) (by simp; exact ne_of_none ho nlh0), (t4.tups.trans st5.tup).trans sc.tup, fun c hc => .inl hc⟩
      · have hz' : ¬ missedF k (hs.next - 1) all > 0 := fun z => hz (decide_eq_true z)
        rw [if_neg hz']
        exact ⟨[], [], rfl, hH.same t4, (List.append_nil _).symm, elh, Ms.nil, t4.step _, e0', el0', m0'⟩
    rintro σ H5 ⟨fo1, ys1, rfl, hH5, eh5, elh5, ml5, st5, e05, el05, m05⟩
    obtain ⟨hwC, hnC, hhC, hlC⟩ := hw.catch hR hk hnx
    have hw1 : Hw all (if missedF k (hs.next - 1) all > 0 then giveS ((all.length : Int) - ((lastK k all).length : Int) + 1) hs else hs) := by
      split
      · exact hw.give (by omega)
      · exact hw
    have hsz1 : (if missedF k (hs.next - 1) all > 0 then giveS ((all.length : Int) - ((lastK k all).length : Int) + 1) hs else hs).heard.length + (if missedF k (hs.next - 1) all > 0 then giveS ((all.length : Int) - ((lastK k all).length : Int) + 1) hs else hs).held.length ≤ 200 ∧ (if missedF k (hs.next - 1) all > 0 then giveS ((all.length : Int) - ((lastK k all).length : Int) + 1) hs else hs).next ≤ (catchS k all hs).next := by
      refine ⟨?_, ?_⟩
      · split
        · rw [(give_mem hw.dh).2.2]; exact hsz
        · exact hsz
      · exact take_next _ _
    have eC : catchS k all hs = takeS (if missedF k (hs.next - 1) all > 0 then giveS ((all.length : Int) - ((lastK k all).length : Int) + 1) hs else hs) fnd := by unfold catchS; rw [efnd]
    generalize (if missedF k (hs.next - 1) all > 0 then giveS ((all.length : Int) - ((lastK k all).length : Int) + 1) hs else hs) = hs1 at hH5 eh5 hw1 hsz1 eC
    have hn1 : hs1.next = (hs1.heard.length : Int) + (hs1.lost.length : Int) + 1 := rfl
    obtain ⟨dh5, h15⟩ := hH5.ob
    refine ⟨_, rfl, .inl ⟨rfl, _, SqL.ofL elh5⟩, _, rfl, a.p, dh5, _, rfl, h15, no_h hH5 (.inr (.inr (.inl rfl))), _, rfl, q0, _, 0, _, rfl, rfl, SqT.ofT e05, rfl, a, hs1, [], l0, y0, fnd, rfl, hH5, el05, m05, by omega, hw1.toHw0.fits hR hfR, (fun m hm => hok m (hfR m hm)), hw1.dh, by omega, fun l2 y2 fo2 H6 hA6 eh6 st6 nl2 ol2 el2 ml2 => ?_⟩
    rw [← eC] at hA6 eh6
    have elh6 := st6.keep elh5 olh
    have lc := congrArg List.length eh6
    rw [List.length_append] at lc
    have lc1 := congrArg List.length eh5
    rw [List.length_append] at lc1
    have hnC' : (catchS k all hs).next = ((catchS k all hs).heard.length : Int) + ((catchS k all hs).lost.length : Int) + 1 := rfl
    refine ⟨lh, l2, _, _, rfl, rfl, elh6, el2, by rw [ml5.len, ml2.len, sizeLine_eq]; omega, ?_⟩
    have sc := Stp.put (ps := [lh]) (o := .lst (ys1 ++ y2)) elh6 (fun _ z => by cases z) (by simp)
    have hA7 := hA6.step sc (fun c hc z => olh (by rw [List.mem_singleton] at z; rw [← z]; exact hc))
    have elh7 := upd_same (H := H6) (a := lh) (o := .lst (ys1 ++ y2))
    have ml7 := ((ml5.step st6).append ml2).step sc
    have st7 : Stp a.fp H a.fp _ := (st5.trans st6).weak (qs := a.fp) (qs' := a.fp) (fun _ z => z) (fun _ z => .inr z)
    have st8 : Stp a.fp H a.fp (upd H6 lh (.lst (ys1 ++ y2))) := ⟨fun c o ho hc => sc.keep (st7.keep ho hc) (by simp; exact ne_of_none ho nlh0), st7.tup.trans sc.tup, fun c hc => .inl hc⟩
    generalize upd H6 lh (.lst (ys1 ++ y2)) = H7 at hA7 elh7 ml7 st8 ⊢
    obtain ⟨dh7, h17⟩ := hA7.ob
    refine ⟨_, rfl, _, rfl, a.p, dh7, _, rfl, h17, no_h hA7 (.inr (.inr (.inr (.inr (.inr (.inr (.inr (.inr (.inl rfl))))))))), a, _, [], rfl, hA7, fun l3 n3 => ⟨l3, _, rfl, .inl (SqL.ofL upd_same), _, rfl, _, _, rfl, rfl, (show 2 ≤ sizeLine by decide), fun q1 n4 => ?_⟩⟩
    have j8 := Same.new (o := .lst ((catchS k all hs).lost.map V.int)) n3
    have j9 := j8.trans (Same.new (o := .tup [.ref lh, .int ((((catchS k all hs).lost.map V.int).length : Int) - ((hs.lost.map V.int).length : Int))]) n4)
    have oq1 : q1 ∉ a.fp := (hA7.same j8).free n4
    refine q q1 lh (ys1 ++ y2) (fo1 ++ fo2) _ (hA7.same j9) (by rw [eh6, eh5, List.append_assoc]) (st8.trans (j9.step _)) ?_ ?_ (j9 _ _ elh7) (ml7.same j9) olh oq1 nlh0
    · rcases st8.free' (j8.free n4) with z | z
      · exact absurd z oq1
      · exact z
    · rw [← List.length_map (f := V.int) (as := (catchS k all hs).lost), ← List.length_map (f := V.int) (as := hs.lost)]; exact upd_same

theorem no_f {a : FA} {f : Str} (h : f = "refuse_unknown" ∨ f = "road_of" ∨ f = "hearer_of" ∨ f = "names" ∨ f = "tell" ∨ f = "carry" ∨ f = "catch_up" ∨ f = "heard" ∨ f = "lost" ∨ f = "waiting" ∨ f = "lag" ∨ f = "slowest" ∨ f = "lay" ∨ f = "close") : (fFl a).lookup f = none := by
  rcases h with rfl | rfl | rfl | rfl | rfl | rfl | rfl | rfl | rfl | rfl | rfl | rfl | rfl | rfl <;> exact fFl_no (by decide +kernel) (by decide +kernel) (by decide +kernel)
theorem no_rd {sz : Int} {way : Str} {r d : Addr} {b : Bool} {f : Str} (h : f = "put" ∨ f = "take" ∨ f = "waiting" ∨ f = "mend") : (rF sz way r d b).lookup f = none := by
  rcases h with rfl | rfl | rfl | rfl <;> exact rF_no (by decide +kernel) (by decide +kernel) (by decide +kernel) (by decide +kernel) (by decide +kernel)
abbrev s_Fan_refuse_unknown : Stmt := inClass (top 21) 3
abbrev N_Fan_refuse_unknown : List Str := ["self", "name"]
theorem sc_Fan_refuse_unknown : FnScope N_Fan_refuse_unknown ["self", "name"] (defScope s_Fan_refuse_unknown) := ⟨rfl, rfl, rfl, by decide +kernel, rfl, by decide +kernel, by decide +kernel⟩
theorem ok_Fan_refuse_unknown {f CF CT CR CH : Addr} {fd : FuncData} (F : Fun K "refuse_unknown" "Fan.refuse_unknown" s_Fan_refuse_unknown f fd) (TC : FanC K mg CF) : FnOk P w K mg base CX0 1 f fd ["self", "name"] (spFKnow CF CT CR CH) := by
  refine F.ok sc_Fan_refuse_unknown (fun vs H Q E h => ?_) (fun cdv A outer s0 H vs Q E hr h => ?_)
  · obtain ⟨a, l, g, k, all, n, rfl, _⟩ := h; rfl
  · obtain ⟨a, l, g, k, all, n, rfl, hA, hn, q⟩ := h
    refine ⟨_, (pss_one (ps_if (pt_cmp (pc_dnotin (hu_of hr) (pv 1) (k_fld K (pv 0) rfl))) (pss_one ps_never) pss_nil)), ?_⟩
    obtain ⟨dx, h1⟩ := hA.ob
    refine ⟨_, rfl, _, rfl, a.p, CF, dx, _, _, rfl, h1, TC.cl_Fan, TC.n_roads, fFl_r a, a.rd, _, rfl, DGet.k (k := Sum.inr n) hA.rs, _, rfl, ?_⟩
    rw [show valV (rdT l g) (Sum.inr n) = some (.ref (g n).p) from tabN_val hn]
    exact iteF q
abbrev s_Fan_road_of : Stmt := inClass (top 21) 4
abbrev N_Fan_road_of : List Str := ["self", "name"]
theorem sc_Fan_road_of : FnScope N_Fan_road_of ["self", "name"] (defScope s_Fan_road_of) := ⟨rfl, rfl, rfl, by decide +kernel, rfl, by decide +kernel, by decide +kernel⟩
theorem ok_Fan_road_of {f CF CT CR CH : Addr} {fd : FuncData} (F : Fun K "road_of" "Fan.road_of" s_Fan_road_of f fd) (TC : FanC K mg CF) (m_refuse_unknown : CalleeM P w K mg base 1 CF "refuse_unknown" ["self", "name"] (spFKnow CF CT CR CH)) : FnOk P w K mg base CX0 2 f fd ["self", "name"] (spFRoad CF CT CR CH) := by
  refine F.ok sc_Fan_road_of (fun vs H Q E h => ?_) (fun cdv A outer s0 H vs Q E hr h => ?_)
  · obtain ⟨a, l, g, k, all, n, rfl, _⟩ := h; rfl
  · obtain ⟨a, l, g, k, all, n, rfl, hA, hn, q⟩ := h
    refine ⟨_, (pss_cons (ps_expr (as_meth m_refuse_unknown TC.cl_Fan (hr.mono (by decide)) (pv 0) (at_cons (pv 1) as_nil)))
      (pss_one (ps_ret (pe_dget (hu_of hr) (k_fld K (pv 0) rfl) (pv 1) (fun _ _ => rfl))))), ?_⟩
    obtain ⟨dx, h1⟩ := hA.ob
    exact ⟨_, rfl, a.p, dx, _, rfl, h1, no_f (.inl rfl), _, rfl, a, l, g, k, all, n, rfl, hA, hn, _, rfl, a.p, CF, dx, _, _, rfl, h1, TC.cl_Fan, TC.n_roads, fFl_r a, _, rfl, a.rd, _, rfl, .inl ⟨_, Sum.inr n, .inl hA.rs, rfl, (tabN_val hn).symm⟩, q⟩
abbrev s_Fan_hearer_of : Stmt := inClass (top 21) 5
abbrev N_Fan_hearer_of : List Str := ["self", "name"]
theorem sc_Fan_hearer_of : FnScope N_Fan_hearer_of ["self", "name"] (defScope s_Fan_hearer_of) := ⟨rfl, rfl, rfl, by decide +kernel, rfl, by decide +kernel, by decide +kernel⟩
theorem ok_Fan_hearer_of {f CF CT CR CH : Addr} {fd : FuncData} (F : Fun K "hearer_of" "Fan.hearer_of" s_Fan_hearer_of f fd) (TC : FanC K mg CF) (m_refuse_unknown : CalleeM P w K mg base 1 CF "refuse_unknown" ["self", "name"] (spFKnow CF CT CR CH)) : FnOk P w K mg base CX0 2 f fd ["self", "name"] (spFHearer CF CT CR CH) := by
  refine F.ok sc_Fan_hearer_of (fun vs H Q E h => ?_) (fun cdv A outer s0 H vs Q E hr h => ?_)
  · obtain ⟨a, l, g, k, all, n, rfl, _⟩ := h; rfl
  · obtain ⟨a, l, g, k, all, n, rfl, hA, hn, q⟩ := h
    refine ⟨_, (pss_cons (ps_expr (as_meth m_refuse_unknown TC.cl_Fan (hr.mono (by decide)) (pv 0) (at_cons (pv 1) as_nil)))
      (pss_one (ps_ret (pe_dget (hu_of hr) (k_fld K (pv 0) rfl) (pv 1) (fun _ _ => rfl))))), ?_⟩
    obtain ⟨dx, h1⟩ := hA.ob
    exact ⟨_, rfl, a.p, dx, _, rfl, h1, no_f (.inl rfl), _, rfl, a, l, g, k, all, n, rfl, hA, hn, _, rfl, a.p, CF, dx, _, _, rfl, h1, TC.cl_Fan, TC.n_hearers, fFl_h a, _, rfl, a.hd, _, rfl, .inl ⟨_, Sum.inr n, .inl hA.hs, rfl, (tabN_val hn).symm⟩, q⟩
abbrev s_Fan_names : Stmt := inClass (top 21) 6
abbrev N_Fan_names : List Str := ["self"]
theorem sc_Fan_names : FnScope N_Fan_names ["self"] (defScope s_Fan_names) := ⟨rfl, rfl, rfl, by decide +kernel, rfl, by decide +kernel, by decide +kernel⟩
theorem ok_Fan_names {f CF CT CR CH : Addr} {fd : FuncData} (F : Fun K "names" "Fan.names" s_Fan_names f fd) (T : Txt mg) (TC : FanC K mg CF) : FnOk P w K mg base CX0 1 f fd ["self"] (spFNames CF CT CR CH) := by
  refine F.ok sc_Fan_names (fun vs H Q E h => ?_) (fun cdv A outer s0 H vs Q E hr h => ?_)
  · obtain ⟨a, l, g, k, all, rfl, _⟩ := h; rfl
  · obtain ⟨a, l, g, k, all, rfl, hA, hl, q⟩ := h
    refine ⟨_, (pss_one (ps_ret (as_callB (k_sortT K rfl) (by rfl) T.b_sorted PyProof.Rows.boot_sorted (at_cons (k_fld K (pv 0) rfl) as_nil)))), ?_⟩
    obtain ⟨dx, h1⟩ := hA.ob
    exact ⟨_, rfl, a.p, CF, dx, _, _, rfl, h1, TC.cl_Fan, TC.n_roads, fFl_r a, .ref a.rd, l, rfl, .inr ⟨a.rd, _, rfl, hA.rs, tabN_keys l _⟩, hl, q⟩
abbrev s_Fan_heard : Stmt := inClass (top 21) 10
abbrev N_Fan_heard : List Str := ["self", "name"]
theorem sc_Fan_heard : FnScope N_Fan_heard ["self", "name"] (defScope s_Fan_heard) := ⟨rfl, rfl, rfl, by decide +kernel, rfl, by decide +kernel, by decide +kernel⟩
theorem ok_Fan_heard {f CF CT CR CH : Addr} {fd : FuncData} (F : Fun K "heard" "Fan.heard" s_Fan_heard f fd) (TC : TxtF K mg CF CT CR CH) (m_hearer_of : CalleeM P w K mg base 2 CF "hearer_of" ["self", "name"] (spFHearer CF CT CR CH)) (m_Hearer_heard : CalleeM P w K mg base 1 CH "heard" ["self"] (spHeard CH)) : FnOk P w K mg base CX0 3 f fd ["self", "name"] (spFHeard CF CT CR CH) := by
  refine F.ok sc_Fan_heard (fun vs H Q E h => ?_) (fun cdv A outer s0 H vs Q E hr h => ?_)
  · obtain ⟨a, l, g, k, all, n, rfl, _⟩ := h; rfl
  · obtain ⟨a, l, g, k, all, n, rfl, hA, hn, q⟩ := h
    refine ⟨_, (pss_one (ps_ret (as_meth0 m_Hearer_heard TC.cl_Hearer (hr.mono (by decide)) (as_meth m_hearer_of TC.cl_Fan (hr.mono (by decide)) (pv 0) (at_cons (pv 1) as_nil))))), ?_⟩
    obtain ⟨dx, h1⟩ := hA.ob
    have hB := (hA.en n hn).ha
    obtain ⟨dB, oB⟩ := hB.ob
    exact ⟨_, rfl, a.p, dx, _, rfl, h1, no_f (.inr (.inr (.inl rfl))), _, rfl, a, l, g, k, all, n, rfl, hA, hn, (g n).B.p, dB, _, rfl, oB, no_h hB (.inr (.inr (.inr (.inr (.inr (.inl rfl)))))), (g n).B, _, [], rfl, hB, q⟩
abbrev s_Fan_lost : Stmt := inClass (top 21) 11
abbrev N_Fan_lost : List Str := ["self", "name"]
theorem sc_Fan_lost : FnScope N_Fan_lost ["self", "name"] (defScope s_Fan_lost) := ⟨rfl, rfl, rfl, by decide +kernel, rfl, by decide +kernel, by decide +kernel⟩
theorem ok_Fan_lost {f CF CT CR CH : Addr} {fd : FuncData} (F : Fun K "lost" "Fan.lost" s_Fan_lost f fd) (TC : TxtF K mg CF CT CR CH) (m_hearer_of : CalleeM P w K mg base 2 CF "hearer_of" ["self", "name"] (spFHearer CF CT CR CH)) (m_Hearer_lost : CalleeM P w K mg base 1 CH "lost" ["self"] (spLost CH)) : FnOk P w K mg base CX0 3 f fd ["self", "name"] (spFLost CF CT CR CH) := by
  refine F.ok sc_Fan_lost (fun vs H Q E h => ?_) (fun cdv A outer s0 H vs Q E hr h => ?_)
  · obtain ⟨a, l, g, k, all, n, rfl, _⟩ := h; rfl
  · obtain ⟨a, l, g, k, all, n, rfl, hA, hn, q⟩ := h
    refine ⟨_, (pss_one (ps_ret (as_meth0 m_Hearer_lost TC.cl_Hearer (hr.mono (by decide)) (as_meth m_hearer_of TC.cl_Fan (hr.mono (by decide)) (pv 0) (at_cons (pv 1) as_nil))))), ?_⟩
    obtain ⟨dx, h1⟩ := hA.ob
    have hB := (hA.en n hn).ha
    obtain ⟨dB, oB⟩ := hB.ob
    exact ⟨_, rfl, a.p, dx, _, rfl, h1, no_f (.inr (.inr (.inl rfl))), _, rfl, a, l, g, k, all, n, rfl, hA, hn, (g n).B.p, dB, _, rfl, oB, no_h hB (.inr (.inr (.inr (.inr (.inr (.inr (.inr (.inr (.inl rfl))))))))), (g n).B, _, [], rfl, hB, q⟩
abbrev s_Fan_waiting : Stmt := inClass (top 21) 12
abbrev N_Fan_waiting : List Str := ["self", "name"]
theorem sc_Fan_waiting : FnScope N_Fan_waiting ["self", "name"] (defScope s_Fan_waiting) := ⟨rfl, rfl, rfl, by decide +kernel, rfl, by decide +kernel, by decide +kernel⟩
theorem ok_Fan_waiting {f CF CT CR CH : Addr} {fd : FuncData} (F : Fun K "waiting" "Fan.waiting" s_Fan_waiting f fd) (TC : TxtF K mg CF CT CR CH) (m_road_of : CalleeM P w K mg base 2 CF "road_of" ["self", "name"] (spFRoad CF CT CR CH)) (m_Road_waiting : CalleeM P w K mg base 1 CR "waiting" ["self"] (spWait CR)) : FnOk P w K mg base CX0 3 f fd ["self", "name"] (spFWait CF CT CR CH) := by
  refine F.ok sc_Fan_waiting (fun vs H Q E h => ?_) (fun cdv A outer s0 H vs Q E hr h => ?_)
  · obtain ⟨a, l, g, k, all, n, rfl, _⟩ := h; rfl
  · obtain ⟨a, l, g, k, all, n, rfl, hA, hn, q⟩ := h
    refine ⟨_, (pss_one (ps_ret (as_meth0 m_Road_waiting TC.cl_Road (hr.mono (by decide)) (as_meth m_road_of TC.cl_Fan (hr.mono (by decide)) (pv 0) (at_cons (pv 1) as_nil))))), ?_⟩
    obtain ⟨dx, h1⟩ := hA.ob
    have hR := (hA.en n hn).ra
    obtain ⟨dR, oR⟩ := hR.ob
    exact ⟨_, rfl, a.p, dx, _, rfl, h1, no_f (.inr (.inl rfl)), _, rfl, a, l, g, k, all, n, rfl, hA, hn, (g n).p, dR, _, rfl, oR, no_rd (.inr (.inr (.inl rfl))), (g n).p, _, _, _, _, _, rfl, hR, q⟩
abbrev s_Fan_lag : Stmt := inClass (top 21) 13
abbrev N_Fan_lag : List Str := ["self", "name"]
theorem sc_Fan_lag : FnScope N_Fan_lag ["self", "name"] (defScope s_Fan_lag) := ⟨rfl, rfl, rfl, by decide +kernel, rfl, by decide +kernel, by decide +kernel⟩
theorem ok_Fan_lag {f CF CT CR CH : Addr} {fd : FuncData} (F : Fun K "lag" "Fan.lag" s_Fan_lag f fd) (TC : TxtF K mg CF CT CR CH) (m_hearer_of : CalleeM P w K mg base 2 CF "hearer_of" ["self", "name"] (spFHearer CF CT CR CH)) (m_told : CalleeM P w K mg base 1 CT "told" ["self"] (spTold CT)) (m_expects : CalleeM P w K mg base 1 CH "expects" ["self"] (spExpects CH)) : FnOk P w K mg base CX0 3 f fd ["self", "name"] (spFLag CF CT CR CH) := by
  refine F.ok sc_Fan_lag (fun vs H Q E h => ?_) (fun cdv A outer s0 H vs Q E hr h => ?_)
  · obtain ⟨a, l, g, k, all, n, rfl, _⟩ := h; rfl
  · obtain ⟨a, l, g, k, all, n, rfl, hA, hn, q⟩ := h
    refine ⟨_, (pss_one (ps_ret (pe_op op_add (pe_op op_sub (as_meth0 m_told TC.cl_Teller (hr.mono (by decide)) (k_fld K (pv 0) rfl)) (as_meth0 m_expects TC.cl_Hearer (hr.mono (by decide)) (as_meth m_hearer_of TC.cl_Fan (hr.mono (by decide)) (pv 0) (at_cons (pv 1) as_nil)))) pe_int))), ?_⟩
    obtain ⟨dx, h1⟩ := hA.ob
    have hB := (hA.en n hn).ha
    obtain ⟨dB, oB⟩ := hB.ob
    obtain ⟨dT, oT⟩ := hA.tl.ob
    exact ⟨_, rfl, a.p, CF, dx, _, _, rfl, h1, TC.cl_Fan, TC.R_Fan.n_teller, fFl_t a, a.tp, dT, _, rfl, oT, no_t (.inr (.inl rfl)), a.tp, _, _, _, _, _, rfl, hA.tl, _, rfl, a.p, dx, _, rfl, h1, no_f (.inr (.inr (.inl rfl))), _, rfl, a, l, g, k, all, n, rfl, hA, hn, (g n).B.p, dB, _, rfl, oB, no_h hB (.inl rfl), (g n).B, _, [], rfl, hB, _, _, rfl, rfl, _, _, rfl, rfl, q⟩

abbrev s_Fan___init__ : Stmt := inClass (top 21) 0
abbrev N_Fan___init__ : List Str := ["self", "keep"]
theorem sc_Fan___init__ : FnScope N_Fan___init__ ["self", "keep"] (defScope s_Fan___init__) := ⟨rfl, rfl, rfl, by decide +kernel, rfl, by decide +kernel, by decide +kernel⟩
theorem ok_Fan_init {f CF CT CR CH : Addr} {fd : FuncData} (F : Fun K "__init__" "Fan.__init__" s_Fan___init__ f fd) (TC : TxtF K mg CF CT CR CH) (i_Teller : CalleeI P w K mg base 1 CT ["self", "keep"] (spInitT CT)) : FnOk P w K mg base CX0 3 f fd ["self", "keep"] (spFInit CF CT CR CH) := by
  refine F.ok sc_Fan___init__ (fun vs H Q E h => ?_) (fun cdv A outer s0 H vs Q E hr h => ?_)
  · obtain ⟨p, dx, k, rfl, _⟩ := h; rfl
  · obtain ⟨p, dx, k, rfl, hp, q⟩ := h
    refine ⟨_, (pss_cons (k_sfld K (pv 0) (as_make i_Teller (hr.mono (by decide)) TC.mg_Teller (at_cons (pv 1) as_nil)) rfl)
      (pss_cons (k_sfld K (pv 0) pe_dnewK rfl)
      (pss_one (k_sfld K (pv 0) pe_dnewK rfl)))), ?_⟩
    refine ⟨_, rfl, ?_⟩
    intro tp dx1 np1 nd1 nx1
    refine ⟨tp, dx1, k, rfl, upd_same, fun ts td H2 ns nd TA bu => ⟨rfl, ?_⟩⟩
    have s0 := Stp.obj (o := .own tp) (o' := .ins CT dx1 []) np1 nd1
    have s2 : Same H H2 := fun b o ho => bu b o (s0.same _ _ ho) (fun z => by rw [z, np1] at ho; cases ho)
    have nts : H ts = none := s0.free ns List.not_mem_nil
    have ntd : H td = none := s0.free nd List.not_mem_nil
    have hp2 := s2 _ _ hp
    refine ⟨_, rfl, p, CF, dx, [], rfl, hp2, TC.cl_Fan, TC.R_Fan.n_teller, by decide, ?_⟩
    have z1 := Stp.put (ps := [p]) (o := .ins CF dx (putF "teller" (.ref tp) [])) hp2 (fun _ z => by cases z) (by simp)
    have e1 := upd_same (H := H2) (a := p) (o := .ins CF dx (putF "teller" (.ref tp) []))
    generalize upd H2 p (.ins CF dx (putF "teller" (.ref tp) [])) = H3 at z1 e1 ⊢
    intro rd nrd
    have g3 := Same.new (o := .dK []) nrd
    have erd := upd_same (H := H3) (a := rd) (o := .dK [])
    have ep3 := g3 _ _ e1
    have nrp : rd ≠ p := fun z => by rw [z, e1] at nrd; cases nrd
    generalize upd H3 rd (.dK []) = H4 at g3 erd ep3 ⊢
    refine ⟨_, rfl, p, CF, dx, _, rfl, ep3, TC.cl_Fan, TC.R_Fan.n_roads, (show 1 < 1000 by decide), ?_⟩
    have z2 := Stp.put (ps := [p]) (o := .ins CF dx (putF "roads" (.ref rd) (putF "teller" (.ref tp) []))) ep3 (fun _ z => by cases z) (by simp)
    have e2 := upd_same (H := H4) (a := p) (o := .ins CF dx (putF "roads" (.ref rd) (putF "teller" (.ref tp) [])))
    have erd2 := z2.keep erd (by simp [nrp])
    generalize upd H4 p (.ins CF dx (putF "roads" (.ref rd) (putF "teller" (.ref tp) []))) = H5 at z2 e2 erd2 ⊢
    intro hd nhd
    have g5 := Same.new (o := .dK []) nhd
    have ehd := upd_same (H := H5) (a := hd) (o := .dK [])
    have ep5 := g5 _ _ e2
    have erd5 := g5 _ _ erd2
    have nhp : hd ≠ p := fun z => by rw [z, e2] at nhd; cases nhd
    have nhr : hd ≠ rd := fun z => by rw [z, erd2] at nhd; cases nhd
    generalize upd H5 hd (.dK []) = H6 at g5 ehd ep5 erd5 ⊢
    refine ⟨_, rfl, p, CF, dx, _, rfl, ep5, TC.cl_Fan, TC.R_Fan.n_hearers, (show 2 < 1000 by decide), ?_⟩
    rw [show putF "hearers" (.ref hd) (putF "roads" (.ref rd) (putF "teller" (.ref tp) [])) = fFl ⟨p, rd, hd, tp, ts, td⟩ from fFl_make ⟨p, rd, hd, tp, ts, td⟩]
    have z3 := Stp.put (ps := [p]) (o := .ins CF dx (fFl ⟨p, rd, hd, tp, ts, td⟩)) ep5 (fun _ z => by cases z) (by simp)
    have e3 := upd_same (H := H6) (a := p) (o := .ins CF dx (fFl ⟨p, rd, hd, tp, ts, td⟩))
    have erd7 := z3.keep erd5 (by simp [nrp])
    have ehd7 := z3.keep ehd (by simp [nhp])
    generalize upd H6 p (.ins CF dx (fFl ⟨p, rd, hd, tp, ts, td⟩)) = H7 at z3 e3 erd7 ehd7 ⊢
    have w : Stp [p] H2 [p] H7 := (((z1.trans (g3.step _)).trans z2).trans (g5.step _)).trans z3
    have ntp : ∀ c ∈ [tp, ts, td], c ≠ p := fun c hc z => by
      simp only [List.mem_cons, List.not_mem_nil, or_false] at hc
      rcases hc with rfl | rfl | rfl
      · rw [z, hp] at np1; cases np1
      · rw [z, hp] at nts; cases nts
      · rw [z, hp] at ntd; cases ntd
    have TA7 := TA.stp w (fun c hc => by simp [ntp c hc])
    have nrd2 : H2 rd = none := z1.free nrd (by simp [nrp])
    have nhd2 : H2 hd = none := ((z1.trans (g3.step _)).trans z2).free nhd (by simp [nhp])
    have l3 := TA.live3
    refine q ⟨p, rd, hd, tp, ts, td⟩ H7 rfl (fun g => ⟨⟨⟨dx, e3⟩, TA7, ehd7, fun n hn => absurd hn List.not_mem_nil, List.nodup_nil, fun n hn => absurd hn List.not_mem_nil, fun n hn => absurd hn List.not_mem_nil, by simp [nrp, nhr.symm], fun c hc z => ?_⟩, erd7⟩) ⟨fun c o ho hc => w.but c o (s2 _ _ ho) hc, s2.tups.trans w.tup, fun c hc => ?_⟩
    · simp only [List.mem_cons, List.not_mem_nil, or_false] at hc
      obtain ⟨o, ho⟩ := l3 c z
      rcases hc with rfl | rfl | rfl
      · exact ntp _ z rfl
      · rw [nrd2] at ho; cases ho
      · rw [nhd2] at ho; cases ho
    · simp only [FA.own, List.mem_cons, List.not_mem_nil, or_false] at hc
      rcases hc with rfl | rfl | rfl | rfl | rfl | rfl
      · exact .inl (by simp)
      · exact .inr ((s2.step []).free nrd2 List.not_mem_nil)
      · exact .inr ((s2.step []).free nhd2 List.not_mem_nil)
      · exact .inr np1
      · exact .inr nts
      · exact .inr ntd
abbrev s_Fan_lay : Stmt := inClass (top 21) 1
abbrev N_Fan_lay : List Str := ["self", "name", "size", "way"]
theorem sc_Fan_lay : FnScope N_Fan_lay ["self", "name", "size", "way"] (defScope s_Fan_lay) := ⟨rfl, rfl, rfl, by decide +kernel, rfl, by decide +kernel, by decide +kernel⟩
theorem ok_Fan_lay {f CF CT CR CH : Addr} {fd : FuncData} (F : Fun K "lay" "Fan.lay" s_Fan_lay f fd) (TC : TxtF K mg CF CT CR CH) (i_Road : CalleeI P w K mg base 1 CR ["self", "size", "way"] (spInitR CR)) (i_Hearer : CalleeI P w K mg base 1 CH ["self"] (spInitH CH)) : FnOk P w K mg base CX0 3 f fd ["self", "name", "size", "way"] (spFLay CF CT CR CH) := by
  refine F.ok sc_Fan_lay (fun vs H Q E h => ?_) (fun cdv A outer s0 H vs Q E hr h => ?_)
  · obtain ⟨a, l, g, k, all, n, sz, way, rfl, _⟩ := h; rfl
  · obtain ⟨a, l, g, k, all, n, sz, way, rfl, hA, hn, hl, q⟩ := h
    refine ⟨_, (pss_cons (ps_if (pt_cmp (pc_din (hu_of hr) (pv 1) (k_fld K (pv 0) rfl))) (pss_one ps_never) pss_nil)
      (pss_cons (ps_dput (hu_of hr) (k_fld K (pv 0) rfl) (pv 1) (as_make i_Road (hr.mono (by decide)) TC.mg_Road (at_cons (pv 2) (as_cons (pv 3) as_nil))) rfl)
      (pss_one (ps_dput (hu_of hr) (k_fld K (pv 0) rfl) (pv 1) (as_make0 i_Hearer (hr.mono (by decide)) TC.mg_Hearer) rfl)))), ?_⟩
    obtain ⟨dx, h1⟩ := hA.ob
    refine ⟨_, rfl, _, rfl, a.p, CF, dx, _, _, rfl, h1, TC.cl_Fan, TC.R_Fan.n_roads, fFl_r a, a.rd, _, rfl, DGet.k (k := Sum.inr n) hA.rs, _, rfl, ?_⟩
    rw [show valV (rdT l g) (Sum.inr n) = none from tabN_none hn]
    refine iteF ⟨_, rfl, _, rfl, ?_⟩
    intro p1 dx1 np1 nd1 nx1
    refine ⟨p1, dx1, sz, way, rfl, upd_same, fun r d H2 RA st2 => ⟨rfl, ?_⟩⟩
    have v2 : Stp [] H [p1, r, d] H2 := (Stp.obj (o := .own p1) (o' := .ins CR dx1 []) np1 nd1).trans st2
    have hA2 := hA.step v2 fun _ _ => List.not_mem_nil
    have o2 : ∀ c ∈ a.fp l g, c ∉ [p1, r, d] := hA.out v2 fun _ _ => List.not_mem_nil
    obtain ⟨dx2, h2⟩ := hA2.ob
    have hkr : (rdT l g).length < sizeLine := by rw [rdT, tabN_len, sizeLine_eq]; omega
    have hkh : (hdT l g).length < sizeLine := by rw [hdT, tabN_len, sizeLine_eq]; omega
    refine ⟨_, rfl, a.p, CF, dx2, _, _, rfl, h2, TC.cl_Fan, TC.R_Fan.n_roads, fFl_r a, _, rfl, a.rd, _, rfl, DPut.k (k := Sum.inr n) hA2.rs hkr, ?_⟩
    have z3 := Stp.put (ps := [a.rd]) (o := .dK (putK (rdT l g) (Sum.inr n) (.ref p1))) hA2.rs (fun _ z => by cases z) (by simp)
    have erd := upd_same (H := H2) (a := a.rd) (o := .dK (putK (rdT l g) (Sum.inr n) (.ref p1)))
    have rdo : a.rd ∈ a.own := by simp [FA.own]
    have hdo : a.hd ∈ a.own := by simp [FA.own]
    have own_fp : ∀ c ∈ a.own, c ∈ a.fp l g := fun c hc => List.mem_append_left _ hc
    have RA3 := RA.step z3 (fun c hc z => o2 a.rd (own_fp _ rdo) (by rw [List.mem_singleton] at z; rw [← z]; exact hc))
    have hA3 := hA2.toFAt0.step z3 (fun c _ hne z => hne (List.mem_singleton.mp z))
    generalize upd H2 a.rd (.dK (putK (rdT l g) (Sum.inr n) (.ref p1))) = H3 at z3 erd RA3 hA3 ⊢
    intro p2 dx3 np2 nd2 nx2
    refine ⟨p2, dx3, rfl, upd_same, fun B H4 ep hB st4 => ⟨rfl, ?_⟩⟩
    subst ep
    have v4 : Stp [] H3 B.fp H4 := (Stp.obj (o := .own B.p) (o' := .ins CH dx3 []) np2 nd2).trans st4
    have hA4 := hA3.step v4 (fun _ _ _ => List.not_mem_nil)
    have RA4 := RA3.step v4 (fun _ _ => List.not_mem_nil)
    have oR : ∀ c ∈ [p1, r, d], c ∉ B.fp := RA3.out v4 fun _ _ => List.not_mem_nil
    have erd4 := v4.keep erd List.not_mem_nil
    have w3 : Stp [a.rd] H [a.rd] H3 := ((v2.weak (qs := [a.rd]) (qs' := [a.rd]) (fun _ z => absurd z List.not_mem_nil) fun c hc => .inr hc)).trans z3
    have o4 : ∀ c ∈ a.fp l g, c ∉ B.fp := fun c hc => by
      obtain ⟨o, ho⟩ := hA.live c hc
      by_cases z : c = a.rd
      · rw [z]; exact v4.out erd List.not_mem_nil
      · exact v4.out (w3.keep ho (by simp [z])) List.not_mem_nil
    obtain ⟨dx4, h4⟩ := hA4.ob
    refine ⟨_, rfl, a.p, CF, dx4, _, _, rfl, h4, TC.cl_Fan, TC.R_Fan.n_hearers, fFl_h a, _, rfl, a.hd, _, rfl, DPut.k (k := Sum.inr n) hA4.hs hkh, ?_⟩
    have z5 := Stp.put (ps := [a.hd]) (o := .dK (putK (hdT l g) (Sum.inr n) (.ref B.p))) hA4.hs (fun _ z => by cases z) (by simp)
    have ehd := upd_same (H := H4) (a := a.hd) (o := .dK (putK (hdT l g) (Sum.inr n) (.ref B.p)))
    have nrh : a.rd ≠ a.hd := fun z => hA.ne (by simp [z])
    have erd5 := z5.keep erd4 (by simp [nrh])
    generalize upd H4 a.hd (.dK (putK (hdT l g) (Sum.inr n) (.ref B.p))) = H5 at z5 ehd erd5 ⊢
    have nph : a.p ≠ a.hd := ne_of h4 hA4.hs (by intro z; cases z)
    have hE : FEAt CR CH H5 ⟨p1, r, d, sz, way, ⟨[], [], false⟩, B, hs0⟩ := ⟨RA4.step z5 (fun c hc z => o2 a.hd (own_fp _ hdo) (by rw [List.mem_singleton] at z; rw [← z]; exact hc)), hB.step z5 (fun c hc z => o4 a.hd (own_fp _ hdo) (by rw [List.mem_singleton] at z; rw [← z]; exact hc)), oR⟩
    have efp : ∀ c, c ∈ FE.fp ⟨p1, r, d, sz, way, ⟨[], [], false⟩, B, hs0⟩ ↔ c ∈ [p1, r, d] ∨ c ∈ B.fp := fun c => List.mem_append
    have oE : ∀ c ∈ a.fp l g, c ∉ FE.fp ⟨p1, r, d, sz, way, ⟨[], [], false⟩, B, hs0⟩ := fun c hc z => ((efp c).mp z).elim (o2 c hc) (o4 c hc)
    have up_ne : ∀ m ∈ l, updE g n ⟨p1, r, d, sz, way, ⟨[], [], false⟩, B, hs0⟩ m = g m := fun m hm => updE_ne (fun z => hn (z ▸ hm))
    have fpm : ∀ m ∈ l, ∀ c ∈ (g m).fp, c ∈ a.fp l g := fun m hm c hc => List.mem_append_right _ (mem_fpF.mpr ⟨m, hm, hc⟩)
    have mem' : ∀ m ∈ l ++ [n], m ∈ l ∨ m = n := fun m hm => by simpa using hm
    refine q ⟨p1, r, d, sz, way, ⟨[], [], false⟩, B, hs0⟩ H5 ⟨⟨⟨dx4, z5.keep h4 (by simp [nph])⟩, hA4.tl.stp z5 (fun c hc z => hA.bt a.hd (by simp) (by rw [List.mem_singleton] at z; rw [← z]; exact hc)), ?_, fun m hm => ?_, ?_, fun m hm m' hm' hne c hc => ?_, fun m hm c hc => ?_, hA.ne, hA.bt⟩, ?_⟩ rfl rfl rfl rfl ?_
    · rw [ehd]
      have e := tabN_snoc (F := fun n => V.ref (g n).B.p) hn (.ref B.p)
      rw [hdT, e]
      refine congrArg (fun x => some (HO.dK x)) (tabN_congr fun m hm => ?_)
      show (if m = n then V.ref B.p else V.ref (g m).B.p) = _
      by_cases z : m = n
      · subst z; rw [if_pos rfl, updE_same]
      · rw [if_neg z, updE_ne z]
    · rcases mem' m hm with z | rfl
      · rw [up_ne m z]
        exact (hA4.en m z).step z5 (fun c hc y => hA.own m z c hc (by rw [List.mem_singleton] at y; rw [y]; exact hdo))
      · rw [updE_same]; exact hE
    · exact List.nodup_append.mpr ⟨hA.nd, by simp, fun x hx y hy e => by simp at hy; rw [hy] at e; rw [e] at hx; exact hn hx⟩
    · rcases mem' m hm with z | rfl
      · rw [up_ne m z] at hc
        rcases mem' m' hm' with z' | rfl
        · rw [up_ne m' z']; exact hA.ap m z m' z' hne c hc
        · rw [updE_same]; exact oE c (fpm m z c hc)
      · rw [updE_same] at hc
        rcases mem' m' hm' with z' | rfl
        · rw [up_ne m' z']; exact fun y => oE c (fpm m' z' c y) hc
        · exact absurd rfl hne
    · rcases mem' m hm with z | rfl
      · rw [up_ne m z] at hc; exact hA.own m z c hc
      · rw [updE_same] at hc; exact fun y => oE c (own_fp c y) hc
    · rw [erd5]
      have e := tabN_snoc (F := fun n => V.ref (g n).p) hn (.ref p1)
      rw [rdT, e]
      refine congrArg (fun x => some (HO.dK x)) (tabN_congr fun m hm => ?_)
      show (if m = n then V.ref p1 else V.ref (g m).p) = _
      by_cases z : m = n
      · subst z; rw [if_pos rfl, updE_same]
      · rw [if_neg z, updE_ne z]
    · refine ⟨fun c o ho hc => z5.keep (v4.keep (w3.keep ho (fun z => hc ?_)) List.not_mem_nil) (fun z => hc ?_), (w3.tup.trans v4.tup).trans z5.tup, fun c hc => ?_⟩
      · rw [List.mem_singleton] at z; rw [z]; exact own_fp _ rdo
      · rw [List.mem_singleton] at z; rw [z]; exact own_fp _ hdo
      · rcases List.mem_append.mp hc with z | z
        · exact .inl (own_fp c z)
        · obtain ⟨m, hm, hc⟩ := mem_fpF.mp z
          rcases mem' m hm with y | rfl
          · rw [up_ne m y] at hc; exact .inl (fpm m y c hc)
          · rw [updE_same] at hc
            rcases (efp c).mp hc with y | y
            · rcases v2.3 c y with u | u
              · exact absurd u List.not_mem_nil
              · exact .inr u
            · rcases v4.3 c y with u | u
              · exact absurd u List.not_mem_nil
              · rcases w3.free' u with t | t
                · rw [List.mem_singleton] at t; exact .inl (by rw [t]; exact own_fp _ rdo)
                · exact .inr t
abbrev s_Fan_carry : Stmt := inClass (top 21) 8
abbrev N_Fan_carry : List Str := ["self", "name", "many"]
theorem sc_Fan_carry : FnScope N_Fan_carry ["self", "name", "many"] (defScope s_Fan_carry) := ⟨rfl, rfl, rfl, by decide +kernel, rfl, by decide +kernel, by decide +kernel⟩
theorem ok_Fan_carry {f CF CT CR CH : Addr} {fd : FuncData} (F : Fun K "carry" "Fan.carry" s_Fan_carry f fd) (TC : TxtF K mg CF CT CR CH) (m_hearer_of : CalleeM P w K mg base 2 CF "hearer_of" ["self", "name"] (spFHearer CF CT CR CH)) (m_road_of : CalleeM P w K mg base 2 CF "road_of" ["self", "name"] (spFRoad CF CT CR CH)) (m_take_all : CalleeM P w K mg base 3 CH "take_all" ["self", "messages"] (spTakeAll CH)) (m_Road_take : CalleeM P w K mg base 1 CR "take" ["self", "many"] (spTakeR CR)) : FnOk P w K mg base CX0 4 f fd ["self", "name", "many"] (spFCarry CF CT CR CH) := by
  refine F.ok sc_Fan_carry (fun vs H Q E h => ?_) (fun cdv A outer s0 H vs Q E hr h => ?_)
  · obtain ⟨a, l, g, k, all, n, i, rfl, _⟩ := h; rfl
  · obtain ⟨a, l, g, k, all, n, i, rfl, hA, hn, hi, hfit, hok, hdf, hsz, hrl, q⟩ := h
    refine ⟨_, (pss_one (ps_ret (as_meth m_take_all TC.cl_Hearer (hr.mono (by decide)) (as_meth m_hearer_of TC.cl_Fan (hr.mono (by decide)) (pv 0) (at_cons (pv 1) as_nil)) (at_cons (as_meth m_Road_take TC.cl_Road (hr.mono (by decide)) (as_meth m_road_of TC.cl_Fan (hr.mono (by decide)) (pv 0) (at_cons (pv 1) as_nil)) (at_cons (pv 2) as_nil)) as_nil)))), ?_⟩
    obtain ⟨dx, h1⟩ := hA.ob
    have hB := (hA.en n hn).ha
    obtain ⟨dB, oB⟩ := hB.ob
    have hR := (hA.en n hn).ra
    obtain ⟨dR, oR⟩ := hR.ob
    refine ⟨_, rfl, a.p, dx, _, rfl, h1, no_f (.inr (.inr (.inl rfl))), _, rfl, a, l, g, k, all, n, rfl, hA, hn, (g n).B.p, dB, _, rfl, oB, no_h hB (.inr (.inr (.inl rfl))), _, rfl, a.p, dx, _, rfl, h1, no_f (.inr (.inl rfl)), _, rfl, a, l, g, k, all, n, rfl, hA, hn, (g n).p, dR, _, rfl, oR, no_rd (.inr (.inl rfl)), _, rfl, (g n).p, i, _, _, _, _, _, rfl, hR, hi, fun lt yt r' H2 RA2 st2 nlt olt elt mlt => ?_⟩
    have ⟨e1, t1⟩ := (hA.en n hn).road st2 RA2
    have ⟨hA2, w2⟩ := hA.put (e := { g n with s := { (g n).s with rows := (g n).s.rows.drop i.toNat }, r := r' }) hn t1 e1 rfl rfl
    have ltk : ((g n).s.rows.take i.toNat).length < 1000 := by rw [List.length_take]; omega
    refine ⟨(g n).B, _, [], lt, yt, _, rfl, e1.ha, elt, mlt, ltk, hfit, fun m hm => hok m (List.mem_of_mem_take hm), hdf, hsz, fun lh yh found H3 hB3 eh st3 nlh olh elh mlh => ?_⟩
    have ⟨e2, t2⟩ := e1.hear ⟨st3.1, st3.2, fun c hc => st3.3 c (List.mem_cons_of_mem _ hc)⟩ hB3
    have ⟨hA3, w3⟩ := hA2.put (e := { g n with s := { (g n).s with rows := (g n).s.rows.drop i.toNat }, r := r', h := takeS (g n).h ((g n).s.rows.take i.toNat) }) hn (by rw [updE_same]; exact t2) e2 (by rw [updE_same]) (by rw [updE_same])
    rw [updE_twice] at hA3 w3
    have efp : a.fp l (updE g n { g n with s := { (g n).s with rows := (g n).s.rows.drop i.toNat }, r := r', h := takeS (g n).h ((g n).s.rows.take i.toNat) }) = a.fp l (updE g n { g n with s := { (g n).s with rows := (g n).s.rows.drop i.toNat }, r := r' }) := congrArg (a.own ++ ·) (fpF_congr fun m hm => by
      by_cases z : m = n
      · subst z; rw [updE_same, updE_same]; rfl
      · rw [updE_ne z, updE_ne z])
    have nlh0 : lh ∈ a.fp l g ∨ H lh = none := w2.free' nlh
    exact q _ lh yh found H3 hA3 rfl rfl rfl rfl eh (w2.trans w3) nlh0 (by rw [efp]; exact hA2.free nlh) elh mlh
abbrev s_Fan_catch_up : Stmt := inClass (top 21) 9
abbrev N_Fan_catch_up : List Str := ["self", "name"]
theorem sc_Fan_catch_up : FnScope N_Fan_catch_up ["self", "name"] (defScope s_Fan_catch_up) := ⟨rfl, rfl, rfl, by decide +kernel, rfl, by decide +kernel, by decide +kernel⟩
theorem ok_Fan_catch_up {f CF CT CR CH : Addr} {fd : FuncData} (F : Fun K "catch_up" "Fan.catch_up" s_Fan_catch_up f fd) (TC : TxtF K mg CF CT CR CH) (m_hearer_of : CalleeM P w K mg base 2 CF "hearer_of" ["self", "name"] (spFHearer CF CT CR CH)) (m_road_of : CalleeM P w K mg base 2 CF "road_of" ["self", "name"] (spFRoad CF CT CR CH)) (m_mend : CalleeM P w K mg base 1 CR "mend" ["self"] (spMend CR)) (c_caught_up : Callee P w K mg base 4 "caught_up" ["teller", "hearer"] (spCaughtN CT CH)) : FnOk P w K mg base CX0 5 f fd ["self", "name"] (spFCatch CF CT CR CH) := by
  refine F.ok sc_Fan_catch_up (fun vs H Q E h => ?_) (fun cdv A outer s0 H vs Q E hr h => ?_)
  · obtain ⟨a, l, g, k, all, n, rfl, _⟩ := h; rfl
  · obtain ⟨a, l, g, k, all, n, rfl, hA, hn, hk, hR, hal, hok, hw, hnx, hsz, q⟩ := h
    refine ⟨_, (pss_cons (ps_expr (as_meth0 m_mend TC.cl_Road (hr.mono (by decide)) (as_meth m_road_of TC.cl_Fan (hr.mono (by decide)) (pv 0) (at_cons (pv 1) as_nil))))
      (pss_one (ps_ret (as_fn c_caught_up (hr.mono (by decide)) (at_cons (k_fld K (pv 0) rfl) (as_cons (as_meth m_hearer_of TC.cl_Fan (hr.mono (by decide)) (pv 0) (at_cons (pv 1) as_nil)) as_nil)))))), ?_⟩
    obtain ⟨dx, h1⟩ := hA.ob
    have hRd := (hA.en n hn).ra
    obtain ⟨dR, oR⟩ := hRd.ob
    refine ⟨_, rfl, a.p, dx, _, rfl, h1, no_f (.inr (.inl rfl)), _, rfl, a, l, g, k, all, n, rfl, hA, hn, (g n).p, dR, _, rfl, oR, no_rd (.inr (.inr (.inr rfl))), (g n).p, _, _, _, _, _, rfl, hRd, fun H2 RA2 st2 => ?_⟩
    have ⟨e1, t1⟩ := (hA.en n hn).road st2 RA2
    have ⟨hA2, w2⟩ := hA.put (e := { g n with s := { (g n).s with cut := false }, r := (g n).r }) hn t1 e1 rfl rfl
    obtain ⟨dx2, h2⟩ := hA2.ob
    refine ⟨_, rfl, a.p, CF, dx2, _, _, rfl, h2, TC.cl_Fan, TC.R_Fan.n_teller, fFl_t a, _, rfl, a.p, dx2, _, rfl, h2, no_f (.inr (.inr (.inl rfl))), _, rfl, a, l, _, k, all, n, rfl, hA2, hn, ?_⟩
    rw [updE_same]
    have hown : ∀ c ∈ [a.tp, a.ts, a.td], c ∉ (g n).B.fp := fun c hc z => hA.own n hn c (List.mem_append_right _ z) (by
      simp only [List.mem_cons, List.not_mem_nil, or_false] at hc
      rcases hc with rfl | rfl | rfl <;> simp [FA.own])
    refine ⟨a.tp, (g n).B, k, 0, all, a.ts, a.td, _, rfl, hA2.tl, e1.ha, hown, hk, hR, hal, hok, hw, hnx, hsz, fun qq lh ys found H3 hB3 eh st3 nq eq el ml ol oq nlh => ?_⟩
    have ⟨e2, t2⟩ := e1.hear st3 hB3
    have ⟨hA3, w3⟩ := hA2.put (e := { g n with s := { (g n).s with cut := false }, r := (g n).r, h := catchS k all (g n).h }) hn (by rw [updE_same]; exact t2) e2 (by rw [updE_same]) (by rw [updE_same])
    rw [updE_twice] at hA3 w3
    have efp : a.fp l (updE g n { g n with s := { (g n).s with cut := false }, r := (g n).r, h := catchS k all (g n).h }) = a.fp l (updE g n { g n with s := { (g n).s with cut := false }, r := (g n).r }) := congrArg (a.own ++ ·) (fpF_congr fun m hm => by
      by_cases z : m = n
      · subst z; rw [updE_same, updE_same]; rfl
      · rw [updE_ne z, updE_ne z])
    exact q _ qq lh ys found H3 hA3 rfl rfl rfl rfl eh (w2.trans w3) (by rw [efp]; exact hA2.free nq) (w2.free' nlh) (by rw [efp]; exact hA2.free nlh) eq el ml
abbrev s_Fan_tell : Stmt := inClass (top 21) 7
abbrev N_Fan_tell : List Str := ["self", "topic", "text", "number", "road"]
theorem sc_Fan_tell : FnScope N_Fan_tell ["self", "topic", "text"] (defScope s_Fan_tell) := ⟨rfl, rfl, rfl, by decide +kernel, rfl, by decide +kernel, by decide +kernel⟩
theorem ok_Fan_tell {f CF CT CR CH : Addr} {fd : FuncData} (F : Fun K "tell" "Fan.tell" s_Fan_tell f fd) (TC : TxtF K mg CF CT CR CH) (m_Teller_tell : CalleeM P w K mg base 1 CT "tell" ["self", "topic", "text"] (spTell CT)) (m_put : CalleeM P w K mg base 4 CR "put" ["self", "message"] (spPut CR)) : FnOk P w K mg base CX0 5 f fd ["self", "topic", "text"] (spFTell CF CT CR CH) := by
  refine F.ok sc_Fan_tell (fun vs H Q E h => ?_) (fun cdv A outer s0 H vs Q E hr h => ?_)
  · obtain ⟨a, l, g, k, all, t, x, rfl, _⟩ := h; rfl
  · obtain ⟨a, l, g, k, all, t, x, rfl, hA, hal, hk, hl, hroom, q⟩ := h
    refine ⟨_, (pss_cons (ps_set (i := 3) sc_Fan_tell.nd rfl (Or.inl rfl) (as_meth m_Teller_tell TC.cl_Teller (hr.mono (by decide)) (k_fld K (pv 0) rfl) (at_cons (pv 1) (as_cons (pv 2) as_nil))))
      (pss_cons (ps_thaw (ps_for PassesOwn.never rfl (pi_vals (k_bm0 K PySem.F.plainAttrs_dict PySem.F.slot_dict_values PySem.F.type_dict_values mt_values (k_fld K (pv 0) rfl))) (pg_name (i := 4) sc_Fan_tell.nd rfl (Or.inl rfl)) (pss_one (ps_expr (as_meth m_put TC.cl_Road (hr.mono (by decide)) (pv 4) (at_cons (as_tup (as_cons (pv 3) (as_cons (pv 1) (as_cons (pv 2) as_nil)))) as_nil))))))
      (pss_one (ps_ret (pv 3))))), ?_⟩
    obtain ⟨dx, h1⟩ := hA.ob
    obtain ⟨dT, oT⟩ := hA.tl.ob
    refine ⟨_, rfl, a.p, CF, dx, _, _, rfl, h1, TC.cl_Fan, TC.R_Fan.n_teller, fFl_t a, a.tp, dT, _, rfl, oT, no_t (.inl rfl), _, rfl, _, rfl, a.tp, t, x, k, 0, all, a.ts, a.td, rfl, hA.tl, hal, hk, fun H2 TA2 bu => ?_⟩
    have ⟨hA2, w2⟩ := hA.told TA2 ⟨bu, hA.tl.tups bu, fun c hc => .inl hc⟩
    obtain ⟨dx2, h2⟩ := hA2.ob
    have hfz : ∀ (o : Obj) (u : HO), H a.rd = some (.frz o u) → False := fun o u e => by rw [hA.rs] at e; cases e
    refine ⟨_, rfl, a.p, CF, dx2, _, _, rfl, h2, TC.cl_Fan, TC.R_Fan.n_roads, fFl_r a, .inr (.inr (.inl ⟨rfl, .inl ⟨_, hA2.rs⟩⟩)), a.rd, _, rfl, rfl, hA2.rs, fun pv npv => ?_⟩
    have g3 := Same.new (o := ValsO pv a.rd) npv
    refine ⟨pv, a.rd, _, rfl, upd_same, g3 _ _ hA2.rs, hfz, fun ob => ?_⟩
    have hA3 := hA2.same g3
    have z4 := Stp.put (ps := [a.rd]) (o := .frz ob (.dK (rdT l g))) hA3.rs (fun _ z => by cases z) (by simp)
    have hA4 := hA3.toFAt0.step z4 (fun c _ hne z => hne (List.mem_singleton.mp z))
    have e4 := upd_same (H := upd H2 pv (ValsO pv a.rd)) (a := a.rd) (o := .frz ob (.dK (rdT l g)))
    have rdo : a.rd ∈ a.own := by simp [FA.own]
    have w4 : Stp (a.fp l g) H (a.fp l g) (upd (upd H2 pv (ValsO pv a.rd)) a.rd (.frz ob (.dK (rdT l g)))) := (w2.trans (g3.step _)).trans (z4.up fun c hc => List.mem_append_left _ (by rw [List.mem_singleton] at hc; rw [hc]; exact rdo))
    generalize upd (upd H2 pv (ValsO pv a.rd)) a.rd (.frz ob (.dK (rdT l g))) = H4 at hA4 e4 w4 ⊢
    clear g3 z4 hA3
    generalize hm : (⟨(all.length : Int) + 1, t, x⟩ : Msg) = m at hA4 q
    refine for_it (n := (rdT l g).length) (fun i σ H' => ∃ o4 gi, σ = [some (.ref a.p), some (.str t), some (.str x), some (.int ((all.length : Int) + 1)), o4] ∧ FAt0 CF CT CR CH H' a l gi k (all ++ [m]) ∧ H' a.rd = some (.frz ob (.dK (rdT l g))) ∧ (∀ n, (gi n).p = (g n).p) ∧ (∀ n ∈ l, (n ∈ l.take i → FPut m (g n) (gi n)) ∧ (n ∉ l.take i → gi n = g n)) ∧ Stp (a.fp l g) H (a.fp l gi) H')
      ⟨_, g, rfl, hA4, e4, fun n => rfl, fun n hn => ⟨fun z => absurd z (by rw [List.take_zero]; exact List.not_mem_nil), fun _ => rfl⟩, w4⟩ ?_ ?_
    · rintro i σ H' hi ⟨o4, gi, rfl, hA', e', hpp, hin, w'⟩
      refine ⟨⟨e', hi⟩, ?_⟩
      rintro y H5 ⟨rfl, kv, hkv, rfl⟩
      have hi' : i < l.length := by rw [rdT, tabN_len] at hi; exact hi
      have hkv' : kv = (Sum.inr l[i], V.ref (g l[i]).p) := by
        unfold rdT tabN at hkv
        rw [List.getElem?_map, List.getElem?_eq_getElem hi'] at hkv
        exact (Option.some.inj hkv).symm
      subst hkv'
      have hn := List.getElem_mem hi'
      have hni : l[i] ∉ l.take i := fun z => by
        obtain ⟨j, hj, e⟩ := List.getElem_of_mem z
        rw [List.length_take] at hj
        rw [List.getElem_take] at e
        exact List.pairwise_iff_getElem.mp hA.nd j i (by omega) hi' (by omega) e
      have hgi := (hin _ hn).2 hni
      have hrm := hroom _ hn
      have hE := hA'.en _ hn
      have hp0 := hpp l[i]
      generalize hnm : l[i] = n at *
      rw [hgi] at hE hp0
      obtain ⟨dR, oR⟩ := hE.ra.ob
      refine rd_name ⟨_, rfl, (g n).p, dR, _, rfl, oR, no_rd (.inl rfl), _, rfl, _, rfl, _, rfl, (show 3 ≤ sizeLine by decide), fun c nc => ?_⟩
      have g5 : Same H5 (upd H5 c (mT m)) := Same.new nc
      have hc5 : (upd H5 c (mT m)) c = some (mT m) := upd_same
      have hmT : (HO.tup [V.int ((all.length : Int) + 1), V.str t, V.str x]) = mT m := by rw [← hm]; rfl
      rw [hmT]
      have hA5 := hA'.step (g5.step []) (fun _ _ _ => List.not_mem_nil)
      have hE5 := hE.same g5
      have e5 := g5 _ _ e'
      generalize upd H5 c (mT m) = H6 at g5 hc5 hA5 hE5 e5 ⊢
      refine ⟨(g n).p, c, m, _, _, _, _, _, rfl, hE5.ra, hc5, hrm.1, hrm.2, fun r' H7 RA7 st7 => ?_⟩
      have ⟨e1, t1⟩ := hE5.road st7 RA7
      have ⟨hA7, w7⟩ := hA5.put (e := { g n with s := rputS (g n).sz (g n).way (g n).s m, r := r' }) hn ⟨_, e5⟩ (by rw [hgi]; exact t1) e1 (by rw [hgi]) (by rw [hgi])
      refine ⟨_, updE gi n { g n with s := rputS (g n).sz (g n).way (g n).s m, r := r' }, rfl, hA7, st7.keep e5 (fun z => hA.own n hn a.rd (List.mem_append_left _ z) rdo), fun n' => ?_, fun n' hn' => ⟨fun z => ?_, fun z => ?_⟩, (w'.trans (g5.step _)).trans w7⟩
      · by_cases y : n' = n
        · subst y; rw [updE_same]
        · rw [updE_ne y]; exact hpp n'
      · by_cases y : n' = n
        · subst y; rw [updE_same]; exact ⟨rfl, rfl, rfl, rfl⟩
        · rw [updE_ne y]
          refine (hin n' hn').1 ?_
          rw [List.take_add_one, List.getElem?_eq_getElem hi', hnm] at z
          rcases List.mem_append.mp z with u | u
          · exact u
          · exact absurd (List.mem_singleton.mp u) y
      · have y : n' ≠ n := fun y => z (by
          rw [List.take_add_one, List.getElem?_eq_getElem hi', hnm, y]
          exact List.mem_append_right _ (by simp))
        rw [updE_ne y]
        refine (hin n' hn').2 fun u => z ?_
        rw [List.take_add_one]
        exact List.mem_append_left _ u
    rintro σ H5 ⟨o4, gi, rfl, hA5, e5, hpp, hin, w5⟩
    refine ⟨⟨e5, Nat.le_refl _⟩, a.rd, ob, _, e5, hfz, ?_⟩
    have z6 := Stp.put (ps := [a.rd]) (o := .dK (rdT l g)) e5 (fun _ z => by cases z) (by simp)
    have hA6 := hA5.step z6 (fun c _ hne z => hne (List.mem_singleton.mp z))
    have eT : rdT l gi = rdT l g := tabN_congr fun n _ => by rw [hpp n]
    refine ⟨_, rfl, q gi _ ⟨hA6, by rw [eT]; exact upd_same⟩ (fun n hn => (hin n hn).1 ?_) (w5.trans (z6.up fun c hc => List.mem_append_left _ (by rw [List.mem_singleton] at hc; rw [hc]; exact rdo)))⟩
    rw [rdT, tabN_len, List.take_length]; exact hn

abbrev s_Fan_close : Stmt := inClass (top 21) 2
abbrev N_Fan_close : List Str := ["self", "name"]
theorem sc_Fan_close : FnScope N_Fan_close ["self", "name"] (defScope s_Fan_close) := ⟨rfl, rfl, rfl, by decide +kernel, rfl, by decide +kernel, by decide +kernel⟩
theorem tabN_drop (F : Str → V) (n : Str) : ∀ l : List Str, dropK (tabN l F) (Sum.inr n) = tabN (l.filter fun m => decide (m ≠ n)) F
  | [] => rfl
  | m :: r => by
    have ih := tabN_drop F n r
    unfold dropK tabN at ih ⊢
    rw [List.map_cons, List.filter_cons, List.filter_cons]
    by_cases z : m = n
    · rw [if_neg (by simp [z]), if_neg (by simp [z])]; exact ih
    · rw [if_pos (by simp [z]), if_pos (by simp [z]), List.map_cons, ih]
theorem ok_Fan_close {f CF CT CR CH : Addr} {fd : FuncData} (F : Fun K "close" "Fan.close" s_Fan_close f fd) (TC : FanC K mg CF) (m_refuse_unknown : CalleeM P w K mg base 1 CF "refuse_unknown" ["self", "name"] (spFKnow CF CT CR CH)) : FnOk P w K mg base CX0 2 f fd ["self", "name"] (spFClose CF CT CR CH) := by
  refine F.ok sc_Fan_close (fun vs H Q E h => ?_) (fun cdv A outer s0 H vs Q E hr h => ?_)
  · obtain ⟨a, l, g, k, all, n, rfl, _⟩ := h; rfl
  · obtain ⟨a, l, g, k, all, n, rfl, hA, hn, q⟩ := h
    refine ⟨_, (pss_cons (ps_expr (as_meth m_refuse_unknown TC.cl_Fan (hr.mono (by decide)) (pv 0) (at_cons (pv 1) as_nil)))
      (pss_cons (ps_expr (pe_dpop1 (k_fld K (pv 0) rfl) (pv 1) ⟨rfl, rfl, rfl, rfl⟩))
      (pss_one (ps_expr (pe_dpop1 (k_fld K (pv 0) rfl) (pv 1) ⟨rfl, rfl, rfl, rfl⟩))))), ?_⟩
    obtain ⟨dx, h1⟩ := hA.ob
    refine ⟨_, rfl, a.p, dx, _, rfl, h1, no_f (.inl rfl), _, rfl, a, l, g, k, all, n, rfl, hA, hn, _, rfl, a.p, CF, dx, _, _, rfl, h1, TC.cl_Fan, TC.n_roads, fFl_r a, a.rd, rfl, .inl ⟨_, .inl hA.rs⟩, _, rfl, _, Sum.inr n, _, hA.rs, rfl, tabN_val hn, ?_⟩
    have z1 := Stp.put (ps := [a.rd]) (o := .dK (dropK (rdT l g) (Sum.inr n))) hA.rs (fun _ z => by cases z) (by simp)
    have e1 := upd_same (H := H) (a := a.rd) (o := .dK (dropK (rdT l g) (Sum.inr n)))
    have hA1 := hA.toFAt0.step z1 (fun c _ hne z => hne (List.mem_singleton.mp z))
    generalize upd H a.rd (.dK (dropK (rdT l g) (Sum.inr n))) = H1 at z1 e1 hA1 ⊢
    obtain ⟨dx2, h2⟩ := hA1.ob
    refine ⟨_, rfl, a.p, CF, dx2, _, _, rfl, h2, TC.cl_Fan, TC.n_hearers, fFl_h a, a.hd, rfl, .inl ⟨_, .inl hA1.hs⟩, _, rfl, _, Sum.inr n, _, hA1.hs, rfl, tabN_val hn, ?_⟩
    have z2 := Stp.put (ps := [a.hd]) (o := .dK (dropK (hdT l g) (Sum.inr n))) hA1.hs (fun _ z => by cases z) (by simp)
    have e2 := upd_same (H := H1) (a := a.hd) (o := .dK (dropK (hdT l g) (Sum.inr n)))
    have nrh : a.rd ≠ a.hd := fun z => hA.ne (by simp [z])
    have e12 := z2.keep e1 (by simp [nrh])
    generalize upd H1 a.hd (.dK (dropK (hdT l g) (Sum.inr n))) = H2 at z2 e2 e12 ⊢
    have nph : a.p ≠ a.hd := ne_of h2 hA1.hs (by intro z; cases z)
    have sub : ∀ m ∈ l.filter (fun m => decide (m ≠ n)), m ∈ l := fun m hm => (List.mem_filter.mp hm).1
    refine q H2 ⟨⟨⟨dx2, z2.keep h2 (by simp [nph])⟩, hA1.tl.stp z2 (fun c hc z => hA.bt a.hd (by simp) (by rw [List.mem_singleton] at z; rw [← z]; exact hc)), by rw [e2, hdT, tabN_drop]; rfl, fun m hm => (hA1.en m (sub m hm)).step z2 (fun c hc z => hA.own m (sub m hm) c hc (by rw [List.mem_singleton] at z; rw [z]; simp [FA.own])), List.Pairwise.filter _ hA.nd, fun m hm m' hm' => hA.ap m (sub m hm) m' (sub m' hm'), fun m hm => hA.own m (sub m hm), hA.ne, hA.bt⟩, by rw [e12, rdT, tabN_drop]; rfl⟩ ?_
    have w1 : Stp (a.fp l g) H (a.fp l g) H2 := (z1.up fun c hc => List.mem_append_left _ (by rw [List.mem_singleton] at hc; rw [hc]; simp [FA.own])).trans (z2.up fun c hc => List.mem_append_left _ (by rw [List.mem_singleton] at hc; rw [hc]; simp [FA.own]))
    exact ⟨w1.1, w1.2, fun c hc => by
      rcases List.mem_append.mp hc with z | z
      · exact .inl (List.mem_append_left _ z)
      · obtain ⟨m, hm, hc⟩ := mem_fpF.mp z
        exact .inl (List.mem_append_right _ (mem_fpF.mpr ⟨m, sub m hm, hc⟩))⟩

theorem nfC {a : FA} : (fFl a).lookup ("carry" : Str) = none := no_f (.inr (.inr (.inr (.inr (.inr (.inl rfl))))))
theorem nfT {a : FA} : (fFl a).lookup ("tell" : Str) = none := no_f (.inr (.inr (.inr (.inr (.inl rfl)))))
theorem nfN {a : FA} : (fFl a).lookup ("names" : Str) = none := no_f (.inr (.inr (.inr (.inl rfl))))
theorem nfU {a : FA} : (fFl a).lookup ("catch_up" : Str) = none := no_f (.inr (.inr (.inr (.inr (.inr (.inr (.inl rfl)))))))
theorem nfH {a : FA} : (fFl a).lookup ("heard" : Str) = none := no_f (.inr (.inr (.inr (.inr (.inr (.inr (.inr (.inl rfl))))))))
theorem nfO {a : FA} : (fFl a).lookup ("lost" : Str) = none := no_f (.inr (.inr (.inr (.inr (.inr (.inr (.inr (.inr (.inl rfl)))))))))
theorem nfW {a : FA} : (fFl a).lookup ("waiting" : Str) = none := no_f (.inr (.inr (.inr (.inr (.inr (.inr (.inr (.inr (.inr (.inl rfl))))))))))
theorem nfL {a : FA} : (fFl a).lookup ("lag" : Str) = none := no_f (.inr (.inr (.inr (.inr (.inr (.inr (.inr (.inr (.inr (.inr (.inl rfl)))))))))))
theorem nfY {a : FA} : (fFl a).lookup ("lay" : Str) = none := no_f (.inr (.inr (.inr (.inr (.inr (.inr (.inr (.inr (.inr (.inr (.inr (.inr (.inl rfl)))))))))))))
theorem nfX {a : FA} : (fFl a).lookup ("close" : Str) = none := no_f (.inr (.inr (.inr (.inr (.inr (.inr (.inr (.inr (.inr (.inr (.inr (.inr (.inr rfl)))))))))))))
/-- a road and its hearer, of all that was told -/
structure FO (all : List Msg) (e : FE) : Prop where
  sub : ∀ m ∈ e.s.rows, m ∈ all
  hw : Hw all e.h
  sum : e.s.rows.length + e.s.out.length ≤ all.length
  sz : 1 ≤ e.sz
theorem FO.put {all : List Msg} {m : Msg} {e e' : FE} (h : FO all e) (p : FPut m e e') : FO (all ++ [m]) e' := by
  have hs := h.sum
  have key : (∀ x ∈ (rputS e.sz e.way e.s m).rows, x ∈ all ∨ x = m) ∧ (rputS e.sz e.way e.s m).rows.length + (rputS e.sz e.way e.s m).out.length ≤ all.length + 1 := by
    unfold rputS
    split
    · refine ⟨fun x hx => .inl (h.sub x hx), ?_⟩
      simp only [List.length_append, List.length_singleton]; omega
    split
    · refine ⟨fun x hx => ?_, ?_⟩
      · rcases List.mem_append.mp hx with z | z
        · exact .inl (h.sub x z)
        · exact .inr (List.mem_singleton.mp z)
      · simp only [List.length_append, List.length_singleton]; omega
    · next hfull =>
      have hpos : 1 ≤ e.s.rows.length := by have := h.sz; omega
      split
      · refine ⟨fun x hx => ?_, ?_⟩
        · rcases List.mem_append.mp hx with z | z
          · exact .inl (h.sub x (List.mem_of_mem_drop z))
          · exact .inr (List.mem_singleton.mp z)
        · simp only [List.length_append, List.length_singleton, List.length_drop, List.length_map, List.length_take]; omega
      split
      · refine ⟨fun x hx => .inl (h.sub x hx), ?_⟩
        simp only [List.length_append, List.length_singleton]; omega
      · refine ⟨fun x hx => absurd hx List.not_mem_nil, ?_⟩
        simp only [List.length_append, List.length_singleton, List.length_map, List.length_nil]; omega
  refine ⟨fun x hx => ?_, ?_, ?_, by rw [p.sz]; exact h.sz⟩
  · rw [p.s] at hx
    rcases key.1 x hx with z | z
    · exact List.mem_append_left _ z
    · rw [z]; simp
  · rw [p.h]
    exact h.hw.more (fun x hx => List.mem_append_left _ hx) (by rw [List.length_append]; omega)
  · rw [p.s, List.length_append]
    exact key.2
theorem FO.sizes {all : List Msg} {e : FE} (hR : Rows all) (h : FO all e) : e.h.heard.length + e.h.lost.length ≤ all.length ∧ e.h.held.length ≤ all.length ∧ e.h.next ≤ (all.length : Int) + 1 := by
  have hu := h.hw.toHw0.up hR
  have e1 : e.h.next = (e.h.heard.length : Int) + (e.h.lost.length : Int) + 1 := rfl
  have hd : e.h.held.Nodup := (List.pairwise_map.mp h.hw.dh).imp fun h e => h (congrArg Msg.n e)
  have hl := List.Nodup.length_le_of_subset hd fun m hm => h.hw.sub m (.inr hm)
  omega
theorem FO.carry {all : List Msg} {e e' : FE} {i : Nat} (hR : Rows all) (h : FO all e) (h1 : e'.sz = e.sz) (h2 : e'.s = { e.s with rows := e.s.rows.drop i }) (h3 : e'.h = takeS e.h (e.s.rows.take i)) : FO all e' where
  sub m hm := by rw [h2] at hm; exact h.sub m (List.mem_of_mem_drop hm)
  hw := by rw [h3]; exact h.hw.take hR fun m hm => h.sub m (List.mem_of_mem_take hm)
  sum := by
    rw [h2]
    have := h.sum
    show (e.s.rows.drop i).length + e.s.out.length ≤ _
    rw [List.length_drop]; omega
  sz := by rw [h1]; exact h.sz
theorem FO.catch {all : List Msg} {e e' : FE} {k : Int} (hR : Rows all) (hk : 0 ≤ k) (h : FO all e) (h1 : e'.sz = e.sz) (h2 : e'.s = { e.s with cut := false }) (h3 : e'.h = catchS k all e.h) : FO all e' where
  sub m hm := by rw [h2] at hm; exact h.sub m hm
  hw := by rw [h3]; exact (h.hw.catch hR hk (h.hw.toHw0.up hR)).1
  sum := by rw [h2]; exact h.sum
  sz := by rw [h1]; exact h.sz
theorem FO.new {all : List Msg} {e : FE} (h1 : 1 ≤ e.sz) (h2 : e.s = ⟨[], [], false⟩) (h3 : e.h = hs0) : FO all e where
  sub m hm := by rw [h2] at hm; exact absurd hm List.not_mem_nil
  hw := by rw [h3]; exact Hw.start all
  sum := by rw [h2]; exact Nat.zero_le _
  sz := h1
/-- a fan and all that was told -/
structure FG (CF CT CR CH : Addr) (H : Hp) (a : FA) (l : List Str) (g : Str → FE) (k : Int) (all : List Msg) : Prop where
  fa : FAt CF CT CR CH H a l g k all
  en : ∀ n ∈ l, FO all (g n)
  rows : Rows all
  ok : ∀ m ∈ all, mOk m
  k0 : 0 ≤ k
  ln : l.length ≤ 3
section
variable {CF CT CR CH : Addr} {H H' : Hp} {a : FA} {l : List Str} {g g' : Str → FE} {k : Int} {all : List Msg} {n : Str} {e : FE}
theorem FG.same (h : FG CF CT CR CH H a l g k all) (s : Same H H') : FG CF CT CR CH H' a l g k all := ⟨h.fa.same s, h.en, h.rows, h.ok, h.k0, h.ln⟩
theorem FG.step {ps ps' : List Addr} (h : FG CF CT CR CH H a l g k all) (st : Stp ps H ps' H') (hd : ∀ c ∈ a.fp l g, c ∉ ps) : FG CF CT CR CH H' a l g k all := ⟨h.fa.step st hd, h.en, h.rows, h.ok, h.k0, h.ln⟩
theorem FG.tell (h : FG CF CT CR CH H a l g k all) {t x : Str} (ht : PyData.strOk t = true) (hx : PyData.strOk x = true) (fa : FAt CF CT CR CH H' a l g' k (all ++ [⟨(all.length : Int) + 1, t, x⟩])) (hp : ∀ n ∈ l, FPut ⟨(all.length : Int) + 1, t, x⟩ (g n) (g' n)) : FG CF CT CR CH H' a l g' k (all ++ [⟨(all.length : Int) + 1, t, x⟩]) :=
  ⟨fa, fun n hn => (h.en n hn).put (hp n hn), h.rows.snoc rfl, fun m hm => by
    rcases List.mem_append.mp hm with z | z
    · exact h.ok m z
    · rw [List.mem_singleton] at z; rw [z]; exact ⟨ht, hx⟩, h.k0, h.ln⟩
theorem FG.upd (h : FG CF CT CR CH H a l g k all) (fa : FAt CF CT CR CH H' a l (updE g n e) k all) (he : FO all e) : FG CF CT CR CH H' a l (updE g n e) k all :=
  ⟨fa, fun m hm => by
    by_cases z : m = n
    · subst z; rw [updE_same]; exact he
    · rw [updE_ne z]; exact h.en m hm, h.rows, h.ok, h.k0, h.ln⟩
theorem FG.lay (h : FG CF CT CR CH H a l g k all) (fa : FAt CF CT CR CH H' a (l ++ [n]) (updE g n e) k all) (he : FO all e) (hl : l.length ≤ 2) : FG CF CT CR CH H' a (l ++ [n]) (updE g n e) k all :=
  ⟨fa, fun m hm => by
    by_cases z : m = n
    · subst z; rw [updE_same]; exact he
    · rw [updE_ne z]
      rcases List.mem_append.mp hm with y | y
      · exact h.en m y
      · exact absurd (List.mem_singleton.mp y) z, h.rows, h.ok, h.k0, by rw [List.length_append]; show _ + 1 ≤ 3; omega⟩
theorem FG.room (h : FG CF CT CR CH H a l g k all) (hl : all.length ≤ 20) : ∀ n ∈ l, (g n).s.rows.length < 63 ∧ (g n).s.out.length < 1000 := fun n hn => by
  have := (h.en n hn).sum
  omega
theorem FG.can (h : FG CF CT CR CH H a l g k all) (hl : all.length ≤ 20) (hn : n ∈ l) (i : Nat) : Fits (g n).h ((g n).s.rows.take i) ∧ (∀ m ∈ (g n).s.rows, mOk m) ∧ Diff (g n).h.held ∧ (g n).h.heard.length + (g n).h.held.length + (g n).h.lost.length < 1000 ∧ (g n).s.rows.length < 1000 := by
  have hE := h.en n hn
  have hz := hE.sizes h.rows
  have hs := hE.sum
  exact ⟨hE.hw.toHw0.fits h.rows (fun m hm => hE.sub m (List.mem_of_mem_take hm)), fun m hm => h.ok m (hE.sub m hm), hE.hw.dh, by omega, by omega⟩
end
theorem take_early {m : Msg} (h : 1 < m.n) : takeS hs0 [m] = ⟨[], [m], []⟩ := by
  show hearS (addS hs0 m) = _
  have hn : hs0.next = 1 := rfl
  have e : addS hs0 m = ⟨[], [m], []⟩ := by unfold addS; rw [if_pos (by omega)]; rfl
  rw [e]
  exact hearS_none (findN_none.mpr fun x hx => by rw [List.mem_singleton] at hx; rw [hx]; show ¬ m.n = 1; omega)
def spLate (CF CT CR CH : Addr) : Sp := fun vs H Q _ => ∃ a g k all, vs = [.ref (FA.p a)] ∧ FG CF CT CR CH H a ["p"] g k all ∧ all.length ≤ 12 ∧ ∀ H', Q (.bl true) H'
theorem pl_ne : ("late" : Str) ∉ (["p"] : List Str) := by decide +kernel
theorem pl_fil : ((["p"] : List Str) ++ (["late"] : List Str)).filter (fun m => decide (m ≠ ("late" : Str))) = (["p"] : List Str) := by decide +kernel
theorem pl_in : ("late" : Str) ∈ (["p"] : List Str) ++ (["late"] : List Str) := by decide +kernel
theorem pl_rise : (["late", "p"] : List Str).Pairwise leT := List.pairwise_cons.mpr ⟨fun y hy => by rw [List.mem_singleton] at hy; rw [hy]; unfold leT; decide +kernel, List.pairwise_singleton _ _⟩
theorem pl_perm : (["late", "p"] : List Str).Perm ((["p"] : List Str) ++ (["late"] : List Str)) := List.Perm.swap _ _ []
theorem hasL_ss {H : Hp} : ∀ l : List Str, HasL H (l.map V.str) (l.map PyData.str)
  | [] => hasL_nil
  | t :: l => hasL_cons (has_str t) (hasL_ss l)
theorem eq_pl {H : Hp} {a b : Addr} {Q : VK} (ha : H a = some (.lst ((["late", "p"] : List Str).map V.str))) (hb : H b = some (.lst ((["late", "p"] : List Str).map V.str))) (q : Q (.bl true) H) : rEqD (.ref a) (.ref b) H Q := by
  have hc : SeqAt.shaped (.list ((["late", "p"] : List Str).map PyData.str)) = true ∧ PyData.canLay0 (.list ((["late", "p"] : List Str).map PyData.str)) = true := by decide +kernel
  refine ⟨_, _, has_lst ha (hasL_ss _), has_lst hb (hasL_ss _), hc.1, hc.1, ?_⟩
  rw [SeqAt.eqv_refl _ hc.2]; exact q
theorem cut_m1 {xs : List V} : cutV xs (some (-1)) none = xs.drop (xs.length - 1) := by
  unfold cutV HT.sIx
  simp only
  split <;> (try split) <;> first
    | (rw [List.take_of_length_le (by rw [List.length_drop]; omega)]; congr 1; omega)
    | omega
theorem last_of {R : List Msg} {m : Msg} (hr : Rise R) (hm : m ∈ R) (hx : ∀ x ∈ R, x.n ≤ m.n) : R.drop (R.length - 1) = [m] := by
  obtain ⟨i, hi, rfl⟩ := List.getElem_of_mem hm
  have hl : i = R.length - 1 := by
    rcases Nat.lt_or_ge i (R.length - 1) with z | z
    · have h1 := List.pairwise_iff_getElem.mp hr i (R.length - 1) hi (by omega) z
      have h2 := hx _ (List.getElem_mem (show R.length - 1 < R.length by omega))
      omega
    · omega
  subst hl
  rw [List.drop_eq_getElem_cons (by omega), List.drop_of_length_le (by omega)]
theorem bz_ok : PyData.strOk "b" = true ∧ PyData.strOk "y" = true ∧ PyData.strOk "z" = true := by decide +kernel
abbrev s_l_is_late : Stmt := top 25
abbrev N_l_is_late : List Str := ["_law_fan", "_law_last"]
theorem sc_l_is_late : FnScope N_l_is_late ["_law_fan"] (defScope s_l_is_late) := ⟨rfl, rfl, rfl, by decide +kernel, rfl, by decide +kernel, by decide +kernel⟩
theorem ok_l_is_late {f CF CT CR CH : Addr} {fd : FuncData} (F : Fun K "_law_is_late" "_law_is_late" s_l_is_late f fd) (T : Txt mg) (TC : TxtF K mg CF CT CR CH)
    (m_lay : CalleeM P w K mg base 3 CF "lay" ["self", "name", "size", "way"] (spFLay CF CT CR CH)) (m_close : CalleeM P w K mg base 2 CF "close" ["self", "name"] (spFClose CF CT CR CH)) (m_names : CalleeM P w K mg base 1 CF "names" ["self"] (spFNames CF CT CR CH)) (m_Fan_tell : CalleeM P w K mg base 5 CF "tell" ["self", "topic", "text"] (spFTell CF CT CR CH)) (m_carry : CalleeM P w K mg base 4 CF "carry" ["self", "name", "many"] (spFCarry CF CT CR CH)) (m_catch_up : CalleeM P w K mg base 5 CF "catch_up" ["self", "name"] (spFCatch CF CT CR CH))
    (m_Fan_heard : CalleeM P w K mg base 3 CF "heard" ["self", "name"] (spFHeard CF CT CR CH)) (m_Fan_lost : CalleeM P w K mg base 3 CF "lost" ["self", "name"] (spFLost CF CT CR CH)) (m_Fan_waiting : CalleeM P w K mg base 3 CF "waiting" ["self", "name"] (spFWait CF CT CR CH)) (m_lag : CalleeM P w K mg base 3 CF "lag" ["self", "name"] (spFLag CF CT CR CH)) :
    FnOk P w K mg base CX0 6 f fd ["_law_fan"] (spLate CF CT CR CH) := by
  refine F.ok sc_l_is_late (fun vs H Q E h => ?_) (fun cdv A0 outer s0 H vs Q E hr h => ?_)
  · obtain ⟨A, g, k, all, rfl, _⟩ := h; rfl
  · obtain ⟨A, g, k, all, rfl, X, hl, q⟩ := h
    refine ⟨_, (pss_cons (ps_set (i := 1) sc_l_is_late.nd rfl (Or.inl rfl) (as_meth m_Fan_tell TC.cl_Fan (hr.mono (by decide)) (pv 0) (at_cons pe_str (as_cons pe_str as_nil))))
      (pss_cons (ps_expr (as_meth m_lay TC.cl_Fan (hr.mono (by decide)) (pv 0) (at_cons pe_str (as_cons pe_int (as_cons pe_str as_nil)))))
      (pss_cons (ps_if (PW.pt (pw_or (pt_cmpR op_ne (as_meth m_Fan_tell TC.cl_Fan (hr.mono (by decide)) (pv 0) (at_cons pe_str (as_cons pe_str as_nil))) (pe_op op_add (pv 1) pe_int) (nomark _)) (pw_or1 (pt_cmpR (op_neD hr.units) (as_meth m_Fan_waiting TC.cl_Fan (hr.mono (by decide)) (pv 0) (at_cons pe_str as_nil)) (as_lst (as_cons (as_tup (as_cons (pe_op op_add (pv 1) pe_int) (as_cons pe_str (as_cons pe_str as_nil)))) as_nil)) (nomark _))))) (pss_one (ps_ret pe_bl)) pss_nil)
      (pss_cons (ps_if (PW.pt (pw_or (pt_cmpR (k_ne0 K hr.units0) (as_meth m_carry TC.cl_Fan (hr.mono (by decide)) (pv 0) (at_cons pe_str (as_cons pe_int as_nil))) (as_lst as_nil) (nomark _)) (pw_or (pt_cmpR op_ne (as_meth m_lag TC.cl_Fan (hr.mono (by decide)) (pv 0) (at_cons pe_str as_nil)) (pe_op op_add (pv 1) pe_int) (nomark _)) (pw_or1 (pt_cmpR (k_ne0 K hr.units0) (as_meth m_Fan_heard TC.cl_Fan (hr.mono (by decide)) (pv 0) (at_cons pe_str as_nil)) (as_lst as_nil) (nomark _)))))) (pss_one (ps_ret pe_bl)) pss_nil)
      (pss_cons (ps_expr (as_meth m_catch_up TC.cl_Fan (hr.mono (by decide)) (pv 0) (at_cons pe_str as_nil)))
      (pss_cons (ps_if (PW.pt (pw_or (pt_cmpR op_ne (as_meth m_lag TC.cl_Fan (hr.mono (by decide)) (pv 0) (at_cons pe_str as_nil)) pe_int (nomark _)) (pw_or1 (pt_cmpR (op_neD hr.units) (pe_slice (k_sl_list K) (as_meth m_Fan_heard TC.cl_Fan (hr.mono (by decide)) (pv 0) (at_cons pe_str as_nil)) (po_some (pe_un un_neg pe_int)) po_none) (as_lst (as_cons (as_tup (as_cons (pe_op op_add (pv 1) pe_int) (as_cons pe_str (as_cons pe_str as_nil)))) as_nil)) (nomark _))))) (pss_one (ps_ret pe_bl)) pss_nil)
      (pss_cons (ps_expr (as_meth m_close TC.cl_Fan (hr.mono (by decide)) (pv 0) (at_cons pe_str as_nil)))
      (pss_cons (ps_expr (as_meth m_lay TC.cl_Fan (hr.mono (by decide)) (pv 0) (at_cons pe_str (as_cons pe_int (as_cons pe_str as_nil)))))
      (pss_cons (ps_if (PW.pt (pw_or (pt_cmpR (k_ne0 K hr.units0) (as_meth m_Fan_heard TC.cl_Fan (hr.mono (by decide)) (pv 0) (at_cons pe_str as_nil)) (as_lst as_nil) (nomark _)) (pw_or1 (pt_cmpR (k_ne0 K hr.units0) (as_meth m_Fan_lost TC.cl_Fan (hr.mono (by decide)) (pv 0) (at_cons pe_str as_nil)) (as_lst as_nil) (nomark _))))) (pss_one (ps_ret pe_bl)) pss_nil)
      (pss_one (ps_ret (pe_and (pe_cmpR (k_eq0 K hr.units0) (as_meth m_Fan_waiting TC.cl_Fan (hr.mono (by decide)) (pv 0) (at_cons pe_str as_nil)) (as_lst as_nil) (nomark _)) (pe_one (pe_cmpR (op_eqD hr.units) (as_meth0 m_names TC.cl_Fan (hr.mono (by decide)) (pv 0)) (as_lst (as_cons pe_str (as_cons pe_str as_nil))) (nomark _))))))))))))))), ?_⟩
    obtain ⟨dx, h1⟩ := X.fa.ob
    refine ⟨_, rfl, A.p, dx, _, rfl, h1, nfT, A, _, g, k, all, "b", "y", rfl, X.fa, by omega, X.k0, by decide, X.room (by omega), fun g1 H1 fa1 hp1 st1 => ?_⟩
    have X1 := X.tell bz_ok.1 bz_ok.2.1 fa1 hp1
    have la1 : (all ++ [(⟨(all.length : Int) + 1, "b", "y"⟩ : Msg)]).length = all.length + 1 := by rw [List.length_append]; rfl
    generalize all ++ [(⟨(all.length : Int) + 1, "b", "y"⟩ : Msg)] = al1 at X1 la1
    clear fa1 hp1 X
    obtain ⟨dx, h1⟩ := X1.fa.ob
    refine ⟨_, rfl, A.p, dx, _, rfl, h1, nfY, A, _, g1, k, al1, "late", 9, "old", rfl, X1.fa, pl_ne, by decide, fun e2 H2 fa2 z1 z2 z3 z4 st2 => ?_⟩
    have X2 := X1.lay fa2 (FO.new (by omega) z3 z4) (by decide)
    have hg2 : updE g1 "late" e2 "late" = e2 := updE_same
    generalize updE g1 "late" e2 = g2 at X2 hg2
    obtain ⟨dx, h1⟩ := X2.fa.ob
    refine ⟨_, rfl, A.p, dx, _, rfl, h1, nfT, A, _, g2, k, al1, "b", "z", rfl, X2.fa, by omega, X2.k0, by decide, X2.room (by omega), fun g3 H3 fa3 hp3 st3 => ⟨_, rfl, _, _, rfl, rfl, rfl, _, rfl, ite2 (fun z => absurd z ?_) (fun _ => ?_)⟩⟩
    · show ¬ ((!decide (V.int ((al1.length : Int) + 1) = V.int ((all.length : Int) + 1 + 1))) = true)
      rw [decide_eq_true (congrArg V.int (by omega))]; decide
    have X3 := X2.tell bz_ok.1 bz_ok.2.2 fa3 hp3
    have hpl := hp3 "late" pl_in
    generalize hm2 : (⟨(al1.length : Int) + 1, "b", "z"⟩ : Msg) = m2 at X3 hpl
    have n2 : m2.n = (al1.length : Int) + 1 := by rw [← hm2]
    have la2 : (al1 ++ [m2]).length = all.length + 2 := by rw [List.length_append, la1]; rfl
    have mem2 : m2 ∈ al1 ++ [m2] := by simp
    have s3 : (g3 "late").s = ⟨[m2], [], false⟩ := by
      rw [hpl.s, hg2, z1, z3]
      unfold rputS
      rw [if_neg (by simp), if_pos (by show (0 : Int) < 9; decide)]; rfl
    have h3 : (g3 "late").h = hs0 := by rw [hpl.h, hg2, z4]
    generalize al1 ++ [m2] = al2 at X3 la2 mem2
    clear fa3 hp3 X2 fa2 X1
    obtain ⟨dx, h1⟩ := X3.fa.ob
    refine ⟨_, rfl, A.p, dx, _, rfl, h1, nfW, A, _, g3, k, al2, "late", rfl, X3.fa, pl_in, fun q1 y1 nq1 m1 => ⟨_, rfl, _, _, rfl, rfl, (show 3 ≤ sizeLine by decide), fun c nc => ⟨(show 1 ≤ sizeLine by decide), fun lc nlc => ?_⟩⟩⟩
    have j1 := Same.new (o := .lst y1) nq1
    have eT : HO.tup [V.int ((all.length : Int) + 1 + 1), V.str "b", V.str "z"] = mT m2 := by rw [← hm2, show (all.length : Int) + 1 + 1 = (al1.length : Int) + 1 by omega]; rfl
    have j2 : Same (upd H3 q1 (.lst y1)) (upd (upd H3 q1 (.lst y1)) c (.tup [V.int ((all.length : Int) + 1 + 1), V.str "b", V.str "z"])) := Same.new nc
    have j3 := Same.new (o := .lst [.ref c]) nlc
    have hc : upd (upd H3 q1 (.lst y1)) c (.tup [V.int ((all.length : Int) + 1 + 1), V.str "b", V.str "z"]) c = some (mT m2) := by rw [upd_same, eT]
    have ok2 : ∀ m ∈ [m2], mOk m := fun m hm => by rw [List.mem_singleton] at hm; rw [hm]; exact X3.ok m2 mem2
    rw [s3] at m1
    have m1' : Ms (upd H3 q1 (.lst y1)) y1 [m2] := m1
    refine ne_ms (j3 _ _ (j2 _ _ upd_same)) ((m1'.same j2).same j3) upd_same (Ms.one (j3 _ _ hc)) ok2 ⟨_, rfl, iteF ?_⟩
    have X4 := ((X3.same j1).same j2).same j3
    generalize upd (upd (upd H3 q1 (.lst y1)) c (.tup [V.int ((all.length : Int) + 1 + 1), V.str "b", V.str "z"])) lc (.lst [.ref c]) = H4 at X4 ⊢
    clear X3 m1 m1' hc j1 j2 j3
    obtain ⟨dx, h1⟩ := X4.fa.ob
    have cn := X4.can (by omega) pl_in (Int.toNat 5)
    refine ⟨_, rfl, A.p, dx, _, rfl, h1, nfC, A, _, g3, k, al2, "late", 5, rfl, X4.fa, pl_in, by decide, cn.1, cn.2.1, cn.2.2.1, cn.2.2.2.1, cn.2.2.2.2, fun e5 lh ys found H5 fa5 c1 c2 c3 c4 eh st5 _ olh elh mlh => ⟨Nat.zero_le _, fun k1 nk1 => ?_⟩⟩
    have hE5 := (X4.en _ pl_in).carry X4.rows c1 c3 c4
    have tk5 : takeS (g3 "late").h ((g3 "late").s.rows.take (Int.toNat 5)) = ⟨[], [m2], []⟩ := by
      rw [h3, s3]
      exact take_early (by omega)
    rw [tk5, h3] at eh
    have f0 : found = [] := by
      have e : ([] : List Msg) = [] ++ found := eh
      rw [List.nil_append] at e; exact e.symm
    subst f0
    have ey : ys = [] := List.eq_nil_of_length_eq_zero mlh.len
    subst ey
    have j6 := Same.new (o := .lst []) nk1
    refine ⟨lh, k1, [], rfl, rfl, SqL.ofL (j6 _ _ elh), SqL.ofL upd_same, _, rfl, iteF ?_⟩
    have X5 := (X4.upd fa5 hE5).same j6
    have h5 : (updE g3 "late" e5 "late").h = ⟨[], [m2], []⟩ := by rw [updE_same, c4, tk5]
    generalize updE g3 "late" e5 = g5 at X5 h5
    generalize upd H5 k1 (.lst []) = H6 at X5 ⊢
    clear X4 fa5 st5 j6 cn hE5
    have lg5 : lagF al2 (g5 "late") = (all.length : Int) + 2 := by
      unfold lagF HS.next
      rw [h5]
      show (al2.length : Int) - ((0 : Nat) + (0 : Nat) + 1) + 1 = _
      omega
    obtain ⟨dx, h1⟩ := X5.fa.ob
    refine ⟨_, rfl, A.p, dx, _, rfl, h1, nfL, A, _, g5, k, al2, "late", rfl, X5.fa, pl_in, _, rfl, _, _, rfl, rfl, rfl, _, rfl, ite2 (fun z => absurd z ?_) (fun _ => ?_)⟩
    · show ¬ ((!decide (V.int (lagF al2 (g5 "late")) = V.int ((all.length : Int) + 1 + 1))) = true)
      rw [lg5, decide_eq_true (congrArg V.int (by omega))]; decide
    refine ⟨_, rfl, A.p, dx, _, rfl, h1, nfH, A, _, g5, k, al2, "late", rfl, X5.fa, pl_in, fun q2 y2 nq2 m2' => ⟨Nat.zero_le _, fun k2 nk2 => ?_⟩⟩
    have ey2 : y2 = [] := List.eq_nil_of_length_eq_zero (by rw [m2'.len, h5]; rfl)
    subst ey2
    have j7 := Same.new (o := .lst []) nq2
    have j8 := Same.new (o := .lst []) nk2
    refine ⟨q2, k2, [], rfl, rfl, SqL.ofL (j8 _ _ upd_same), SqL.ofL upd_same, _, rfl, iteF ?_⟩
    have X6 := (X5.same j7).same j8
    generalize upd (upd H6 q2 (.lst [])) k2 (.lst []) = H7 at X6 ⊢
    clear X5 m2' j7 j8
    obtain ⟨dx, h1⟩ := X6.fa.ob
    have hE6 := X6.en _ pl_in
    have sz6 := hE6.sizes X6.rows
    refine ⟨_, rfl, A.p, dx, _, rfl, h1, nfU, A, _, g5, k, al2, "late", rfl, X6.fa, pl_in, X6.k0, X6.rows, by omega, X6.ok, hE6.hw, sz6.2.2, by omega, fun e7 qq lh7 ys7 found7 H8 fa8 b1 b2 b3 b4 beh st8 oq _ _ eqq el7 ml7 => ?_⟩
    have hC := hE6.hw.catch X6.rows X6.k0 sz6.2.2
    have hE7 := hE6.catch X6.rows X6.k0 b1 b3 b4
    have X7 := X6.upd fa8 hE7
    have h7 : (updE g5 "late" e7 "late").h = catchS k al2 (g5 "late").h := by rw [updE_same, b4]
    have hin : m2 ∈ (catchS k al2 (g5 "late").h).heard := by
      rcases Hw.catch_mem X6.rows hE6.hw m2 (.inr (by rw [h5]; simp)) with z | z
      · exact z
      · rw [hC.2.2.1] at z; exact absurd z List.not_mem_nil
    have hlast : (catchS k al2 (g5 "late").h).heard.drop ((catchS k al2 (g5 "late").h).heard.length - 1) = [m2] := last_of hC.1.rise hin fun x hx => by
      have := hC.1.lt x hx
      rw [hC.2.1] at this
      omega
    generalize updE g5 "late" e7 = g7 at X7 h7
    have lg7 : lagF al2 (g7 "late") = 0 := by
      unfold lagF
      rw [h7, hC.2.1]; omega
    clear X6 fa8 st8
    obtain ⟨dx, h1⟩ := X7.fa.ob
    refine ⟨_, rfl, A.p, dx, _, rfl, h1, nfL, A, _, g7, k, al2, "late", rfl, X7.fa, pl_in, rfl, _, rfl, ite2 (fun z => absurd z ?_) (fun _ => ?_)⟩
    · show ¬ ((!decide (V.int (lagF al2 (g7 "late")) = V.int 0)) = true)
      rw [lg7, decide_eq_true rfl]; decide
    refine ⟨_, rfl, A.p, dx, _, rfl, h1, nfH, A, _, g7, k, al2, "late", rfl, X7.fa, pl_in, fun q3 y3 nq3 m3 => ?_⟩
    have j9 := Same.new (o := .lst y3) nq3
    have eq3 := upd_same (H := H8) (a := q3) (o := .lst y3)
    have X8 := X7.same j9
    rw [h7] at m3
    generalize upd H8 q3 (.lst y3) = H9 at X8 eq3 m3 ⊢
    refine ⟨_, rfl, _, rfl, q3, y3, rfl, SqL.ofL eq3, fun q4 nq4 => ⟨_, rfl, _, _, rfl, rfl, (show 3 ≤ sizeLine by decide), fun c nc => ⟨(show 1 ≤ sizeLine by decide), fun lc nlc => ?_⟩⟩⟩
    have j1 := Same.new (o := .lst (cutV y3 (some (-1)) none)) nq4
    have eT : HO.tup [V.int ((all.length : Int) + 1 + 1), V.str "b", V.str "z"] = mT m2 := by rw [← hm2, show (all.length : Int) + 1 + 1 = (al1.length : Int) + 1 by omega]; rfl
    have j2 : Same (upd H9 q4 (.lst (cutV y3 (some (-1)) none))) (upd (upd H9 q4 (.lst (cutV y3 (some (-1)) none))) c (.tup [V.int ((all.length : Int) + 1 + 1), V.str "b", V.str "z"])) := Same.new nc
    have j3 := Same.new (o := .lst [.ref c]) nlc
    have hc : upd (upd H9 q4 (.lst (cutV y3 (some (-1)) none))) c (.tup [V.int ((all.length : Int) + 1 + 1), V.str "b", V.str "z"]) c = some (mT m2) := by rw [upd_same, eT]
    have mcut : Ms H9 (cutV y3 (some (-1)) none) [m2] := by
      rw [cut_m1, m3.len, ← hlast]
      exact m3.drop _
    refine ne_ms (j3 _ _ (j2 _ _ upd_same)) (((mcut.same j1).same j2).same j3) upd_same (Ms.one (j3 _ _ hc)) ok2 ⟨_, rfl, iteF ?_⟩
    have X9 := ((X8.same j1).same j2).same j3
    generalize upd (upd (upd H9 q4 (.lst (cutV y3 (some (-1)) none))) c (.tup [V.int ((all.length : Int) + 1 + 1), V.str "b", V.str "z"])) lc (.lst [.ref c]) = H10 at X9 ⊢
    clear X8 X7 m3 mcut hc j1 j2 j3
    obtain ⟨dx, h1⟩ := X9.fa.ob
    refine ⟨_, rfl, A.p, dx, _, rfl, h1, nfX, A, _, g7, k, al2, "late", rfl, X9.fa, pl_in, fun H11 fa11 st11 => ?_⟩
    rw [pl_fil] at fa11
    have hEp := X9.en "p" (by simp)
    have X10 : FG CF CT CR CH H11 A ["p"] g7 k al2 := ⟨fa11, fun n hn => by rw [List.mem_singleton] at hn; rw [hn]; exact hEp, X9.rows, X9.ok, X9.k0, by decide⟩
    obtain ⟨dx, h1⟩ := X10.fa.ob
    refine ⟨_, rfl, A.p, dx, _, rfl, h1, nfY, A, _, g7, k, al2, "late", 1, "new", rfl, X10.fa, pl_ne, by decide, fun e12 H12 fa12 a1 a2 a3 a4 st12 => ?_⟩
    have hg12 : updE g7 "late" e12 "late" = e12 := updE_same
    generalize updE g7 "late" e12 = g12 at fa12 hg12
    clear X9 X10 fa11 st11
    obtain ⟨dx, h1⟩ := fa12.ob
    refine ⟨_, rfl, A.p, dx, _, rfl, h1, nfH, A, _, g12, k, al2, "late", rfl, fa12, pl_in, fun q5 y5 nq5 m5 => ⟨Nat.zero_le _, fun k5 nk5 => ?_⟩⟩
    have ey5 : y5 = [] := List.eq_nil_of_length_eq_zero (by rw [m5.len, hg12, a4]; rfl)
    subst ey5
    have j4 := Same.new (o := .lst []) nq5
    have j5 := Same.new (o := .lst []) nk5
    refine ⟨q5, k5, [], rfl, rfl, SqL.ofL (j5 _ _ upd_same), SqL.ofL upd_same, _, rfl, iteF ?_⟩
    have fa13 := (fa12.same j4).same j5
    generalize upd (upd H12 q5 (.lst [])) k5 (.lst []) = H13 at fa13 ⊢
    clear fa12 m5 st12 j4 j5
    obtain ⟨dx, h1⟩ := fa13.ob
    refine ⟨_, rfl, A.p, dx, _, rfl, h1, nfO, A, _, g12, k, al2, "late", rfl, fa13, pl_in, fun q6 nq6 => ⟨Nat.zero_le _, fun k6 nk6 => ?_⟩⟩
    have hl12 : ((g12 "late").h.lost.map V.int) = [] := by rw [hg12, a4]; rfl
    rw [hl12] at nk6 ⊢
    have j4 := Same.new (o := .lst []) nq6
    have j5 := Same.new (o := .lst []) nk6
    refine ⟨q6, k6, [], rfl, rfl, SqL.ofL (j5 _ _ upd_same), SqL.ofL upd_same, _, rfl, iteF ?_⟩
    have fa14 := (fa13.same j4).same j5
    generalize upd (upd H13 q6 (.lst [])) k6 (.lst []) = H14 at fa14 ⊢
    obtain ⟨dx, h1⟩ := fa14.ob
    refine ⟨_, rfl, A.p, dx, _, rfl, h1, nfW, A, _, g12, k, al2, "late", rfl, fa14, pl_in, fun q7 y7 nq7 m7 => ⟨Nat.zero_le _, fun k7 nk7 => ?_⟩⟩
    have ey7 : y7 = [] := List.eq_nil_of_length_eq_zero (by rw [m7.len, hg12, a3]; rfl)
    subst ey7
    have j6 := Same.new (o := .lst []) nq7
    have j7 := Same.new (o := .lst []) nk7
    refine ⟨q7, k7, [], rfl, rfl, SqL.ofL (j7 _ _ upd_same), SqL.ofL upd_same, _, rfl, iteT ?_⟩
    have fa15 := (fa14.same j6).same j7
    generalize upd (upd H14 q7 (.lst [])) k7 (.lst []) = H15 at fa15 ⊢
    obtain ⟨dx, h1⟩ := fa15.ob
    refine ⟨_, rfl, A.p, dx, _, rfl, h1, nfN, A, _, g12, k, al2, rfl, fa15, by decide, fun q8 ts nq8 hts => ⟨(show 2 ≤ sizeLine by decide), fun q9 nq9 => ?_⟩⟩
    have ets : ts = (["late", "p"] : List Str) := hts.eq pl_perm pl_rise
    subst ets
    have j8 := Same.new (o := .lst ((["late", "p"] : List Str).map V.str)) nq9
    exact eq_pl (j8 _ _ upd_same) upd_same (q _)

end
end K42

namespace K42
open PySem L2
def spLaw (K : PySem.W.Frag) : Sp := fun vs H Q _ => ∃ (a : Addr) (ns : List Int), vs = [.ref a] ∧ SqL K H a (ns.map V.int) ∧ ns.length ≤ 63 ∧ ∀ H', Q (.bl true) H'
def LP : List Str := ["p"]
def LQ : List Str := ["p", "q"]
theorem pP : ("p" : Str) ∈ LP := by unfold LP; simp
theorem pQ : ("p" : Str) ∈ LQ := by unfold LQ; simp
theorem qQ : ("q" : Str) ∈ LQ := by unfold LQ; simp
theorem pq_ne : ("p" : Str) ≠ "q" := by decide +kernel
/-- alike -/
structure PE2 (e e' : FE) : Prop where
  s : e.s = e'.s
  h : e.h = e'.h
  sz : e.sz = e'.sz
  way : e.way = e'.way
theorem PE2.put {e e' f f' : FE} {m : Msg} (h : PE2 e e') (p : FPut m e f) (p' : FPut m e' f') : PE2 f f' :=
  ⟨by rw [p.s, p'.s, h.s, h.sz, h.way], by rw [p.h, p'.h, h.h], by rw [p.sz, p'.sz, h.sz], by rw [p.way, p'.way, h.way]⟩
structure K2 (H0 H : Hp) (CF CT CR CH : Addr) (A B : FA) (gA gB : Str → FE) (k : Int) (aA aB : List Msg) : Prop where
  x : FG CF CT CR CH H A LQ gA k aA
  y : FG CF CT CR CH H B LP gB k aB
  ap : ∀ c ∈ B.fp LP gB, c ∉ A.fp LQ gA
  w : Stp [] H0 (A.fp LQ gA ++ B.fp LP gB) H
section
variable {H0 H H' : Hp} {CF CT CR CH : Addr} {A B : FA} {gA gB g' : Str → FE} {k : Int} {aA aB a' : List Msg}
theorem K2.same (h : K2 H0 H CF CT CR CH A B gA gB k aA aB) (s : Same H H') : K2 H0 H' CF CT CR CH A B gA gB k aA aB := ⟨h.x.same s, h.y.same s, h.ap, h.w.trans (s.step _)⟩
theorem K2.stepA (h : K2 H0 H CF CT CR CH A B gA gB k aA aB) (x : FG CF CT CR CH H' A LQ g' k a') (st : Stp (A.fp LQ gA) H (A.fp LQ g') H') : K2 H0 H' CF CT CR CH A B g' gB k a' aB :=
  ⟨x, h.y.step st h.ap, h.y.fa.out st h.ap, h.w.trans st.fr⟩
theorem K2.stepB (h : K2 H0 H CF CT CR CH A B gA gB k aA aB) (y : FG CF CT CR CH H' B LP g' k a') (st : Stp (B.fp LP gB) H (B.fp LP g') H') : K2 H0 H' CF CT CR CH A B gA g' k aA a' :=
  ⟨h.x.step st (fun c hc z => h.ap c z hc), y, fun c hc z => h.x.fa.out st (fun c hc z => h.ap c z hc) c z hc, h.w.trans st.fl⟩
end
def cD (ms : List Msg) (c : Int) : PyData := .tuple [.list (ms.map mD), .int c]
theorem cD_shaped {ms : List Msg} {c : Int} (ok : ∀ m ∈ ms, mOk m) : SeqAt.shaped (cD ms c) = true ∧ PyData.canLay0 (cD ms c) = true := by
  have h1 := depth_ms ms
  have h2 : PyData.depth (cD ms c) ≤ 64 := by simp only [cD, PyData.depth, PyData.depthAll]; omega
  have h3 : PyData.canLay0 (cD ms c) = true := by simp only [cD, PyData.canLay0, PyData.canLayAll0, lay_ms ok, Bool.and_true]
  refine ⟨?_, h3⟩
  show (PyData.canLay0 (cD ms c) && decide (PyData.depth (cD ms c) ≤ 64)) = true
  rw [Bool.and_eq_true]
  exact ⟨h3, decide_eq_true h2⟩
theorem x8 {k : Int} (h0 : 0 ≤ k) (h1 : k < 8) : MulOk "x" k ∧ PyData.strOk (PySem.Txt.mul "x" k) = true := by
  have hc : k = 0 ∨ k = 1 ∨ k = 2 ∨ k = 3 ∨ k = 4 ∨ k = 5 ∨ k = 6 ∨ k = 7 := by omega
  rcases hc with rfl | rfl | rfl | rfl | rfl | rfl | rfl | rfl <;> exact ⟨⟨by decide +kernel, by decide +kernel, by decide +kernel⟩, by decide +kernel⟩
theorem a_ok : PyData.strOk "a" = true := by decide +kernel
abbrev s_law : Stmt := top 26
abbrev N_law : List Str := ["_law_script", "_law_keep", "_law_many", "_law_one", "_law_size", "_law_way", "_law_k", "_law_here", "_law_deed", "_law_some"]
theorem sc_law : FnScope N_law ["_law_script"] (defScope s_law) := ⟨rfl, rfl, rfl, by decide +kernel, rfl, by decide +kernel, by decide +kernel⟩
section
variable {P : Program} {w : World} {K : PySem.W.Frag} {mg : Str → Option Value} {base : Heap}
theorem ok_law {f CF CT CR CH : Addr} {fd : FuncData} (F : Fun K "law" "law" s_law f fd) (T : Txt mg) (TC : TxtF K mg CF CT CR CH) (c_l_drawn : Callee P w K mg base 2 "_law_drawn" ["_law_script", "_law_k", "_law_many"] (spDrawn K)) (c_l_is_late : Callee P w K mg base 6 "_law_is_late" ["_law_fan"] (spLate CF CT CR CH))
    (i_Fan : CalleeI P w K mg base 3 CF ["self", "keep"] (spFInit CF CT CR CH)) (m_lay : CalleeM P w K mg base 3 CF "lay" ["self", "name", "size", "way"] (spFLay CF CT CR CH)) (m_Fan_tell : CalleeM P w K mg base 5 CF "tell" ["self", "topic", "text"] (spFTell CF CT CR CH)) (m_carry : CalleeM P w K mg base 4 CF "carry" ["self", "name", "many"] (spFCarry CF CT CR CH)) (m_catch_up : CalleeM P w K mg base 5 CF "catch_up" ["self", "name"] (spFCatch CF CT CR CH))
    (m_Fan_heard : CalleeM P w K mg base 3 CF "heard" ["self", "name"] (spFHeard CF CT CR CH)) (m_Fan_lost : CalleeM P w K mg base 3 CF "lost" ["self", "name"] (spFLost CF CT CR CH)) (m_Fan_waiting : CalleeM P w K mg base 3 CF "waiting" ["self", "name"] (spFWait CF CT CR CH)) :
    FnOk P w K mg base CX0 7 f fd ["_law_script"] (spLaw K) := by
  refine F.ok sc_law (fun vs H Q E h => ?_) (fun cdv A0 outer s0 H vs Q E hr h => ?_)
  · obtain ⟨a, ns, rfl, _⟩ := h; rfl
  · obtain ⟨a, ns, rfl, hS, hlen, q⟩ := h
    refine ⟨_, (pss_cons (ps_set (i := 1) sc_law.nd rfl (Or.inl rfl) (as_fn c_l_drawn (hr.mono (by decide)) (at_cons (pv 0) (as_cons pe_int (as_cons pe_int as_nil)))))
      (pss_cons (ps_set (i := 2) sc_law.nd rfl (Or.inl rfl) (as_make i_Fan (hr.mono (by decide)) TC.mg_Fan (at_cons (pv 1) as_nil)))
      (pss_cons (ps_set (i := 3) sc_law.nd rfl (Or.inl rfl) (as_make i_Fan (hr.mono (by decide)) TC.mg_Fan (at_cons (pv 1) as_nil)))
      (pss_cons (ps_set (i := 4) sc_law.nd rfl (Or.inl rfl) (pe_op op_add pe_int (as_fn c_l_drawn (hr.mono (by decide)) (at_cons (pv 0) (as_cons pe_int (as_cons pe_int as_nil))))))
      (pss_cons (ps_set (i := 5) sc_law.nd rfl (Or.inl rfl) (pe_ix (k_ix_list K) (as_lst (as_cons pe_str (as_cons pe_str (as_cons pe_str as_nil)))) (as_fn c_l_drawn (hr.mono (by decide)) (at_cons (pv 0) (as_cons pe_int (as_cons pe_int as_nil)))) (fun _ _ => rfl)))
      (pss_cons (ps_expr (as_meth m_lay TC.cl_Fan (hr.mono (by decide)) (pv 2) (at_cons pe_str (as_cons (pv 4) (as_cons (pv 5) as_nil)))))
      (pss_cons (ps_expr (as_meth m_lay TC.cl_Fan (hr.mono (by decide)) (pv 3) (at_cons pe_str (as_cons (pv 4) (as_cons (pv 5) as_nil)))))
      (pss_cons (ps_expr (as_meth m_lay TC.cl_Fan (hr.mono (by decide)) (pv 2) (at_cons pe_str (as_cons (pe_op op_add pe_int (as_fn c_l_drawn (hr.mono (by decide)) (at_cons (pv 0) (as_cons pe_int (as_cons pe_int as_nil))))) (as_cons pe_str as_nil)))))
      (pss_cons (ps_for PassesOwn.never rfl (pi_range1 (by rfl) T.b_range (pa_cons (as_callB (call_max2 rfl) (by rfl) T.b_max PyProof.Rows.boot_max (at_cons pe_int (as_cons (as_callB (call_min2 rfl) (by rfl) T.b_min PyProof.Rows.boot_min (at_cons pe_int (as_cons (as_callB (k_len_seq K) (by rfl) T.b_len PySem.boot_len (at_cons (pv 0) as_nil)) as_nil))) as_nil))) pa_nil)) (pg_name (i := 6) sc_law.nd rfl (Or.inl rfl)) (pss_cons (ps_set (i := 7) sc_law.nd rfl (Or.inl rfl) (pe_op op_add pe_int (pe_op op_mul pe_int (pv 6))))
      (pss_cons (ps_set (i := 8) sc_law.nd rfl (Or.inl rfl) (as_fn c_l_drawn (hr.mono (by decide)) (at_cons (pv 0) (as_cons (pv 7) (as_cons pe_int as_nil)))))
      (pss_cut (ps_if (pt_cmpR op_lt (pv 8) pe_int (nomark _)) (pss_one (ps_if (pt_cmpR op_ne (as_meth m_Fan_tell TC.cl_Fan (hr.mono (by decide)) (pv 2) (at_cons pe_str (as_cons (pe_op op_mulS pe_str (pe_op op_mod (pv 6) pe_int)) as_nil))) (as_meth m_Fan_tell TC.cl_Fan (hr.mono (by decide)) (pv 3) (at_cons pe_str (as_cons (pe_op op_mulS pe_str (pe_op op_mod (pv 6) pe_int)) as_nil))) (nomark _)) (pss_one (ps_ret pe_bl)) pss_nil)) (pss_one (ps_if (pt_cmpR op_eq (pv 8) pe_int (nomark _)) (pss_cons (ps_set (i := 9) sc_law.nd rfl (Or.inl rfl) (as_fn c_l_drawn (hr.mono (by decide)) (at_cons (pv 0) (as_cons (pe_op op_add (pv 7) pe_int) (as_cons pe_int as_nil)))))
      (pss_one (ps_if (pt_cmpR (op_neD hr.units) (as_meth m_carry TC.cl_Fan (hr.mono (by decide)) (pv 2) (at_cons pe_str (as_cons (pv 9) as_nil))) (as_meth m_carry TC.cl_Fan (hr.mono (by decide)) (pv 3) (at_cons pe_str (as_cons (pv 9) as_nil))) (nomark _)) (pss_one (ps_ret pe_bl)) pss_nil))) (pss_one (ps_if (pt_cmpR op_eq (pv 8) pe_int (nomark _)) (pss_one (ps_if (pt_cmpR (op_neD hr.units) (as_meth m_catch_up TC.cl_Fan (hr.mono (by decide)) (pv 2) (at_cons pe_str as_nil)) (as_meth m_catch_up TC.cl_Fan (hr.mono (by decide)) (pv 3) (at_cons pe_str as_nil)) (nomark _)) (pss_one (ps_ret pe_bl)) pss_nil)) (pss_cons (ps_expr (as_meth m_carry TC.cl_Fan (hr.mono (by decide)) (pv 2) (at_cons pe_str (as_cons (as_fn c_l_drawn (hr.mono (by decide)) (at_cons (pv 0) (as_cons (pe_op op_add (pv 7) pe_int) (as_cons pe_int as_nil)))) as_nil))))
      (pss_one (ps_expr (as_meth m_catch_up TC.cl_Fan (hr.mono (by decide)) (pv 2) (at_cons pe_str as_nil))))))))))
      (pss_cons (ps_if (PW.pt (pw_or (pt_cmpR (op_neD hr.units) (as_meth m_Fan_heard TC.cl_Fan (hr.mono (by decide)) (pv 2) (at_cons pe_str as_nil)) (as_meth m_Fan_heard TC.cl_Fan (hr.mono (by decide)) (pv 3) (at_cons pe_str as_nil)) (nomark _)) (pw_or1 (pt_cmpR (op_neD hr.units) (as_meth m_Fan_lost TC.cl_Fan (hr.mono (by decide)) (pv 2) (at_cons pe_str as_nil)) (as_meth m_Fan_lost TC.cl_Fan (hr.mono (by decide)) (pv 3) (at_cons pe_str as_nil)) (nomark _))))) (pss_one (ps_ret pe_bl)) pss_nil)
      (pss_one (ps_if (pt_cmpR (op_neD hr.units) (as_meth m_Fan_waiting TC.cl_Fan (hr.mono (by decide)) (pv 2) (at_cons pe_str as_nil)) (as_meth m_Fan_waiting TC.cl_Fan (hr.mono (by decide)) (pv 3) (at_cons pe_str as_nil)) (nomark _)) (pss_one (ps_ret pe_bl)) pss_nil)))))))
      (pss_one (ps_ret (as_fn c_l_is_late (hr.mono (by decide)) (at_cons (pv 3) as_nil))))))))))))), ?_⟩
    refine ⟨_, rfl, a, ns, 0, 6, rfl, hS, hlen, by decide, by decide, fun H1 s1 => ?_⟩
    have k0 := drawn_nn ns 0 (m := 6) (by decide)
    generalize drawnF ns 0 6 = k at k0 ⊢
    refine ⟨_, rfl, ?_⟩
    intro p1 dx1 np1 nd1 nx1
    refine ⟨p1, dx1, k, rfl, upd_same, fun A H2 ep hA0 st2 => ⟨rfl, ?_⟩⟩
    subst ep
    have v2 : Stp [] H A.own H2 := (s1.step []).trans ((Stp.obj (o := .own A.p) (o' := .ins CF dx1 []) np1 nd1).trans st2)
    refine ⟨_, rfl, ?_⟩
    intro p2 dx2 np2 nd2 nx2
    refine ⟨p2, dx2, k, rfl, upd_same, fun B H3 ep hB0 st3 => ⟨rfl, ?_⟩⟩
    subst ep
    have v3 : Stp [] H2 B.own H3 := (Stp.obj (o := .own B.p) (o' := .ins CF dx2 []) np2 nd2).trans st3
    obtain ⟨g0, hg0⟩ : ∃ g : Str → FE, True := ⟨fun _ => ⟨0, 0, 0, 0, "", ⟨[], [], false⟩, ⟨0, 0, 0, 0, 0⟩, hs0⟩, trivial⟩
    have hA3 := (hA0 g0).step v3 fun _ _ => List.not_mem_nil
    have hB3 := hB0 g0
    have fp0 : ∀ (X : FA) c, c ∈ X.fp [] g0 ↔ c ∈ X.own := fun X c => by unfold FA.fp fpF; simp
    have D0 : ∀ c ∈ B.fp [] g0, c ∉ A.fp [] g0 := fun c hc z => (hA0 g0).out v3 (fun _ _ => List.not_mem_nil) c z ((fp0 B c).mp hc)
    have w3 : Stp [] H (A.fp [] g0 ++ B.fp [] g0) H3 := v2.trans (v3.weak (fun _ z => absurd z List.not_mem_nil) fun c hc => (List.mem_append.mp hc).elim (fun z => .inr ((fp0 A c).mp z)) fun z => .inl ((fp0 B c).mp z))
    clear v2 v3 st2 st3 hA0 hB0
    refine ⟨_, rfl, a, ns, 1, 4, rfl, w3.same.seq hS, hlen, by decide, by decide, fun H4 s4 => ?_⟩
    have z0 := drawn_nn ns 1 (m := 4) (by decide)
    have z9 := drawn_lt ns 1 (m := 4) (by decide)
    generalize drawnF ns 1 4 = sz0 at z0 z9 ⊢
    refine ⟨_, _, rfl, rfl, (show 3 ≤ sizeLine by decide), fun lw nlw => ?_⟩
    have g4 := s4.trans (Same.new (o := .lst [V.str "old", V.str "new", V.str "cut"]) nlw)
    refine ⟨_, rfl, a, ns, 2, 3, rfl, (w3.trans (g4.step _)).same.seq hS, hlen, by decide, by decide, fun H5 s5 => ?_⟩
    have y0 := drawn_nn ns 2 (m := 3) (by decide)
    have y9 := drawn_lt ns 2 (m := 3) (by decide)
    generalize drawnF ns 2 3 = wd at y0 y9 ⊢
    obtain ⟨way, hway⟩ : ∃ way, atI [V.str "old", V.str "new", V.str "cut"] wd = some (V.str way) := by
      have hc : wd = 0 ∨ wd = 1 ∨ wd = 2 := by omega
      rcases hc with rfl | rfl | rfl
      · exact ⟨_, rfl⟩
      · exact ⟨_, rfl⟩
      · exact ⟨_, rfl⟩
    refine ⟨lw, _, wd, .str way, rfl, rfl, SqL.ofL (s5 _ _ upd_same), hway, ?_⟩
    have g5 := g4.trans s5
    have hA5 := hA3.same g5
    have hB5 := hB3.same g5
    have w5 := w3.trans (g5.step _)
    clear hA3 hB3 w3 g4
    obtain ⟨dx, h1⟩ := hA5.ob
    refine ⟨_, rfl, A.p, dx, _, rfl, h1, nfY, _, rfl, _, rfl, A, [], g0, k, [], "p", 1 + sz0, way, rfl, hA5, List.not_mem_nil, by decide, fun e1 H6 hA6 a1 a2 a3 a4 st6 => ?_⟩
    have hB6 := hB5.step st6 D0
    have D1 := hB5.out st6 D0
    have w6 := w5.trans st6.fr
    obtain ⟨dx, h1⟩ := hB6.ob
    refine ⟨_, rfl, B.p, dx, _, rfl, h1, nfY, _, rfl, _, rfl, B, [], g0, k, [], "p", 1 + sz0, way, rfl, hB6, List.not_mem_nil, by decide, fun e2 H7 hB7 b1 b2 b3 b4 st7 => ?_⟩
    have hA7 := hA6.step st7 (fun c hc z => D1 c z hc)
    have D2 : ∀ c ∈ B.fp ([] ++ [("p" : Str)]) (updE g0 "p" e2), c ∉ A.fp ([] ++ [("p" : Str)]) (updE g0 "p" e1) := fun c hc z => hA6.out st7 (fun c hc z => D1 c z hc) c z hc
    have w7 := w6.trans st7.fl
    obtain ⟨dx, h1⟩ := hA7.ob
    refine ⟨_, rfl, A.p, dx, _, rfl, h1, nfY, _, rfl, a, ns, 3, 4, rfl, w7.same.seq hS, hlen, by decide, by decide, fun H8 s8 => ?_⟩
    have x0 := drawn_nn ns 3 (m := 4) (by decide)
    generalize drawnF ns 3 4 = sq at x0 ⊢
    refine ⟨_, _, rfl, rfl, A, _, _, k, [], "q", 1 + sq, "cut", rfl, hA7.same s8, by decide +kernel, by decide, fun e3 H9 hA9 c1 c2 c3 c4 st9 => ?_⟩
    have hB8 := hB7.same s8
    have X0 : K2 H H9 CF CT CR CH A B (updE (updE g0 "p" e1) "q" e3) (updE g0 "p" e2) k [] [] := by
      refine ⟨⟨hA9, fun n hn => ?_, Rows.nil, fun m h => absurd h List.not_mem_nil, k0, by decide⟩, ⟨hB8.step st9 D2, fun n hn => ?_, Rows.nil, fun m h => absurd h List.not_mem_nil, k0, by decide⟩, hB8.out st9 D2, (w7.trans (s8.step _)).trans st9.fr⟩
      · simp only [LQ, List.mem_cons, List.not_mem_nil, or_false] at hn
        rcases hn with rfl | rfl
        · rw [updE_ne pq_ne, updE_same]; exact FO.new (by omega) a3 a4
        · rw [updE_same]; exact FO.new (by omega) c3 c4
      · simp only [LP, List.mem_cons, List.not_mem_nil, or_false] at hn
        rw [hn, updE_same]; exact FO.new (by omega) b3 b4
    have E0' : PE2 (updE (updE g0 "p" e1) "q" e3 "p") (updE g0 "p" e2 "p") := by
      rw [updE_ne pq_ne, updE_same, updE_same]
      exact ⟨by rw [a3, b3], by rw [a4, b4], by rw [a1, b1], by rw [a2, b2]⟩
    generalize updE (updE g0 "p" e1) "q" e3 = gA at X0 E0'
    generalize updE g0 "p" e2 = gB at X0 E0'
    clear hA9 hB8 st9 w7 D2 hA7 hB7 st7 D1 hB6 hA6 st6 w6 D0 w5 hA5 hB5 fp0
    have hm : ∀ x : Int, (if (if x < 10 then x else 10) > 1 then (if x < 10 then x else 10) else 1) ≤ 10 ∧ 1 ≤ (if (if x < 10 then x else 10) > 1 then (if x < 10 then x else 10) else 1) := fun x => by split <;> split <;> omega
    have hm' := hm ((ns.map V.int).length : Int)
    refine ⟨_, rfl, a, _, rfl, .inl (X0.w.same.seq hS), _, _, rfl, _, _, rfl, _, rfl, by omega, by omega, ?_⟩
    generalize (if (if ((ns.map V.int).length : Int) < 10 then ((ns.map V.int).length : Int) else 10) > 1 then (if ((ns.map V.int).length : Int) < 10 then ((ns.map V.int).length : Int) else 10) else 1) = nn at hm' ⊢
    refine for_range (lo := 0) (n := nn.toNat) (fun i σ H' => ∃ o6 o7 o8 o9 gA gB all, σ = [some (.ref a), some (.int k), some (.ref A.p), some (.ref B.p), some (.int (1 + sz0)), some (.str way), o6, o7, o8, o9] ∧ K2 H H' CF CT CR CH A B gA gB k all all ∧ PE2 (gA "p") (gB "p") ∧ all.length ≤ i)
      ⟨_, _, _, _, gA, gB, [], rfl, X0, E0', Nat.le_refl _⟩ ?_ ?_
    · rintro i σ H' hi ⟨o6, o7, o8, o9, gA, gB, all, rfl, X, hE, hli⟩
      have l20 : all.length ≤ 20 := by omega
      refine rd_name ⟨_, rfl, _, _, rfl, rfl, .inl ⟨by decide, by decide⟩, _, _, rfl, rfl, ?_⟩
      refine ⟨_, rfl, _, rfl, a, ns, _, 6, rfl, X.w.same.seq hS, hlen, by omega, by decide, fun H1 s1 => ?_⟩
      have X1 := X.same s1
      clear X
      refine ⟨fun σ H' => ∃ o7 o8 o9 gA gB all, σ = [some (.ref a), some (.int k), some (.ref A.p), some (.ref B.p), some (.int (1 + sz0)), some (.str way), some (.int (0 + (i : Int))), o7, o8, o9] ∧ K2 H H' CF CT CR CH A B gA gB k all all ∧ PE2 (gA "p") (gB "p") ∧ all.length ≤ i + 1, ?_, ?_⟩
      case refine_2 =>
        refine ⟨_, rfl, _, _, rfl, rfl, _, rfl, ite2 (fun _ => ?_) (fun _ => ?_)⟩
        · -- tell
          have r0 : 0 ≤ (0 + (i : Int)) % 8 := Int.emod_nonneg _ (by decide)
          have r1 : (0 + (i : Int)) % 8 < 8 := Int.emod_lt_of_pos _ (by decide)
          have ⟨mo, xo⟩ := x8 r0 r1
          obtain ⟨dx, h1⟩ := X1.x.fa.ob
          refine ⟨_, rfl, A.p, dx, _, rfl, h1, nfT, _, rfl, _, _, rfl, rfl, (show (0 : Int) < 8 by decide), _, _, rfl, rfl, mo, A, LQ, gA, k, all, "a", _, rfl, X1.x.fa, by omega, k0, by decide, X1.x.room l20, fun gA' H2 faA hpA stA => ?_⟩
          have X2 := X1.stepA (X1.x.tell a_ok xo faA hpA) stA
          obtain ⟨dx, h1⟩ := X2.y.fa.ob
          refine ⟨_, rfl, B.p, dx, _, rfl, h1, nfT, _, rfl, _, _, rfl, rfl, (show (0 : Int) < 8 by decide), _, _, rfl, rfl, mo, B, LP, gB, k, all, "a", _, rfl, X2.y.fa, by omega, k0, by decide, X2.y.room l20, fun gB' H3 faB hpB stB => ⟨rfl, _, rfl, ite2 (fun z => absurd z ?_) (fun _ => ?_)⟩⟩
          · show ¬ ((!decide (V.int ((all.length : Int) + 1) = V.int ((all.length : Int) + 1))) = true)
            rw [decide_eq_true rfl]; decide
          have X3 := X2.stepB (X2.y.tell a_ok xo faB hpB) stB
          exact ⟨_, _, _, gA', gB', _, rfl, X3, hE.put (hpA "p" pQ) (hpB "p" pP), by rw [List.length_append]; show _ + 1 ≤ _; omega⟩
        refine ⟨_, rfl, rfl, _, rfl, ite2 (fun _ => ?_) (fun _ => ?_)⟩
        · -- carry
          refine ⟨_, rfl, _, rfl, _, _, rfl, rfl, a, ns, _, 4, rfl, X1.w.same.seq hS, hlen, by omega, by decide, fun H2 s2 => ?_⟩
          have c0 := drawn_nn ns (10 + 5 * (0 + (i : Int)) + 1) (m := 4) (by decide)
          generalize drawnF ns (10 + 5 * (0 + (i : Int)) + 1) 4 = c at c0 ⊢
          have X2 := X1.same s2
          clear X1
          obtain ⟨dx, h1⟩ := X2.x.fa.ob
          have cn := X2.x.can l20 pQ c.toNat
          refine ⟨_, rfl, A.p, dx, _, rfl, h1, nfC, _, rfl, A, LQ, gA, k, all, "p", c, rfl, X2.x.fa, pQ, c0, cn.1, cn.2.1, cn.2.2.1, cn.2.2.2.1, cn.2.2.2.2, fun e1 lh1 ys1 fo1 H3 fa3 a1 a2 a3 a4 eh1 st3 fr1 ol1 el1 ml1 => ?_⟩
          have X3 := X2.stepA (X2.x.upd fa3 ((X2.x.en _ pQ).carry X2.x.rows a1 a3 a4)) st3
          have nb : lh1 ∉ B.fp LP gB := fr1.elim (fun z y => X2.ap _ y z) (fun z => X2.y.fa.free z)
          obtain ⟨dx, h1⟩ := X3.y.fa.ob
          have cn := X3.y.can l20 pP c.toNat
          refine ⟨_, rfl, B.p, dx, _, rfl, h1, nfC, _, rfl, B, LP, gB, k, all, "p", c, rfl, X3.y.fa, pP, c0, cn.1, cn.2.1, cn.2.2.1, cn.2.2.2.1, cn.2.2.2.2, fun e2 lh2 ys2 fo2 H4 fa4 b1 b2 b3 b4 eh2 st4 fr2 ol2 el2 ml2 => ?_⟩
          have hE2 := (X3.y.en _ pP).carry X3.y.rows b1 b3 b4
          have X4 := X3.stepB (X3.y.upd fa4 hE2) st4
          rw [hE.h, hE.s] at eh1
          have ef : fo1 = fo2 := List.append_cancel_left (eh1.symm.trans eh2)
          subst ef
          have okf : ∀ m ∈ fo1, mOk m := fun m hm => X3.y.ok m (hE2.hw.sub m (.inl (by rw [b4, eh2]; exact List.mem_append_right _ hm)))
          refine ne_ms (st4.keep el1 nb) (ml1.step st4) el2 ml2 okf ⟨_, rfl, iteF ⟨_, _, _, _, _, all, rfl, X4, ?_, by omega⟩⟩
          rw [updE_same, updE_same]
          exact ⟨by rw [a3, b3, hE.s], by rw [a4, b4, hE.s, hE.h], by rw [a1, b1, hE.sz], by rw [a2, b2, hE.way]⟩
        refine ⟨_, rfl, rfl, _, rfl, ite2 (fun _ => ?_) (fun _ => ?_)⟩
        · -- catch_up
          obtain ⟨dx, h1⟩ := X1.x.fa.ob
          have hO := X1.x.en _ pQ
          have sz := hO.sizes X1.x.rows
          refine ⟨_, rfl, A.p, dx, _, rfl, h1, nfU, A, LQ, gA, k, all, "p", rfl, X1.x.fa, pQ, k0, X1.x.rows, by omega, X1.x.ok, hO.hw, sz.2.2, by omega, fun e1 q1 lh1 ys1 fo1 H2 fa2 a1 a2 a3 a4 eh1 st2 oq1 fr1 ol1 eq1 el1 ml1 => ?_⟩
          have X2 := X1.stepA (X1.x.upd fa2 (hO.catch X1.x.rows k0 a1 a3 a4)) st2
          have nb : lh1 ∉ B.fp LP gB := fr1.elim (fun z y => X1.ap _ y z) (fun z => X1.y.fa.free z)
          obtain ⟨dx, h1⟩ := X2.y.fa.ob
          have hO2 := X2.y.en _ pP
          have sz := hO2.sizes X2.y.rows
          refine ⟨_, rfl, B.p, dx, _, rfl, h1, nfU, B, LP, gB, k, all, "p", rfl, X2.y.fa, pP, k0, X2.y.rows, by omega, X2.y.ok, hO2.hw, sz.2.2, by omega, fun e2 q2 lh2 ys2 fo2 H3 fa3 b1 b2 b3 b4 eh2 st3 oq2 fr2 ol2 eq2 el2 ml2 => ?_⟩
          have hE2 := hO2.catch X2.y.rows k0 b1 b3 b4
          have X3 := X2.stepB (X2.y.upd fa3 hE2) st3
          rw [hE.h] at eh1 eq1
          have ef : fo1 = fo2 := List.append_cancel_left (eh1.symm.trans eh2)
          subst ef
          have okf : ∀ m ∈ fo1, mOk m := fun m hm => X2.y.ok m (hE2.hw.sub m (.inl (by rw [b4, eh2]; exact List.mem_append_right _ hm)))
          have sh := cD_shaped (c := (((catchS k all (gB "p").h).lost.length : Int) - ((gB "p").h.lost.length : Int))) okf
          refine ⟨_, _, has_tup (st3.tup _ _ eq1) (hasL_cons (has_lst (st3.keep el1 nb) (ml1.step st3)) (hasL_cons (has_int _) hasL_nil)), has_tup eq2 (hasL_cons (has_lst el2 ml2) (hasL_cons (has_int _) hasL_nil)), sh.1, sh.1, ?_⟩
          have ev : PyData.eqv (cD fo1 (((catchS k all (gB "p").h).lost.length : Int) - ((gB "p").h.lost.length : Int))) (cD fo1 (((catchS k all (gB "p").h).lost.length : Int) - ((gB "p").h.lost.length : Int))) = true := SeqAt.eqv_refl _ sh.2
          unfold cD at ev
          rw [ev]
          refine ⟨_, rfl, iteF ⟨_, _, _, _, _, all, rfl, X3, ?_, by omega⟩⟩
          rw [updE_same, updE_same]
          exact ⟨by rw [a3, b3, hE.s], by rw [a4, b4, hE.h], by rw [a1, b1, hE.sz], by rw [a2, b2, hE.way]⟩
        · -- q
          obtain ⟨dx, h1⟩ := X1.x.fa.ob
          refine ⟨_, rfl, A.p, dx, _, rfl, h1, nfC, _, rfl, _, rfl, _, _, rfl, rfl, a, ns, _, 4, rfl, X1.w.same.seq hS, hlen, by omega, by decide, fun H2 s2 => ?_⟩
          have c0 := drawn_nn ns (10 + 5 * (0 + (i : Int)) + 1) (m := 4) (by decide)
          generalize drawnF ns (10 + 5 * (0 + (i : Int)) + 1) 4 = c at c0 ⊢
          have X2 := X1.same s2
          clear X1
          have cn := X2.x.can l20 qQ c.toNat
          refine ⟨A, LQ, gA, k, all, "q", c, rfl, X2.x.fa, qQ, c0, cn.1, cn.2.1, cn.2.2.1, cn.2.2.2.1, cn.2.2.2.2, fun e1 lh1 ys1 fo1 H3 fa3 a1 a2 a3 a4 eh1 st3 fr1 ol1 el1 ml1 => ?_⟩
          have X3 := X2.stepA (X2.x.upd fa3 ((X2.x.en _ qQ).carry X2.x.rows a1 a3 a4)) st3
          have ep3 : updE gA "q" e1 "p" = gA "p" := updE_ne pq_ne
          generalize updE gA "q" e1 = g3 at X3 ep3
          obtain ⟨dx, h1⟩ := X3.x.fa.ob
          have hO := X3.x.en _ qQ
          have sz := hO.sizes X3.x.rows
          refine ⟨_, rfl, A.p, dx, _, rfl, h1, nfU, A, LQ, g3, k, all, "q", rfl, X3.x.fa, qQ, k0, X3.x.rows, by omega, X3.x.ok, hO.hw, sz.2.2, by omega, fun e2 q2 lh2 ys2 fo2 H4 fa4 b1 b2 b3 b4 eh2 st4 oq2 fr2 ol2 eq2 el2 ml2 => ?_⟩
          have X4 := X3.stepA (X3.x.upd fa4 (hO.catch X3.x.rows k0 b1 b3 b4)) st4
          exact ⟨_, _, _, _, gB, all, rfl, X4, by rw [updE_ne pq_ne, ep3]; exact hE, by omega⟩
      rintro σ H2 ⟨o7, o8, o9, gA, gB, all, rfl, X, hE, hli⟩
      clear X1
      obtain ⟨dx, h1⟩ := X.x.fa.ob
      refine ⟨_, rfl, A.p, dx, _, rfl, h1, nfH, A, LQ, gA, k, all, "p", rfl, X.x.fa, pQ, fun q1 y1 nq1 m1 => ?_⟩
      have j1 := Same.new (o := .lst y1) nq1
      have X2 := X.same j1
      have eq1 := upd_same (H := H2) (a := q1) (o := .lst y1)
      generalize upd H2 q1 (.lst y1) = H3 at X2 eq1 m1 ⊢
      obtain ⟨dx, h1⟩ := X2.y.fa.ob
      have okh : ∀ m ∈ (gB "p").h.heard, mOk m := fun m hm => X.y.ok m ((X.y.en "p" pP).hw.sub m (.inl hm))
      have okr : ∀ m ∈ (gB "p").s.rows, mOk m := fun m hm => X.y.ok m ((X.y.en "p" pP).sub m hm)
      refine ⟨_, rfl, B.p, dx, _, rfl, h1, nfH, B, LP, gB, k, all, "p", rfl, X2.y.fa, pP, fun q2 y2 nq2 m2 => ?_⟩
      have j2 := Same.new (o := .lst y2) nq2
      rw [hE.h] at m1
      refine ne_ms (j2 _ _ eq1) (m1.same j2) upd_same m2 okh ⟨_, rfl, iteF ?_⟩
      have X3 := X2.same j2
      generalize upd H3 q2 (.lst y2) = H4 at X3 ⊢
      clear X2 m1 m2
      obtain ⟨dx, h1⟩ := X3.x.fa.ob
      refine ⟨_, rfl, A.p, dx, _, rfl, h1, nfO, A, LQ, gA, k, all, "p", rfl, X3.x.fa, pQ, fun q3 nq3 => ?_⟩
      rw [hE.h]
      have j3 := Same.new (o := .lst ((gB "p").h.lost.map V.int)) nq3
      have X4 := X3.same j3
      have eq3 := upd_same (H := H4) (a := q3) (o := .lst ((gB "p").h.lost.map V.int))
      generalize upd H4 q3 (.lst ((gB "p").h.lost.map V.int)) = H5 at X4 eq3 ⊢
      obtain ⟨dx, h1⟩ := X4.y.fa.ob
      refine ⟨_, rfl, B.p, dx, _, rfl, h1, nfO, B, LP, gB, k, all, "p", rfl, X4.y.fa, pP, fun q4 nq4 => ?_⟩
      have j4 := Same.new (o := .lst ((gB "p").h.lost.map V.int)) nq4
      refine ne_ints (j4 _ _ eq3) upd_same ⟨_, rfl, iteF ?_⟩
      have X5 := X4.same j4
      generalize upd H5 q4 (.lst ((gB "p").h.lost.map V.int)) = H6 at X5 ⊢
      obtain ⟨dx, h1⟩ := X5.x.fa.ob
      refine ⟨_, rfl, A.p, dx, _, rfl, h1, nfW, A, LQ, gA, k, all, "p", rfl, X5.x.fa, pQ, fun q5 y5 nq5 m5 => ?_⟩
      have j5 := Same.new (o := .lst y5) nq5
      have X6 := X5.same j5
      have eq5 := upd_same (H := H6) (a := q5) (o := .lst y5)
      generalize upd H6 q5 (.lst y5) = H7 at X6 eq5 m5 ⊢
      obtain ⟨dx, h1⟩ := X6.y.fa.ob
      refine ⟨_, rfl, B.p, dx, _, rfl, h1, nfW, B, LP, gB, k, all, "p", rfl, X6.y.fa, pP, fun q6 y6 nq6 m6 => ?_⟩
      have j6 := Same.new (o := .lst y6) nq6
      rw [hE.s] at m5
      exact ne_ms (j6 _ _ eq5) (m5.same j6) upd_same m6 okr ⟨_, rfl, iteF ⟨_, _, _, _, gA, gB, all, rfl, X6.same j6, hE, hli⟩⟩
    rintro σ H' ⟨o6, o7, o8, o9, gA, gB, all, rfl, X, hE, hli⟩
    exact ⟨_, rfl, B, gB, k, all, rfl, X.y, by omega, q⟩
end
end K42


namespace K42
open PySem L2
theorem all_mk {l : PySem.W.OpenLaw} {w : World} {K : PySem.W.Frag} {h : Heap} {mg : Str → Option Value} {fa f0 f1 f2 f3 f4 f5 f6 f7 f8 f9 f10 f11 f12 f13 f14 f15 f16 f17 f18 f19 f20 f21 f22 f23 f24 f25 f26 f27 f28 f29 f30 f31 f32 f33 f34 f35 f36 f37 f38 f39 f40 f41 f42 C_Fan C_Teller C_Road C_Hearer : Addr} (X : K.In h) (G : h.Ns mainGlobals mg) (hfa : mg "law" = some (.ref fa))
    {od0 an0 od1 an1 od2 an2 od3 an3 od4 an4 od5 an5 od6 an6 od7 an7 od8 an8 od9 an9 od10 an10 od11 an11 od12 an12 od13 an13 od14 an14 od15 an15 od16 an16 od17 an17 od18 an18 od19 an19 od20 an20 od21 an21 od22 an22 od23 an23 od24 an24 od25 an25 od26 an26 od27 an27 od28 an28 od29 an29 od30 an30 od31 an31 od32 an32 od33 an33 od34 an34 od35 an35 od36 an36 od37 an37 od38 an38 od39 an39 od40 an40 od41 an41 od42 an42 : Option Addr} {sl0 sl1 sl2 sl3 sl4 sl5 sl6 sl7 sl8 sl9 sl10 sl11 sl12 sl13 sl14 sl15 sl16 sl17 sl18 sl19 sl20 sl21 sl22 sl23 sl24 sl25 sl26 sl27 sl28 sl29 sl30 sl31 sl32 sl33 sl34 sl35 sl36 sl37 sl38 sl39 sl40 sl41 sl42 : Array (Option Value)} {oc0 kV0 dc0 pm0 cd0 ct0 oc1 kV1 dc1 pm1 cd1 ct1 oc2 kV2 dc2 pm2 cd2 ct2 oc3 kV3 dc3 pm3 cd3 ct3 oc4 kV4 dc4 pm4 cd4 ct4 oc5 kV5 dc5 pm5 cd5 ct5 oc6 kV6 dc6 pm6 cd6 ct6 oc7 kV7 dc7 pm7 cd7 ct7 oc8 kV8 dc8 pm8 cd8 ct8 oc9 kV9 dc9 pm9 cd9 ct9 oc10 kV10 dc10 pm10 cd10 ct10 oc11 kV11 dc11 pm11 cd11 ct11 oc12 kV12 dc12 pm12 cd12 ct12 oc13 kV13 dc13 pm13 cd13 ct13 oc14 kV14 dc14 pm14 cd14 ct14 oc15 kV15 dc15 pm15 cd15 ct15 oc16 kV16 dc16 pm16 cd16 ct16 oc17 kV17 dc17 pm17 cd17 ct17 oc18 kV18 dc18 pm18 cd18 ct18 oc19 kV19 dc19 pm19 cd19 ct19 oc20 kV20 dc20 pm20 cd20 ct20 oc21 kV21 dc21 pm21 cd21 ct21 oc22 kV22 dc22 pm22 cd22 ct22 oc23 kV23 dc23 pm23 cd23 ct23 oc24 kV24 dc24 pm24 cd24 ct24 oc25 kV25 dc25 pm25 cd25 ct25 oc26 kV26 dc26 pm26 cd26 ct26 oc27 kV27 dc27 pm27 cd27 ct27 oc28 kV28 dc28 pm28 cd28 ct28 oc29 kV29 dc29 pm29 cd29 ct29 oc30 kV30 dc30 pm30 cd30 ct30 oc31 kV31 dc31 pm31 cd31 ct31 oc32 kV32 dc32 pm32 cd32 ct32 oc33 kV33 dc33 pm33 cd33 ct33 oc34 kV34 dc34 pm34 cd34 ct34 oc35 kV35 dc35 pm35 cd35 ct35 oc36 kV36 dc36 pm36 cd36 ct36 oc37 kV37 dc37 pm37 cd37 ct37 oc38 kV38 dc38 pm38 cd38 ct38 oc39 kV39 dc39 pm39 cd39 ct39 oc40 kV40 dc40 pm40 cd40 ct40 oc41 kV41 dc41 pm41 cd41 ct41 oc42 kV42 dc42 pm42 cd42 ct42 : Value}
    (aC_Fan : PySem.W.nsIn K mainGlobals "Fan" = some (some (.ref C_Fan)))
    (pg_Fan : PySem.W.plainGet K C_Fan Str.empty = true)
    (hd_Fan : PySem.W.hasDictIn K C_Fan = true)
    (po_Fan : PySem.W.plainOver K C_Fan = true)
    (sa_Fan : PySem.W.findIn K (.ref C_Fan) "__setattr__" = some (some (.builtin "object.__setattr__")))
    (mk_Fan : PySem.W.makesIn K C_Fan = true)
    (kc_Fan : PySem.W.keepIn K (.ref C_Fan) = true)
    (n_Fan_teller : PySem.W.findIn K (.ref C_Fan) "teller" = some none)
    (n_Fan_roads : PySem.W.findIn K (.ref C_Fan) "roads" = some none)
    (n_Fan_hearers : PySem.W.findIn K (.ref C_Fan) "hearers" = some none)
    (aC_Teller : PySem.W.nsIn K mainGlobals "Teller" = some (some (.ref C_Teller)))
    (pg_Teller : PySem.W.plainGet K C_Teller Str.empty = true)
    (hd_Teller : PySem.W.hasDictIn K C_Teller = true)
    (po_Teller : PySem.W.plainOver K C_Teller = true)
    (sa_Teller : PySem.W.findIn K (.ref C_Teller) "__setattr__" = some (some (.builtin "object.__setattr__")))
    (mk_Teller : PySem.W.makesIn K C_Teller = true)
    (kc_Teller : PySem.W.keepIn K (.ref C_Teller) = true)
    (n_Teller_keep : PySem.W.findIn K (.ref C_Teller) "keep" = some none)
    (n_Teller_turn : PySem.W.findIn K (.ref C_Teller) "turn" = some none)
    (n_Teller_total : PySem.W.findIn K (.ref C_Teller) "total" = some none)
    (n_Teller_stored : PySem.W.findIn K (.ref C_Teller) "stored" = some none)
    (n_Teller_newest : PySem.W.findIn K (.ref C_Teller) "newest" = some none)
    (aC_Road : PySem.W.nsIn K mainGlobals "Road" = some (some (.ref C_Road)))
    (pg_Road : PySem.W.plainGet K C_Road Str.empty = true)
    (hd_Road : PySem.W.hasDictIn K C_Road = true)
    (po_Road : PySem.W.plainOver K C_Road = true)
    (sa_Road : PySem.W.findIn K (.ref C_Road) "__setattr__" = some (some (.builtin "object.__setattr__")))
    (mk_Road : PySem.W.makesIn K C_Road = true)
    (kc_Road : PySem.W.keepIn K (.ref C_Road) = true)
    (n_Road_size : PySem.W.findIn K (.ref C_Road) "size" = some none)
    (n_Road_way : PySem.W.findIn K (.ref C_Road) "way" = some none)
    (n_Road_row : PySem.W.findIn K (.ref C_Road) "row" = some none)
    (n_Road_dropped : PySem.W.findIn K (.ref C_Road) "dropped" = some none)
    (n_Road_broken : PySem.W.findIn K (.ref C_Road) "broken" = some none)
    (aC_Hearer : PySem.W.nsIn K mainGlobals "Hearer" = some (some (.ref C_Hearer)))
    (pg_Hearer : PySem.W.plainGet K C_Hearer Str.empty = true)
    (hd_Hearer : PySem.W.hasDictIn K C_Hearer = true)
    (po_Hearer : PySem.W.plainOver K C_Hearer = true)
    (sa_Hearer : PySem.W.findIn K (.ref C_Hearer) "__setattr__" = some (some (.builtin "object.__setattr__")))
    (mk_Hearer : PySem.W.makesIn K C_Hearer = true)
    (kc_Hearer : PySem.W.keepIn K (.ref C_Hearer) = true)
    (n_Hearer_next_number : PySem.W.findIn K (.ref C_Hearer) "next_number" = some none)
    (n_Hearer_past : PySem.W.findIn K (.ref C_Hearer) "past" = some none)
    (n_Hearer_held : PySem.W.findIn K (.ref C_Hearer) "held" = some none)
    (n_Hearer_known : PySem.W.findIn K (.ref C_Hearer) "known" = some none)
    (n_Hearer_given_up : PySem.W.findIn K (.ref C_Hearer) "given_up" = some none)
    (a0 : PySem.W.nsIn K mainGlobals "number_of" = some (some (.ref f0)))
    (l0 : K.lookup f0 = some ⟨oc0, od0, .func (PySem.W.fnOf "number_of" "number_of" (defArgs s_number_of) (defBody s_number_of) (defScope s_number_of) .none kV0 dc0 pm0 an0 cd0 ct0), sl0⟩)
    (c0 : PySem.W.codeIn K cd0 "number_of" = true)
    (k0 : PySem.W.keepIn K (.ref f0) = true)
    (a1 : PySem.W.nsIn K mainGlobals "topic_of" = some (some (.ref f1)))
    (l1 : K.lookup f1 = some ⟨oc1, od1, .func (PySem.W.fnOf "topic_of" "topic_of" (defArgs s_topic_of) (defBody s_topic_of) (defScope s_topic_of) .none kV1 dc1 pm1 an1 cd1 ct1), sl1⟩)
    (c1 : PySem.W.codeIn K cd1 "topic_of" = true)
    (k1 : PySem.W.keepIn K (.ref f1) = true)
    (a2 : PySem.W.nsIn K mainGlobals "of_topics" = some (some (.ref f2)))
    (l2 : K.lookup f2 = some ⟨oc2, od2, .func (PySem.W.fnOf "of_topics" "of_topics" (defArgs s_of_topics) (defBody s_of_topics) (defScope s_of_topics) .none kV2 dc2 pm2 an2 cd2 ct2), sl2⟩)
    (c2 : PySem.W.codeIn K cd2 "of_topics" = true)
    (k2 : PySem.W.keepIn K (.ref f2) = true)
    (a3 : PySem.W.nsIn K mainGlobals "with_greater_numbers" = some (some (.ref f3)))
    (l3 : K.lookup f3 = some ⟨oc3, od3, .func (PySem.W.fnOf "with_greater_numbers" "with_greater_numbers" (defArgs s_with_greater_numbers) (defBody s_with_greater_numbers) (defScope s_with_greater_numbers) .none kV3 dc3 pm3 an3 cd3 ct3), sl3⟩)
    (c3 : PySem.W.codeIn K cd3 "with_greater_numbers" = true)
    (k3 : PySem.W.keepIn K (.ref f3) = true)
    (a4 : PySem.W.findIn K (.ref C_Teller) "__init__" = some (some (.ref f4)))
    (i4 : PySem.W.isFn K (.ref f4) = true)
    (l4 : K.lookup f4 = some ⟨oc4, od4, .func (PySem.W.fnOf "__init__" "Teller.__init__" (defArgs s_Teller___init__) (defBody s_Teller___init__) (defScope s_Teller___init__) .none kV4 dc4 pm4 an4 cd4 ct4), sl4⟩)
    (c4 : PySem.W.codeIn K cd4 "Teller.__init__" = true)
    (k4 : PySem.W.keepIn K (.ref f4) = true)
    (a5 : PySem.W.findIn K (.ref C_Teller) "tell" = some (some (.ref f5)))
    (i5 : PySem.W.isFn K (.ref f5) = true)
    (l5 : K.lookup f5 = some ⟨oc5, od5, .func (PySem.W.fnOf "tell" "Teller.tell" (defArgs s_Teller_tell) (defBody s_Teller_tell) (defScope s_Teller_tell) .none kV5 dc5 pm5 an5 cd5 ct5), sl5⟩)
    (c5 : PySem.W.codeIn K cd5 "Teller.tell" = true)
    (k5 : PySem.W.keepIn K (.ref f5) = true)
    (a6 : PySem.W.findIn K (.ref C_Teller) "told" = some (some (.ref f6)))
    (i6 : PySem.W.isFn K (.ref f6) = true)
    (l6 : K.lookup f6 = some ⟨oc6, od6, .func (PySem.W.fnOf "told" "Teller.told" (defArgs s_Teller_told) (defBody s_Teller_told) (defScope s_Teller_told) .none kV6 dc6 pm6 an6 cd6 ct6), sl6⟩)
    (c6 : PySem.W.codeIn K cd6 "Teller.told" = true)
    (k6 : PySem.W.keepIn K (.ref f6) = true)
    (a7 : PySem.W.findIn K (.ref C_Teller) "oldest" = some (some (.ref f7)))
    (i7 : PySem.W.isFn K (.ref f7) = true)
    (l7 : K.lookup f7 = some ⟨oc7, od7, .func (PySem.W.fnOf "oldest" "Teller.oldest" (defArgs s_Teller_oldest) (defBody s_Teller_oldest) (defScope s_Teller_oldest) .none kV7 dc7 pm7 an7 cd7 ct7), sl7⟩)
    (c7 : PySem.W.codeIn K cd7 "Teller.oldest" = true)
    (k7 : PySem.W.keepIn K (.ref f7) = true)
    (a8 : PySem.W.findIn K (.ref C_Teller) "behind" = some (some (.ref f8)))
    (i8 : PySem.W.isFn K (.ref f8) = true)
    (l8 : K.lookup f8 = some ⟨oc8, od8, .func (PySem.W.fnOf "behind" "Teller.behind" (defArgs s_Teller_behind) (defBody s_Teller_behind) (defScope s_Teller_behind) .none kV8 dc8 pm8 an8 cd8 ct8), sl8⟩)
    (c8 : PySem.W.codeIn K cd8 "Teller.behind" = true)
    (k8 : PySem.W.keepIn K (.ref f8) = true)
    (a9 : PySem.W.findIn K (.ref C_Road) "__init__" = some (some (.ref f9)))
    (i9 : PySem.W.isFn K (.ref f9) = true)
    (l9 : K.lookup f9 = some ⟨oc9, od9, .func (PySem.W.fnOf "__init__" "Road.__init__" (defArgs s_Road___init__) (defBody s_Road___init__) (defScope s_Road___init__) .none kV9 dc9 pm9 an9 cd9 ct9), sl9⟩)
    (c9 : PySem.W.codeIn K cd9 "Road.__init__" = true)
    (k9 : PySem.W.keepIn K (.ref f9) = true)
    (a10 : PySem.W.findIn K (.ref C_Road) "leave_out" = some (some (.ref f10)))
    (i10 : PySem.W.isFn K (.ref f10) = true)
    (l10 : K.lookup f10 = some ⟨oc10, od10, .func (PySem.W.fnOf "leave_out" "Road.leave_out" (defArgs s_Road_leave_out) (defBody s_Road_leave_out) (defScope s_Road_leave_out) .none kV10 dc10 pm10 an10 cd10 ct10), sl10⟩)
    (c10 : PySem.W.codeIn K cd10 "Road.leave_out" = true)
    (k10 : PySem.W.keepIn K (.ref f10) = true)
    (a11 : PySem.W.findIn K (.ref C_Road) "put_without_room" = some (some (.ref f11)))
    (i11 : PySem.W.isFn K (.ref f11) = true)
    (l11 : K.lookup f11 = some ⟨oc11, od11, .func (PySem.W.fnOf "put_without_room" "Road.put_without_room" (defArgs s_Road_put_without_room) (defBody s_Road_put_without_room) (defScope s_Road_put_without_room) .none kV11 dc11 pm11 an11 cd11 ct11), sl11⟩)
    (c11 : PySem.W.codeIn K cd11 "Road.put_without_room" = true)
    (k11 : PySem.W.keepIn K (.ref f11) = true)
    (a12 : PySem.W.findIn K (.ref C_Road) "put" = some (some (.ref f12)))
    (i12 : PySem.W.isFn K (.ref f12) = true)
    (l12 : K.lookup f12 = some ⟨oc12, od12, .func (PySem.W.fnOf "put" "Road.put" (defArgs s_Road_put) (defBody s_Road_put) (defScope s_Road_put) .none kV12 dc12 pm12 an12 cd12 ct12), sl12⟩)
    (c12 : PySem.W.codeIn K cd12 "Road.put" = true)
    (k12 : PySem.W.keepIn K (.ref f12) = true)
    (a13 : PySem.W.findIn K (.ref C_Road) "take" = some (some (.ref f13)))
    (i13 : PySem.W.isFn K (.ref f13) = true)
    (l13 : K.lookup f13 = some ⟨oc13, od13, .func (PySem.W.fnOf "take" "Road.take" (defArgs s_Road_take) (defBody s_Road_take) (defScope s_Road_take) .none kV13 dc13 pm13 an13 cd13 ct13), sl13⟩)
    (c13 : PySem.W.codeIn K cd13 "Road.take" = true)
    (k13 : PySem.W.keepIn K (.ref f13) = true)
    (a14 : PySem.W.findIn K (.ref C_Road) "waiting" = some (some (.ref f14)))
    (i14 : PySem.W.isFn K (.ref f14) = true)
    (l14 : K.lookup f14 = some ⟨oc14, od14, .func (PySem.W.fnOf "waiting" "Road.waiting" (defArgs s_Road_waiting) (defBody s_Road_waiting) (defScope s_Road_waiting) .none kV14 dc14 pm14 an14 cd14 ct14), sl14⟩)
    (c14 : PySem.W.codeIn K cd14 "Road.waiting" = true)
    (k14 : PySem.W.keepIn K (.ref f14) = true)
    (a15 : PySem.W.findIn K (.ref C_Road) "mend" = some (some (.ref f15)))
    (i15 : PySem.W.isFn K (.ref f15) = true)
    (l15 : K.lookup f15 = some ⟨oc15, od15, .func (PySem.W.fnOf "mend" "Road.mend" (defArgs s_Road_mend) (defBody s_Road_mend) (defScope s_Road_mend) .none kV15 dc15 pm15 an15 cd15 ct15), sl15⟩)
    (c15 : PySem.W.codeIn K cd15 "Road.mend" = true)
    (k15 : PySem.W.keepIn K (.ref f15) = true)
    (a16 : PySem.W.findIn K (.ref C_Hearer) "__init__" = some (some (.ref f16)))
    (i16 : PySem.W.isFn K (.ref f16) = true)
    (l16 : K.lookup f16 = some ⟨oc16, od16, .func (PySem.W.fnOf "__init__" "Hearer.__init__" (defArgs s_Hearer___init__) (defBody s_Hearer___init__) (defScope s_Hearer___init__) .none kV16 dc16 pm16 an16 cd16 ct16), sl16⟩)
    (c16 : PySem.W.codeIn K cd16 "Hearer.__init__" = true)
    (k16 : PySem.W.keepIn K (.ref f16) = true)
    (a17 : PySem.W.findIn K (.ref C_Hearer) "expects" = some (some (.ref f17)))
    (i17 : PySem.W.isFn K (.ref f17) = true)
    (l17 : K.lookup f17 = some ⟨oc17, od17, .func (PySem.W.fnOf "expects" "Hearer.expects" (defArgs s_Hearer_expects) (defBody s_Hearer_expects) (defScope s_Hearer_expects) .none kV17 dc17 pm17 an17 cd17 ct17), sl17⟩)
    (c17 : PySem.W.codeIn K cd17 "Hearer.expects" = true)
    (k17 : PySem.W.keepIn K (.ref f17) = true)
    (a18 : PySem.W.findIn K (.ref C_Hearer) "hear_held" = some (some (.ref f18)))
    (i18 : PySem.W.isFn K (.ref f18) = true)
    (l18 : K.lookup f18 = some ⟨oc18, od18, .func (PySem.W.fnOf "hear_held" "Hearer.hear_held" (defArgs s_Hearer_hear_held) (defBody s_Hearer_hear_held) (defScope s_Hearer_hear_held) .none kV18 dc18 pm18 an18 cd18 ct18), sl18⟩)
    (c18 : PySem.W.codeIn K cd18 "Hearer.hear_held" = true)
    (k18 : PySem.W.keepIn K (.ref f18) = true)
    (a19 : PySem.W.findIn K (.ref C_Hearer) "refuse_others" = some (some (.ref f19)))
    (i19 : PySem.W.isFn K (.ref f19) = true)
    (l19 : K.lookup f19 = some ⟨oc19, od19, .func (PySem.W.fnOf "refuse_others" "Hearer.refuse_others" (defArgs s_Hearer_refuse_others) (defBody s_Hearer_refuse_others) (defScope s_Hearer_refuse_others) .none kV19 dc19 pm19 an19 cd19 ct19), sl19⟩)
    (c19 : PySem.W.codeIn K cd19 "Hearer.refuse_others" = true)
    (k19 : PySem.W.keepIn K (.ref f19) = true)
    (a20 : PySem.W.findIn K (.ref C_Hearer) "take_all" = some (some (.ref f20)))
    (i20 : PySem.W.isFn K (.ref f20) = true)
    (l20 : K.lookup f20 = some ⟨oc20, od20, .func (PySem.W.fnOf "take_all" "Hearer.take_all" (defArgs s_Hearer_take_all) (defBody s_Hearer_take_all) (defScope s_Hearer_take_all) .none kV20 dc20 pm20 an20 cd20 ct20), sl20⟩)
    (c20 : PySem.W.codeIn K cd20 "Hearer.take_all" = true)
    (k20 : PySem.W.keepIn K (.ref f20) = true)
    (a21 : PySem.W.findIn K (.ref C_Hearer) "heard" = some (some (.ref f21)))
    (i21 : PySem.W.isFn K (.ref f21) = true)
    (l21 : K.lookup f21 = some ⟨oc21, od21, .func (PySem.W.fnOf "heard" "Hearer.heard" (defArgs s_Hearer_heard) (defBody s_Hearer_heard) (defScope s_Hearer_heard) .none kV21 dc21 pm21 an21 cd21 ct21), sl21⟩)
    (c21 : PySem.W.codeIn K cd21 "Hearer.heard" = true)
    (k21 : PySem.W.keepIn K (.ref f21) = true)
    (a22 : PySem.W.findIn K (.ref C_Hearer) "lost" = some (some (.ref f22)))
    (i22 : PySem.W.isFn K (.ref f22) = true)
    (l22 : K.lookup f22 = some ⟨oc22, od22, .func (PySem.W.fnOf "lost" "Hearer.lost" (defArgs s_Hearer_lost) (defBody s_Hearer_lost) (defScope s_Hearer_lost) .none kV22 dc22 pm22 an22 cd22 ct22), sl22⟩)
    (c22 : PySem.W.codeIn K cd22 "Hearer.lost" = true)
    (k22 : PySem.W.keepIn K (.ref f22) = true)
    (a23 : PySem.W.findIn K (.ref C_Hearer) "give_up" = some (some (.ref f23)))
    (i23 : PySem.W.isFn K (.ref f23) = true)
    (l23 : K.lookup f23 = some ⟨oc23, od23, .func (PySem.W.fnOf "give_up" "Hearer.give_up" (defArgs s_Hearer_give_up) (defBody s_Hearer_give_up) (defScope s_Hearer_give_up) .none kV23 dc23 pm23 an23 cd23 ct23), sl23⟩)
    (c23 : PySem.W.codeIn K cd23 "Hearer.give_up" = true)
    (k23 : PySem.W.keepIn K (.ref f23) = true)
    (a24 : PySem.W.nsIn K mainGlobals "caught_up" = some (some (.ref f24)))
    (l24 : K.lookup f24 = some ⟨oc24, od24, .func (PySem.W.fnOf "caught_up" "caught_up" (defArgs s_caught_up) (defBody s_caught_up) (defScope s_caught_up) .none kV24 dc24 pm24 an24 cd24 ct24), sl24⟩)
    (c24 : PySem.W.codeIn K cd24 "caught_up" = true)
    (k24 : PySem.W.keepIn K (.ref f24) = true)
    (a25 : PySem.W.findIn K (.ref C_Fan) "__init__" = some (some (.ref f25)))
    (i25 : PySem.W.isFn K (.ref f25) = true)
    (l25 : K.lookup f25 = some ⟨oc25, od25, .func (PySem.W.fnOf "__init__" "Fan.__init__" (defArgs s_Fan___init__) (defBody s_Fan___init__) (defScope s_Fan___init__) .none kV25 dc25 pm25 an25 cd25 ct25), sl25⟩)
    (c25 : PySem.W.codeIn K cd25 "Fan.__init__" = true)
    (k25 : PySem.W.keepIn K (.ref f25) = true)
    (a26 : PySem.W.findIn K (.ref C_Fan) "lay" = some (some (.ref f26)))
    (i26 : PySem.W.isFn K (.ref f26) = true)
    (l26 : K.lookup f26 = some ⟨oc26, od26, .func (PySem.W.fnOf "lay" "Fan.lay" (defArgs s_Fan_lay) (defBody s_Fan_lay) (defScope s_Fan_lay) .none kV26 dc26 pm26 an26 cd26 ct26), sl26⟩)
    (c26 : PySem.W.codeIn K cd26 "Fan.lay" = true)
    (k26 : PySem.W.keepIn K (.ref f26) = true)
    (a27 : PySem.W.findIn K (.ref C_Fan) "refuse_unknown" = some (some (.ref f27)))
    (i27 : PySem.W.isFn K (.ref f27) = true)
    (l27 : K.lookup f27 = some ⟨oc27, od27, .func (PySem.W.fnOf "refuse_unknown" "Fan.refuse_unknown" (defArgs s_Fan_refuse_unknown) (defBody s_Fan_refuse_unknown) (defScope s_Fan_refuse_unknown) .none kV27 dc27 pm27 an27 cd27 ct27), sl27⟩)
    (c27 : PySem.W.codeIn K cd27 "Fan.refuse_unknown" = true)
    (k27 : PySem.W.keepIn K (.ref f27) = true)
    (a28 : PySem.W.findIn K (.ref C_Fan) "road_of" = some (some (.ref f28)))
    (i28 : PySem.W.isFn K (.ref f28) = true)
    (l28 : K.lookup f28 = some ⟨oc28, od28, .func (PySem.W.fnOf "road_of" "Fan.road_of" (defArgs s_Fan_road_of) (defBody s_Fan_road_of) (defScope s_Fan_road_of) .none kV28 dc28 pm28 an28 cd28 ct28), sl28⟩)
    (c28 : PySem.W.codeIn K cd28 "Fan.road_of" = true)
    (k28 : PySem.W.keepIn K (.ref f28) = true)
    (a29 : PySem.W.findIn K (.ref C_Fan) "hearer_of" = some (some (.ref f29)))
    (i29 : PySem.W.isFn K (.ref f29) = true)
    (l29 : K.lookup f29 = some ⟨oc29, od29, .func (PySem.W.fnOf "hearer_of" "Fan.hearer_of" (defArgs s_Fan_hearer_of) (defBody s_Fan_hearer_of) (defScope s_Fan_hearer_of) .none kV29 dc29 pm29 an29 cd29 ct29), sl29⟩)
    (c29 : PySem.W.codeIn K cd29 "Fan.hearer_of" = true)
    (k29 : PySem.W.keepIn K (.ref f29) = true)
    (a30 : PySem.W.findIn K (.ref C_Fan) "names" = some (some (.ref f30)))
    (i30 : PySem.W.isFn K (.ref f30) = true)
    (l30 : K.lookup f30 = some ⟨oc30, od30, .func (PySem.W.fnOf "names" "Fan.names" (defArgs s_Fan_names) (defBody s_Fan_names) (defScope s_Fan_names) .none kV30 dc30 pm30 an30 cd30 ct30), sl30⟩)
    (c30 : PySem.W.codeIn K cd30 "Fan.names" = true)
    (k30 : PySem.W.keepIn K (.ref f30) = true)
    (a31 : PySem.W.findIn K (.ref C_Fan) "tell" = some (some (.ref f31)))
    (i31 : PySem.W.isFn K (.ref f31) = true)
    (l31 : K.lookup f31 = some ⟨oc31, od31, .func (PySem.W.fnOf "tell" "Fan.tell" (defArgs s_Fan_tell) (defBody s_Fan_tell) (defScope s_Fan_tell) .none kV31 dc31 pm31 an31 cd31 ct31), sl31⟩)
    (c31 : PySem.W.codeIn K cd31 "Fan.tell" = true)
    (k31 : PySem.W.keepIn K (.ref f31) = true)
    (a32 : PySem.W.findIn K (.ref C_Fan) "carry" = some (some (.ref f32)))
    (i32 : PySem.W.isFn K (.ref f32) = true)
    (l32 : K.lookup f32 = some ⟨oc32, od32, .func (PySem.W.fnOf "carry" "Fan.carry" (defArgs s_Fan_carry) (defBody s_Fan_carry) (defScope s_Fan_carry) .none kV32 dc32 pm32 an32 cd32 ct32), sl32⟩)
    (c32 : PySem.W.codeIn K cd32 "Fan.carry" = true)
    (k32 : PySem.W.keepIn K (.ref f32) = true)
    (a33 : PySem.W.findIn K (.ref C_Fan) "catch_up" = some (some (.ref f33)))
    (i33 : PySem.W.isFn K (.ref f33) = true)
    (l33 : K.lookup f33 = some ⟨oc33, od33, .func (PySem.W.fnOf "catch_up" "Fan.catch_up" (defArgs s_Fan_catch_up) (defBody s_Fan_catch_up) (defScope s_Fan_catch_up) .none kV33 dc33 pm33 an33 cd33 ct33), sl33⟩)
    (c33 : PySem.W.codeIn K cd33 "Fan.catch_up" = true)
    (k33 : PySem.W.keepIn K (.ref f33) = true)
    (a34 : PySem.W.findIn K (.ref C_Fan) "heard" = some (some (.ref f34)))
    (i34 : PySem.W.isFn K (.ref f34) = true)
    (l34 : K.lookup f34 = some ⟨oc34, od34, .func (PySem.W.fnOf "heard" "Fan.heard" (defArgs s_Fan_heard) (defBody s_Fan_heard) (defScope s_Fan_heard) .none kV34 dc34 pm34 an34 cd34 ct34), sl34⟩)
    (c34 : PySem.W.codeIn K cd34 "Fan.heard" = true)
    (k34 : PySem.W.keepIn K (.ref f34) = true)
    (a35 : PySem.W.findIn K (.ref C_Fan) "lost" = some (some (.ref f35)))
    (i35 : PySem.W.isFn K (.ref f35) = true)
    (l35 : K.lookup f35 = some ⟨oc35, od35, .func (PySem.W.fnOf "lost" "Fan.lost" (defArgs s_Fan_lost) (defBody s_Fan_lost) (defScope s_Fan_lost) .none kV35 dc35 pm35 an35 cd35 ct35), sl35⟩)
    (c35 : PySem.W.codeIn K cd35 "Fan.lost" = true)
    (k35 : PySem.W.keepIn K (.ref f35) = true)
    (a36 : PySem.W.findIn K (.ref C_Fan) "waiting" = some (some (.ref f36)))
    (i36 : PySem.W.isFn K (.ref f36) = true)
    (l36 : K.lookup f36 = some ⟨oc36, od36, .func (PySem.W.fnOf "waiting" "Fan.waiting" (defArgs s_Fan_waiting) (defBody s_Fan_waiting) (defScope s_Fan_waiting) .none kV36 dc36 pm36 an36 cd36 ct36), sl36⟩)
    (c36 : PySem.W.codeIn K cd36 "Fan.waiting" = true)
    (k36 : PySem.W.keepIn K (.ref f36) = true)
    (a37 : PySem.W.findIn K (.ref C_Fan) "lag" = some (some (.ref f37)))
    (i37 : PySem.W.isFn K (.ref f37) = true)
    (l37 : K.lookup f37 = some ⟨oc37, od37, .func (PySem.W.fnOf "lag" "Fan.lag" (defArgs s_Fan_lag) (defBody s_Fan_lag) (defScope s_Fan_lag) .none kV37 dc37 pm37 an37 cd37 ct37), sl37⟩)
    (c37 : PySem.W.codeIn K cd37 "Fan.lag" = true)
    (k37 : PySem.W.keepIn K (.ref f37) = true)
    (a38 : PySem.W.findIn K (.ref C_Fan) "close" = some (some (.ref f38)))
    (i38 : PySem.W.isFn K (.ref f38) = true)
    (l38 : K.lookup f38 = some ⟨oc38, od38, .func (PySem.W.fnOf "close" "Fan.close" (defArgs s_Fan_close) (defBody s_Fan_close) (defScope s_Fan_close) .none kV38 dc38 pm38 an38 cd38 ct38), sl38⟩)
    (c38 : PySem.W.codeIn K cd38 "Fan.close" = true)
    (k38 : PySem.W.keepIn K (.ref f38) = true)
    (a39 : PySem.W.nsIn K mainGlobals "_law_cell" = some (some (.ref f39)))
    (l39 : K.lookup f39 = some ⟨oc39, od39, .func (PySem.W.fnOf "_law_cell" "_law_cell" (defArgs s_l_cell) (defBody s_l_cell) (defScope s_l_cell) .none kV39 dc39 pm39 an39 cd39 ct39), sl39⟩)
    (c39 : PySem.W.codeIn K cd39 "_law_cell" = true)
    (k39 : PySem.W.keepIn K (.ref f39) = true)
    (a40 : PySem.W.nsIn K mainGlobals "_law_drawn" = some (some (.ref f40)))
    (l40 : K.lookup f40 = some ⟨oc40, od40, .func (PySem.W.fnOf "_law_drawn" "_law_drawn" (defArgs s_l_drawn) (defBody s_l_drawn) (defScope s_l_drawn) .none kV40 dc40 pm40 an40 cd40 ct40), sl40⟩)
    (c40 : PySem.W.codeIn K cd40 "_law_drawn" = true)
    (k40 : PySem.W.keepIn K (.ref f40) = true)
    (a41 : PySem.W.nsIn K mainGlobals "_law_is_late" = some (some (.ref f41)))
    (l41 : K.lookup f41 = some ⟨oc41, od41, .func (PySem.W.fnOf "_law_is_late" "_law_is_late" (defArgs s_l_is_late) (defBody s_l_is_late) (defScope s_l_is_late) .none kV41 dc41 pm41 an41 cd41 ct41), sl41⟩)
    (c41 : PySem.W.codeIn K cd41 "_law_is_late" = true)
    (k41 : PySem.W.keepIn K (.ref f41) = true)
    (a42 : PySem.W.nsIn K mainGlobals "law" = some (some (.ref f42)))
    (l42 : K.lookup f42 = some ⟨oc42, od42, .func (PySem.W.fnOf "law" "law" (defArgs s_law) (defBody s_law) (defScope s_law) .none kV42 dc42 pm42 an42 cd42 ct42), sl42⟩)
    (c42 : PySem.W.codeIn K cd42 "law" = true)
    (k42 : PySem.W.keepIn K (.ref f42) = true)
    (z0 : PySem.W.nsIn K mainGlobals "len" = some none)
    (z1 : PySem.W.nsIn K mainGlobals "range" = some none)
    (z2 : PySem.W.nsIn K mainGlobals "list" = some none)
    (z3 : PySem.W.nsIn K mainGlobals "max" = some none)
    (z4 : PySem.W.nsIn K mainGlobals "sorted" = some none)
    (z5 : PySem.W.nsIn K mainGlobals "min" = some none)
    : ∃ fd : FuncData, (∀ (s : Shared) (v : Value), BindsTo s fd ⟨[v], []⟩ [("_law_script", v)]) ∧ ∀ base : Heap, K.In base → base.Ns mainGlobals mg → FnOk l.prog w K mg base CX0 7 fa fd ["_law_script"] (spLaw K) := by
  have e := hfa.symm.trans (PySem.W.mg_of X G a42)
  cases e
  have T : Txt mg := { b_len := PySem.W.mg_none_of X G z0, b_range := PySem.W.mg_none_of X G z1, b_list := PySem.W.mg_none_of X G z2, b_max := PySem.W.mg_none_of X G z3, b_sorted := PySem.W.mg_none_of X G z4, b_min := PySem.W.mg_none_of X G z5 }
  have R_Fan : FanC K mg C_Fan := { cl_Fan := ⟨pg_Fan, hd_Fan, po_Fan, sa_Fan⟩, mg_Fan := PySem.W.mg_of X G aC_Fan, n_teller := n_Fan_teller, n_roads := n_Fan_roads, n_hearers := n_Fan_hearers }
  have R_Teller : TellerC K mg C_Teller := { cl_Teller := ⟨pg_Teller, hd_Teller, po_Teller, sa_Teller⟩, mg_Teller := PySem.W.mg_of X G aC_Teller, n_keep := n_Teller_keep, n_turn := n_Teller_turn, n_total := n_Teller_total, n_stored := n_Teller_stored, n_newest := n_Teller_newest }
  have R_Road : RoadC K mg C_Road := { cl_Road := ⟨pg_Road, hd_Road, po_Road, sa_Road⟩, mg_Road := PySem.W.mg_of X G aC_Road, n_size := n_Road_size, n_way := n_Road_way, n_row := n_Road_row, n_dropped := n_Road_dropped, n_broken := n_Road_broken }
  have R_Hearer : HearK K mg C_Hearer := { cl_Hearer := ⟨pg_Hearer, hd_Hearer, po_Hearer, sa_Hearer⟩, mg_Hearer := PySem.W.mg_of X G aC_Hearer, n_next_number := n_Hearer_next_number, n_past := n_Hearer_past, n_held := n_Hearer_held, n_known := n_Hearer_known, n_given_up := n_Hearer_given_up }
  have TC : TxtF K mg C_Fan C_Teller C_Road C_Hearer := ⟨R_Fan, R_Teller, R_Road, R_Hearer⟩
  have F0 := fun_mk (st := s_number_of) l0 c0 k0
  have b0 := F0.binds (ps := ["message"]) fun _ _ _ _ _ _ us hl => match us, hl with | [_], _ => rfl
  have F1 := fun_mk (st := s_topic_of) l1 c1 k1
  have b1 := F1.binds (ps := ["message"]) fun _ _ _ _ _ _ us hl => match us, hl with | [_], _ => rfl
  have F2 := fun_mk (st := s_of_topics) l2 c2 k2
  have b2 := F2.binds (ps := ["messages", "topics"]) fun _ _ _ _ _ _ us hl => match us, hl with | [_, _], _ => rfl
  have F3 := fun_mk (st := s_with_greater_numbers) l3 c3 k3
  have b3 := F3.binds (ps := ["messages", "number"]) fun _ _ _ _ _ _ us hl => match us, hl with | [_, _], _ => rfl
  have F4 := fun_mk (st := s_Teller___init__) l4 c4 k4
  have b4 := F4.binds (ps := ["self", "keep"]) fun _ _ _ _ _ _ us hl => match us, hl with | [_, _], _ => rfl
  have F5 := fun_mk (st := s_Teller_tell) l5 c5 k5
  have b5 := F5.binds (ps := ["self", "topic", "text"]) fun _ _ _ _ _ _ us hl => match us, hl with | [_, _, _], _ => rfl
  have F6 := fun_mk (st := s_Teller_told) l6 c6 k6
  have b6 := F6.binds (ps := ["self"]) fun _ _ _ _ _ _ us hl => match us, hl with | [_], _ => rfl
  have F7 := fun_mk (st := s_Teller_oldest) l7 c7 k7
  have b7 := F7.binds (ps := ["self"]) fun _ _ _ _ _ _ us hl => match us, hl with | [_], _ => rfl
  have F8 := fun_mk (st := s_Teller_behind) l8 c8 k8
  have b8 := F8.binds (ps := ["self", "number", "topics"]) fun _ _ _ _ _ _ us hl => match us, hl with | [_, _, _], _ => rfl
  have F9 := fun_mk (st := s_Road___init__) l9 c9 k9
  have b9 := F9.binds (ps := ["self", "size", "way"]) fun _ _ _ _ _ _ us hl => match us, hl with | [_, _, _], _ => rfl
  have F10 := fun_mk (st := s_Road_leave_out) l10 c10 k10
  have b10 := F10.binds (ps := ["self", "messages"]) fun _ _ _ _ _ _ us hl => match us, hl with | [_, _], _ => rfl
  have F11 := fun_mk (st := s_Road_put_without_room) l11 c11 k11
  have b11 := F11.binds (ps := ["self", "message"]) fun _ _ _ _ _ _ us hl => match us, hl with | [_, _], _ => rfl
  have F12 := fun_mk (st := s_Road_put) l12 c12 k12
  have b12 := F12.binds (ps := ["self", "message"]) fun _ _ _ _ _ _ us hl => match us, hl with | [_, _], _ => rfl
  have F13 := fun_mk (st := s_Road_take) l13 c13 k13
  have b13 := F13.binds (ps := ["self", "many"]) fun _ _ _ _ _ _ us hl => match us, hl with | [_, _], _ => rfl
  have F14 := fun_mk (st := s_Road_waiting) l14 c14 k14
  have b14 := F14.binds (ps := ["self"]) fun _ _ _ _ _ _ us hl => match us, hl with | [_], _ => rfl
  have F15 := fun_mk (st := s_Road_mend) l15 c15 k15
  have b15 := F15.binds (ps := ["self"]) fun _ _ _ _ _ _ us hl => match us, hl with | [_], _ => rfl
  have F16 := fun_mk (st := s_Hearer___init__) l16 c16 k16
  have b16 := F16.binds (ps := ["self"]) fun _ _ _ _ _ _ us hl => match us, hl with | [_], _ => rfl
  have F17 := fun_mk (st := s_Hearer_expects) l17 c17 k17
  have b17 := F17.binds (ps := ["self"]) fun _ _ _ _ _ _ us hl => match us, hl with | [_], _ => rfl
  have F18 := fun_mk (st := s_Hearer_hear_held) l18 c18 k18
  have b18 := F18.binds (ps := ["self"]) fun _ _ _ _ _ _ us hl => match us, hl with | [_], _ => rfl
  have F19 := fun_mk (st := s_Hearer_refuse_others) l19 c19 k19
  have b19 := F19.binds (ps := ["self", "messages"]) fun _ _ _ _ _ _ us hl => match us, hl with | [_, _], _ => rfl
  have F20 := fun_mk (st := s_Hearer_take_all) l20 c20 k20
  have b20 := F20.binds (ps := ["self", "messages"]) fun _ _ _ _ _ _ us hl => match us, hl with | [_, _], _ => rfl
  have F21 := fun_mk (st := s_Hearer_heard) l21 c21 k21
  have b21 := F21.binds (ps := ["self"]) fun _ _ _ _ _ _ us hl => match us, hl with | [_], _ => rfl
  have F22 := fun_mk (st := s_Hearer_lost) l22 c22 k22
  have b22 := F22.binds (ps := ["self"]) fun _ _ _ _ _ _ us hl => match us, hl with | [_], _ => rfl
  have F23 := fun_mk (st := s_Hearer_give_up) l23 c23 k23
  have b23 := F23.binds (ps := ["self", "number"]) fun _ _ _ _ _ _ us hl => match us, hl with | [_, _], _ => rfl
  have F24 := fun_mk (st := s_caught_up) l24 c24 k24
  have b24 := F24.binds (ps := ["teller", "hearer"]) fun _ _ _ _ _ _ us hl => match us, hl with | [_, _], _ => rfl
  have F25 := fun_mk (st := s_Fan___init__) l25 c25 k25
  have b25 := F25.binds (ps := ["self", "keep"]) fun _ _ _ _ _ _ us hl => match us, hl with | [_, _], _ => rfl
  have F26 := fun_mk (st := s_Fan_lay) l26 c26 k26
  have b26 := F26.binds (ps := ["self", "name", "size", "way"]) fun _ _ _ _ _ _ us hl => match us, hl with | [_, _, _, _], _ => rfl
  have F27 := fun_mk (st := s_Fan_refuse_unknown) l27 c27 k27
  have b27 := F27.binds (ps := ["self", "name"]) fun _ _ _ _ _ _ us hl => match us, hl with | [_, _], _ => rfl
  have F28 := fun_mk (st := s_Fan_road_of) l28 c28 k28
  have b28 := F28.binds (ps := ["self", "name"]) fun _ _ _ _ _ _ us hl => match us, hl with | [_, _], _ => rfl
  have F29 := fun_mk (st := s_Fan_hearer_of) l29 c29 k29
  have b29 := F29.binds (ps := ["self", "name"]) fun _ _ _ _ _ _ us hl => match us, hl with | [_, _], _ => rfl
  have F30 := fun_mk (st := s_Fan_names) l30 c30 k30
  have b30 := F30.binds (ps := ["self"]) fun _ _ _ _ _ _ us hl => match us, hl with | [_], _ => rfl
  have F31 := fun_mk (st := s_Fan_tell) l31 c31 k31
  have b31 := F31.binds (ps := ["self", "topic", "text"]) fun _ _ _ _ _ _ us hl => match us, hl with | [_, _, _], _ => rfl
  have F32 := fun_mk (st := s_Fan_carry) l32 c32 k32
  have b32 := F32.binds (ps := ["self", "name", "many"]) fun _ _ _ _ _ _ us hl => match us, hl with | [_, _, _], _ => rfl
  have F33 := fun_mk (st := s_Fan_catch_up) l33 c33 k33
  have b33 := F33.binds (ps := ["self", "name"]) fun _ _ _ _ _ _ us hl => match us, hl with | [_, _], _ => rfl
  have F34 := fun_mk (st := s_Fan_heard) l34 c34 k34
  have b34 := F34.binds (ps := ["self", "name"]) fun _ _ _ _ _ _ us hl => match us, hl with | [_, _], _ => rfl
  have F35 := fun_mk (st := s_Fan_lost) l35 c35 k35
  have b35 := F35.binds (ps := ["self", "name"]) fun _ _ _ _ _ _ us hl => match us, hl with | [_, _], _ => rfl
  have F36 := fun_mk (st := s_Fan_waiting) l36 c36 k36
  have b36 := F36.binds (ps := ["self", "name"]) fun _ _ _ _ _ _ us hl => match us, hl with | [_, _], _ => rfl
  have F37 := fun_mk (st := s_Fan_lag) l37 c37 k37
  have b37 := F37.binds (ps := ["self", "name"]) fun _ _ _ _ _ _ us hl => match us, hl with | [_, _], _ => rfl
  have F38 := fun_mk (st := s_Fan_close) l38 c38 k38
  have b38 := F38.binds (ps := ["self", "name"]) fun _ _ _ _ _ _ us hl => match us, hl with | [_, _], _ => rfl
  have F39 := fun_mk (st := s_l_cell) l39 c39 k39
  have b39 := F39.binds (ps := ["_law_script", "_law_k"]) fun _ _ _ _ _ _ us hl => match us, hl with | [_, _], _ => rfl
  have F40 := fun_mk (st := s_l_drawn) l40 c40 k40
  have b40 := F40.binds (ps := ["_law_script", "_law_k", "_law_many"]) fun _ _ _ _ _ _ us hl => match us, hl with | [_, _, _], _ => rfl
  have F41 := fun_mk (st := s_l_is_late) l41 c41 k41
  have b41 := F41.binds (ps := ["_law_fan"]) fun _ _ _ _ _ _ us hl => match us, hl with | [_], _ => rfl
  have F42 := fun_mk (st := s_law) l42 c42 k42
  refine ⟨PySem.W.fnOf "law" "law" (defArgs s_law) (defBody s_law) (defScope s_law) .none kV42 dc42 pm42 an42 cd42 ct42, fun s v => .of_eq rfl, fun base _ _ => ?_⟩
  have C0 : Callee l.prog w K mg base 1 "number_of" ["message"] (spItem 0) := ⟨_, _, ok_number_of F0 , PySem.W.mg_of X G a0, k0, b0⟩
  have C1 : Callee l.prog w K mg base 1 "topic_of" ["message"] (spItem 1) := ⟨_, _, ok_topic_of F1 , PySem.W.mg_of X G a1, k1, b1⟩
  have C2 : Callee l.prog w K mg base 2 "of_topics" ["messages", "topics"] (spOfT K) := ⟨_, _, ok_of_topics F2 T C1, PySem.W.mg_of X G a2, k2, b2⟩
  have C3 : Callee l.prog w K mg base 2 "with_greater_numbers" ["messages", "number"] (spGreater) := ⟨_, _, ok_with_greater_numbers F3 T C0, PySem.W.mg_of X G a3, k3, b3⟩
  have C4 : CalleeI l.prog w K mg base 1 C_Teller ["self", "keep"] (spInitT C_Teller) := ⟨_, _, ok_Teller_init F4 R_Teller, ⟨mk_Teller, a4, i4, kc_Teller⟩, b4⟩
  have C5 : CalleeM l.prog w K mg base 1 C_Teller "tell" ["self", "topic", "text"] (spTell C_Teller) := ⟨_, _, ok_Teller_tell F5 T R_Teller, ⟨a5, i5, k5⟩, b5⟩
  have C6 : CalleeM l.prog w K mg base 1 C_Teller "told" ["self"] (spTold C_Teller) := ⟨_, _, ok_Teller_told F6 R_Teller, ⟨a6, i6, k6⟩, b6⟩
  have C7 : CalleeM l.prog w K mg base 1 C_Teller "oldest" ["self"] (spOldest C_Teller) := ⟨_, _, ok_Teller_oldest F7 T R_Teller, ⟨a7, i7, k7⟩, b7⟩
  have C8 : CalleeM l.prog w K mg base 3 C_Teller "behind" ["self", "number", "topics"] (spBehind K C_Teller) := ⟨_, _, ok_Teller_behind F8 T R_Teller C2 C3 C7, ⟨a8, i8, k8⟩, b8⟩
  have C9 : CalleeI l.prog w K mg base 1 C_Road ["self", "size", "way"] (spInitR C_Road) := ⟨_, _, ok_Road_init F9 R_Road, ⟨mk_Road, a9, i9, kc_Road⟩, b9⟩
  have C10 : CalleeM l.prog w K mg base 2 C_Road "leave_out" ["self", "messages"] (spLeave C_Road) := ⟨_, _, ok_Road_leave_out F10 R_Road C0, ⟨a10, i10, k10⟩, b10⟩
  have C11 : CalleeM l.prog w K mg base 3 C_Road "put_without_room" ["self", "message"] (spPutW C_Road) := ⟨_, _, ok_Road_put_without_room F11 R_Road C10, ⟨a11, i11, k11⟩, b11⟩
  have C12 : CalleeM l.prog w K mg base 4 C_Road "put" ["self", "message"] (spPut C_Road) := ⟨_, _, ok_Road_put F12 T R_Road C10 C11, ⟨a12, i12, k12⟩, b12⟩
  have C13 : CalleeM l.prog w K mg base 1 C_Road "take" ["self", "many"] (spTakeR C_Road) := ⟨_, _, ok_Road_take F13 T R_Road, ⟨a13, i13, k13⟩, b13⟩
  have C14 : CalleeM l.prog w K mg base 1 C_Road "waiting" ["self"] (spWait C_Road) := ⟨_, _, ok_Road_waiting F14 T R_Road, ⟨a14, i14, k14⟩, b14⟩
  have C15 : CalleeM l.prog w K mg base 1 C_Road "mend" ["self"] (spMend C_Road) := ⟨_, _, ok_Road_mend F15 R_Road, ⟨a15, i15, k15⟩, b15⟩
  have C16 : CalleeI l.prog w K mg base 1 C_Hearer ["self"] (spInitH C_Hearer) := ⟨_, _, ok_Hearer_init F16 R_Hearer.toHearC, ⟨mk_Hearer, a16, i16, kc_Hearer⟩, b16⟩
  have C17 : CalleeM l.prog w K mg base 1 C_Hearer "expects" ["self"] (spExpects C_Hearer) := ⟨_, _, ok_Hearer_expects F17 R_Hearer.toHearC, ⟨a17, i17, k17⟩, b17⟩
  have C18 : CalleeM l.prog w K mg base 1 C_Hearer "hear_held" ["self"] (spHear C_Hearer) := ⟨_, _, ok_Hearer_hear_held F18 R_Hearer.toHearC, ⟨a18, i18, k18⟩, b18⟩
  have C19 : CalleeM l.prog w K mg base 2 C_Hearer "refuse_others" ["self", "messages"] (spRefuse C_Hearer) := ⟨_, _, ok_Hearer_refuse_others F19 R_Hearer.toHearC C0, ⟨a19, i19, k19⟩, b19⟩
  have C20 : CalleeM l.prog w K mg base 3 C_Hearer "take_all" ["self", "messages"] (spTakeAll C_Hearer) := ⟨_, _, ok_Hearer_take_all F20 R_Hearer.toHearC C0 C19 C18, ⟨a20, i20, k20⟩, b20⟩
  have C21 : CalleeM l.prog w K mg base 1 C_Hearer "heard" ["self"] (spHeard C_Hearer) := ⟨_, _, ok_Hearer_heard F21 T R_Hearer.toHearC, ⟨a21, i21, k21⟩, b21⟩
  have C22 : CalleeM l.prog w K mg base 1 C_Hearer "lost" ["self"] (spLost C_Hearer) := ⟨_, _, ok_Hearer_lost F22 T R_Hearer.toHearC, ⟨a22, i22, k22⟩, b22⟩
  have C23 : CalleeM l.prog w K mg base 2 C_Hearer "give_up" ["self", "number"] (spGive C_Hearer) := ⟨_, _, ok_Hearer_give_up F23 R_Hearer.toHearC C18, ⟨a23, i23, k23⟩, b23⟩
  have C24 : Callee l.prog w K mg base 4 "caught_up" ["teller", "hearer"] (spCaughtN C_Teller C_Hearer) := ⟨_, _, ok_caught_up F24 T ⟨R_Teller, R_Hearer⟩ C8 C7 C17 C19 C22 C23 C20, PySem.W.mg_of X G a24, k24, b24⟩
  have C25 : CalleeI l.prog w K mg base 3 C_Fan ["self", "keep"] (spFInit C_Fan C_Teller C_Road C_Hearer) := ⟨_, _, ok_Fan_init F25 TC C4, ⟨mk_Fan, a25, i25, kc_Fan⟩, b25⟩
  have C26 : CalleeM l.prog w K mg base 3 C_Fan "lay" ["self", "name", "size", "way"] (spFLay C_Fan C_Teller C_Road C_Hearer) := ⟨_, _, ok_Fan_lay F26 TC C9 C16, ⟨a26, i26, k26⟩, b26⟩
  have C27 : CalleeM l.prog w K mg base 1 C_Fan "refuse_unknown" ["self", "name"] (spFKnow C_Fan C_Teller C_Road C_Hearer) := ⟨_, _, ok_Fan_refuse_unknown F27 R_Fan, ⟨a27, i27, k27⟩, b27⟩
  have C28 : CalleeM l.prog w K mg base 2 C_Fan "road_of" ["self", "name"] (spFRoad C_Fan C_Teller C_Road C_Hearer) := ⟨_, _, ok_Fan_road_of F28 R_Fan C27, ⟨a28, i28, k28⟩, b28⟩
  have C29 : CalleeM l.prog w K mg base 2 C_Fan "hearer_of" ["self", "name"] (spFHearer C_Fan C_Teller C_Road C_Hearer) := ⟨_, _, ok_Fan_hearer_of F29 R_Fan C27, ⟨a29, i29, k29⟩, b29⟩
  have C30 : CalleeM l.prog w K mg base 1 C_Fan "names" ["self"] (spFNames C_Fan C_Teller C_Road C_Hearer) := ⟨_, _, ok_Fan_names F30 T R_Fan, ⟨a30, i30, k30⟩, b30⟩
  have C31 : CalleeM l.prog w K mg base 5 C_Fan "tell" ["self", "topic", "text"] (spFTell C_Fan C_Teller C_Road C_Hearer) := ⟨_, _, ok_Fan_tell F31 TC C5 C12, ⟨a31, i31, k31⟩, b31⟩
  have C32 : CalleeM l.prog w K mg base 4 C_Fan "carry" ["self", "name", "many"] (spFCarry C_Fan C_Teller C_Road C_Hearer) := ⟨_, _, ok_Fan_carry F32 TC C29 C28 C20 C13, ⟨a32, i32, k32⟩, b32⟩
  have C33 : CalleeM l.prog w K mg base 5 C_Fan "catch_up" ["self", "name"] (spFCatch C_Fan C_Teller C_Road C_Hearer) := ⟨_, _, ok_Fan_catch_up F33 TC C29 C28 C15 C24, ⟨a33, i33, k33⟩, b33⟩
  have C34 : CalleeM l.prog w K mg base 3 C_Fan "heard" ["self", "name"] (spFHeard C_Fan C_Teller C_Road C_Hearer) := ⟨_, _, ok_Fan_heard F34 TC C29 C21, ⟨a34, i34, k34⟩, b34⟩
  have C35 : CalleeM l.prog w K mg base 3 C_Fan "lost" ["self", "name"] (spFLost C_Fan C_Teller C_Road C_Hearer) := ⟨_, _, ok_Fan_lost F35 TC C29 C22, ⟨a35, i35, k35⟩, b35⟩
  have C36 : CalleeM l.prog w K mg base 3 C_Fan "waiting" ["self", "name"] (spFWait C_Fan C_Teller C_Road C_Hearer) := ⟨_, _, ok_Fan_waiting F36 TC C28 C14, ⟨a36, i36, k36⟩, b36⟩
  have C37 : CalleeM l.prog w K mg base 3 C_Fan "lag" ["self", "name"] (spFLag C_Fan C_Teller C_Road C_Hearer) := ⟨_, _, ok_Fan_lag F37 TC C29 C6 C17, ⟨a37, i37, k37⟩, b37⟩
  have C38 : CalleeM l.prog w K mg base 2 C_Fan "close" ["self", "name"] (spFClose C_Fan C_Teller C_Road C_Hearer) := ⟨_, _, ok_Fan_close F38 R_Fan C27, ⟨a38, i38, k38⟩, b38⟩
  have C39 : Callee l.prog w K mg base 1 "_law_cell" ["_law_script", "_law_k"] (spCell K) := ⟨_, _, ok_l_cell F39 T, PySem.W.mg_of X G a39, k39, b39⟩
  have C40 : Callee l.prog w K mg base 2 "_law_drawn" ["_law_script", "_law_k", "_law_many"] (spDrawn K) := ⟨_, _, ok_l_drawn F40 T C39, PySem.W.mg_of X G a40, k40, b40⟩
  have C41 : Callee l.prog w K mg base 6 "_law_is_late" ["_law_fan"] (spLate C_Fan C_Teller C_Road C_Hearer) := ⟨_, _, ok_l_is_late F41 T TC C26 C38 C30 C31 C32 C33 C34 C35 C36 C37, PySem.W.mg_of X G a41, k41, b41⟩
  exact ok_law F42 T TC C40 C41 C25 C26 C31 C32 C33 C34 C35 C36
theorem walk {l : PySem.W.OpenLaw} {q : Program} {loose : List Str} {XP : (Str → Option Value) → Heap → Prop} {YP : World → Heap → Prop} {d : DefRec} {K : Params → PySem.W.Frag} (hn : l.most = some 63) (hdf : d.params.defaults = [])
    (hY : ∀ (w : World) (h : Heap), YP w h → (K w.params).In h)
    (F : ∀ (w : World) (mg : Str → Option Value) (fa : Addr) (h : Heap), (K w.params).In h → h.Ns mainGlobals mg → mg d.name = some (.ref fa) →
      ∃ fd : FuncData, (∀ (s : Shared) (u : Value), BindsTo s fd ⟨[u], []⟩ [("_law_script", u)]) ∧ ∀ base : Heap, (K w.params).In base → base.Ns mainGlobals mg → FnOk l.prog w (K w.params) mg base CX0 7 fa fd ["_law_script"] (spLaw (K w.params))) :
    PySem.W.WalkO q loose XP YP l.row.toRowW d [] (fun f vs => PySem.call f vs) :=
  L2.walk_of (n := 63) (k := 7) (x := "_law_script") (CX := fun _ => CX0) (sp := fun w => spLaw (K w.params)) hn (by decide) hdf ⟨rfl, by decide, by decide⟩ hY F (fun _ _ a ns hl _ hS => ⟨a, ns, rfl, hS, hl, fun _ => rfl⟩) fun _ _ _ _ _ z => z
end K42
def PySem.W.Fast.tw5170626295100770732 : Unit := ()
def PySem.W.Fast.tw15269637661983185741 : Unit := ()
def PySem.W.Fast.tw17022540709963882835 : Unit := ()
def PySem.W.Fast.tw3040901358405716043 : Unit := ()
def PySem.W.Fast.tw8744894648721531352 : Unit := ()
def PySem.W.Fast.tw7918202139741635893 : Unit := ()
def PySem.W.Fast.tw5809963973402647378 : Unit := ()
def PySem.W.Fast.tw4671125710016782569 : Unit := ()
def PySem.W.Fast.tw12391506238912534024 : Unit := ()
def PySem.W.Fast.tw4471113710274409287 : Unit := ()
def PySem.W.Fast.tw4243989178264765301 : Unit := ()
def PySem.W.Fast.tw3557419271954231452 : Unit := ()
def PySem.W.Fast.tw16417643262382098182 : Unit := ()
def PySem.W.Fast.tw7072396648226385495 : Unit := ()
open PySem PySem.W PyProof.Rows
set_option maxRecDepth 100000 in
set_option maxHeartbeats 0 in
theorem PySem.Challenge.cw_tellroads_k42_whole_roads_apart_holds : PySem.Challenge.rw_tellroads_k42_whole_roads_apart.Holds := by
  w_on; o_law; k_head; (case hw => w_witness2)
  k_fill
  refine K42.walk (l := PySem.Challenge.rw_tellroads_k42_whole_roads_apart) rfl rfl (fun w h Y => PySem.W.kIn_of Y) ?F
  case F =>
    intro w mg fa h KX G hmg
    refine' K42.all_mk KX G hmg ?aC_Fan ?pg_Fan ?hd_Fan ?po_Fan ?sa_Fan ?mk_Fan ?kc_Fan ?n_Fan_teller ?n_Fan_roads ?n_Fan_hearers ?aC_Teller ?pg_Teller ?hd_Teller ?po_Teller ?sa_Teller ?mk_Teller ?kc_Teller ?n_Teller_keep ?n_Teller_turn ?n_Teller_total ?n_Teller_stored ?n_Teller_newest ?aC_Road ?pg_Road ?hd_Road ?po_Road ?sa_Road ?mk_Road ?kc_Road ?n_Road_size ?n_Road_way ?n_Road_row ?n_Road_dropped ?n_Road_broken ?aC_Hearer ?pg_Hearer ?hd_Hearer ?po_Hearer ?sa_Hearer ?mk_Hearer ?kc_Hearer ?n_Hearer_next_number ?n_Hearer_past ?n_Hearer_held ?n_Hearer_known ?n_Hearer_given_up ?a0 ?l0 ?c0 ?k0 ?a1 ?l1 ?c1 ?k1 ?a2 ?l2 ?c2 ?k2 ?a3 ?l3 ?c3 ?k3 ?a4 ?i4 ?l4 ?c4 ?k4 ?a5 ?i5 ?l5 ?c5 ?k5 ?a6 ?i6 ?l6 ?c6 ?k6 ?a7 ?i7 ?l7 ?c7 ?k7 ?a8 ?i8 ?l8 ?c8 ?k8 ?a9 ?i9 ?l9 ?c9 ?k9 ?a10 ?i10 ?l10 ?c10 ?k10 ?a11 ?i11 ?l11 ?c11 ?k11 ?a12 ?i12 ?l12 ?c12 ?k12 ?a13 ?i13 ?l13 ?c13 ?k13 ?a14 ?i14 ?l14 ?c14 ?k14 ?a15 ?i15 ?l15 ?c15 ?k15 ?a16 ?i16 ?l16 ?c16 ?k16 ?a17 ?i17 ?l17 ?c17 ?k17 ?a18 ?i18 ?l18 ?c18 ?k18 ?a19 ?i19 ?l19 ?c19 ?k19 ?a20 ?i20 ?l20 ?c20 ?k20 ?a21 ?i21 ?l21 ?c21 ?k21 ?a22 ?i22 ?l22 ?c22 ?k22 ?a23 ?i23 ?l23 ?c23 ?k23 ?a24 ?l24 ?c24 ?k24 ?a25 ?i25 ?l25 ?c25 ?k25 ?a26 ?i26 ?l26 ?c26 ?k26 ?a27 ?i27 ?l27 ?c27 ?k27 ?a28 ?i28 ?l28 ?c28 ?k28 ?a29 ?i29 ?l29 ?c29 ?k29 ?a30 ?i30 ?l30 ?c30 ?k30 ?a31 ?i31 ?l31 ?c31 ?k31 ?a32 ?i32 ?l32 ?c32 ?k32 ?a33 ?i33 ?l33 ?c33 ?k33 ?a34 ?i34 ?l34 ?c34 ?k34 ?a35 ?i35 ?l35 ?c35 ?k35 ?a36 ?i36 ?l36 ?c36 ?k36 ?a37 ?i37 ?l37 ?c37 ?k37 ?a38 ?i38 ?l38 ?c38 ?k38 ?a39 ?l39 ?c39 ?k39 ?a40 ?l40 ?c40 ?k40 ?a41 ?l41 ?c41 ?k41 ?a42 ?l42 ?c42 ?k42 ?z0 ?z1 ?z2 ?z3 ?z4 ?z5
    (case aC_Fan => k_is)
    (case pg_Fan => k_is)
    (case hd_Fan => k_is)
    (case po_Fan => k_is)
    (case sa_Fan => k_is)
    (case mk_Fan => k_is)
    (case kc_Fan => k_is)
    (case n_Fan_teller => k_is)
    (case n_Fan_roads => k_is)
    (case n_Fan_hearers => k_is)
    (case aC_Teller => k_is)
    (case pg_Teller => k_is)
    (case hd_Teller => k_is)
    (case po_Teller => k_is)
    (case sa_Teller => k_is)
    (case mk_Teller => k_is)
    (case kc_Teller => k_is)
    (case n_Teller_keep => k_is)
    (case n_Teller_turn => k_is)
    (case n_Teller_total => k_is)
    (case n_Teller_stored => k_is)
    (case n_Teller_newest => k_is)
    (case aC_Road => k_is)
    (case pg_Road => k_is)
    (case hd_Road => k_is)
    (case po_Road => k_is)
    (case sa_Road => k_is)
    (case mk_Road => k_is)
    (case kc_Road => k_is)
    (case n_Road_size => k_is)
    (case n_Road_way => k_is)
    (case n_Road_row => k_is)
    (case n_Road_dropped => k_is)
    (case n_Road_broken => k_is)
    (case aC_Hearer => k_is)
    (case pg_Hearer => k_is)
    (case hd_Hearer => k_is)
    (case po_Hearer => k_is)
    (case sa_Hearer => k_is)
    (case mk_Hearer => k_is)
    (case kc_Hearer => k_is)
    (case n_Hearer_next_number => k_is)
    (case n_Hearer_past => k_is)
    (case n_Hearer_held => k_is)
    (case n_Hearer_known => k_is)
    (case n_Hearer_given_up => k_is)
    (case a0 => k_is)
    (case l0 => k_is)
    (case c0 => k_is)
    (case k0 => k_is)
    (case a1 => k_is)
    (case l1 => k_is)
    (case c1 => k_is)
    (case k1 => k_is)
    (case a2 => k_is)
    (case l2 => k_is)
    (case c2 => k_is)
    (case k2 => k_is)
    (case a3 => k_is)
    (case l3 => k_is)
    (case c3 => k_is)
    (case k3 => k_is)
    (case a4 => k_is)
    (case i4 => k_is)
    (case l4 => k_is)
    (case c4 => k_is)
    (case k4 => k_is)
    (case a5 => k_is)
    (case i5 => k_is)
    (case l5 => k_is)
    (case c5 => k_is)
    (case k5 => k_is)
    (case a6 => k_is)
    (case i6 => k_is)
    (case l6 => k_is)
    (case c6 => k_is)
    (case k6 => k_is)
    (case a7 => k_is)
    (case i7 => k_is)
    (case l7 => k_is)
    (case c7 => k_is)
    (case k7 => k_is)
    (case a8 => k_is)
    (case i8 => k_is)
    (case l8 => k_is)
    (case c8 => k_is)
    (case k8 => k_is)
    (case a9 => k_is)
    (case i9 => k_is)
    (case l9 => k_is)
    (case c9 => k_is)
    (case k9 => k_is)
    (case a10 => k_is)
    (case i10 => k_is)
    (case l10 => k_is)
    (case c10 => k_is)
    (case k10 => k_is)
    (case a11 => k_is)
    (case i11 => k_is)
    (case l11 => k_is)
    (case c11 => k_is)
    (case k11 => k_is)
    (case a12 => k_is)
    (case i12 => k_is)
    (case l12 => k_is)
    (case c12 => k_is)
    (case k12 => k_is)
    (case a13 => k_is)
    (case i13 => k_is)
    (case l13 => k_is)
    (case c13 => k_is)
    (case k13 => k_is)
    (case a14 => k_is)
    (case i14 => k_is)
    (case l14 => k_is)
    (case c14 => k_is)
    (case k14 => k_is)
    (case a15 => k_is)
    (case i15 => k_is)
    (case l15 => k_is)
    (case c15 => k_is)
    (case k15 => k_is)
    (case a16 => k_is)
    (case i16 => k_is)
    (case l16 => k_is)
    (case c16 => k_is)
    (case k16 => k_is)
    (case a17 => k_is)
    (case i17 => k_is)
    (case l17 => k_is)
    (case c17 => k_is)
    (case k17 => k_is)
    (case a18 => k_is)
    (case i18 => k_is)
    (case l18 => k_is)
    (case c18 => k_is)
    (case k18 => k_is)
    (case a19 => k_is)
    (case i19 => k_is)
    (case l19 => k_is)
    (case c19 => k_is)
    (case k19 => k_is)
    (case a20 => k_is)
    (case i20 => k_is)
    (case l20 => k_is)
    (case c20 => k_is)
    (case k20 => k_is)
    (case a21 => k_is)
    (case i21 => k_is)
    (case l21 => k_is)
    (case c21 => k_is)
    (case k21 => k_is)
    (case a22 => k_is)
    (case i22 => k_is)
    (case l22 => k_is)
    (case c22 => k_is)
    (case k22 => k_is)
    (case a23 => k_is)
    (case i23 => k_is)
    (case l23 => k_is)
    (case c23 => k_is)
    (case k23 => k_is)
    (case a24 => k_is)
    (case l24 => k_is)
    (case c24 => k_is)
    (case k24 => k_is)
    (case a25 => k_is)
    (case i25 => k_is)
    (case l25 => k_is)
    (case c25 => k_is)
    (case k25 => k_is)
    (case a26 => k_is)
    (case i26 => k_is)
    (case l26 => k_is)
    (case c26 => k_is)
    (case k26 => k_is)
    (case a27 => k_is)
    (case i27 => k_is)
    (case l27 => k_is)
    (case c27 => k_is)
    (case k27 => k_is)
    (case a28 => k_is)
    (case i28 => k_is)
    (case l28 => k_is)
    (case c28 => k_is)
    (case k28 => k_is)
    (case a29 => k_is)
    (case i29 => k_is)
    (case l29 => k_is)
    (case c29 => k_is)
    (case k29 => k_is)
    (case a30 => k_is)
    (case i30 => k_is)
    (case l30 => k_is)
    (case c30 => k_is)
    (case k30 => k_is)
    (case a31 => k_is)
    (case i31 => k_is)
    (case l31 => k_is)
    (case c31 => k_is)
    (case k31 => k_is)
    (case a32 => k_is)
    (case i32 => k_is)
    (case l32 => k_is)
    (case c32 => k_is)
    (case k32 => k_is)
    (case a33 => k_is)
    (case i33 => k_is)
    (case l33 => k_is)
    (case c33 => k_is)
    (case k33 => k_is)
    (case a34 => k_is)
    (case i34 => k_is)
    (case l34 => k_is)
    (case c34 => k_is)
    (case k34 => k_is)
    (case a35 => k_is)
    (case i35 => k_is)
    (case l35 => k_is)
    (case c35 => k_is)
    (case k35 => k_is)
    (case a36 => k_is)
    (case i36 => k_is)
    (case l36 => k_is)
    (case c36 => k_is)
    (case k36 => k_is)
    (case a37 => k_is)
    (case i37 => k_is)
    (case l37 => k_is)
    (case c37 => k_is)
    (case k37 => k_is)
    (case a38 => k_is)
    (case i38 => k_is)
    (case l38 => k_is)
    (case c38 => k_is)
    (case k38 => k_is)
    (case a39 => k_is)
    (case l39 => k_is)
    (case c39 => k_is)
    (case k39 => k_is)
    (case a40 => k_is)
    (case l40 => k_is)
    (case c40 => k_is)
    (case k40 => k_is)
    (case a41 => k_is)
    (case l41 => k_is)
    (case c41 => k_is)
    (case k41 => k_is)
    (case a42 => k_is)
    (case l42 => k_is)
    (case c42 => k_is)
    (case k42 => k_is)
    (case z0 => k_is)
    (case z1 => k_is)
    (case z2 => k_is)
    (case z3 => k_is)
    (case z4 => k_is)
    (case z5 => k_is)

