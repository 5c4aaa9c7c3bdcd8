import PyProof.Rows.All
import Wide.All
import OpenK.AllK
import Wide.FinOn
import Lean
import PyProof.EqAt
import PyProof.EqKinds
import PyProof.TupleCall
import PySem.Challenge.RW_tellroads_k82_whole_read
set_option Elab.async false
set_option linter.all false
set_option maxRecDepth 100000
/-! THE HAND LAYER, for ints, bools, texts, own classes, LISTS and tuples (index, slices, in, append, pop ..), calls, loops. Paste it whole ahead of your own text; what your proof does not reach may be deleted. -/
namespace L2
open PySem PySem.Spec PyProof.Rows

/-- a key: an int or a str -/
abbrev Key := Sum Int Str
def keyIs : Key → Value → Bool
  | .inl k, v => Value.isInt k v
  | .inr x, v => Value.isStrOf x v
def keyH (w : World) : Key → Int
  | .inl k => hashInt k
  | .inr x => hashStr w x
theorem keyIs_shape : ∀ {k : Key} {v : Value}, keyIs k v = true → (∃ i t, k = Sum.inl i ∧ v = Value.int i t) ∨ (∃ x t, k = Sum.inr x ∧ v = Value.str x t)
  | .inl i, v, h => by
    obtain ⟨t, e⟩ := Value.isInt_shape (k := i) (v := v) h
    exact .inl ⟨i, t, rfl, e⟩
  | .inr x, v, h => by
    obtain ⟨t, e⟩ := Value.isStrOf_shape (x := x) (v := v) h
    exact .inr ⟨x, t, rfl, e⟩
theorem key_ll (a b : Int) : decide ((Sum.inl a : Key) = Sum.inl b) = (a == b) := by
  by_cases e : a = b
  · subst e; simp
  · have h : ¬ (Sum.inl a : Key) = Sum.inl b := fun q => e (Sum.inl.inj q)
    rw [decide_eq_false h]
    exact (beq_eq_false_iff_ne.mpr e).symm
theorem key_rr (a b : Str) : decide ((Sum.inr a : Key) = Sum.inr b) = decide (a = b) := by
  by_cases e : a = b
  · subst e; simp
  · have h : ¬ (Sum.inr a : Key) = Sum.inr b := fun q => e (Sum.inr.inj q)
    rw [decide_eq_false h, decide_eq_false e]
theorem key_lr (a : Int) (b : Str) : decide ((Sum.inl a : Key) = Sum.inr b) = false := decide_eq_false (fun q => nomatch q)
theorem key_rl (a : Str) (b : Int) : decide ((Sum.inr a : Key) = Sum.inl b) = false := decide_eq_false (fun q => nomatch q)

def mixKind (prog : Program) (w : World) : PySem.KeyKind prog w Key where
  is := keyIs
  hash := keyH w
  inj := fun v a b ha hb => by
    rcases keyIs_shape ha with ⟨i, t, rfl, rfl⟩ | ⟨x, t, rfl, rfl⟩
    · rcases keyIs_shape hb with ⟨j, u, rfl, e⟩ | ⟨y, u, rfl, e⟩
      · injection e with e1 _; rw [e1]
      · exact nomatch e
    · rcases keyIs_shape hb with ⟨j, u, rfl, e⟩ | ⟨y, u, rfl, e⟩
      · exact nomatch e
      · injection e with e1 _; rw [e1]
  byValue := fun k v h => by
    rcases keyIs_shape h with ⟨i, t, rfl, rfl⟩ | ⟨x, t, rfl, rfl⟩ <;> rfl
  pyHash := fun hv h => by
    rcases keyIs_shape hv with ⟨i, t, rfl, rfl⟩ | ⟨x, t, rfl, rfl⟩
    · exact wpAny_pyHash_int h
    · exact wpAny_pyHash_str h
  eqBool := fun hu hv h => by
    rcases keyIs_shape hu with ⟨i, t, rfl, rfl⟩ | ⟨x, t, rfl, rfl⟩
    · rcases keyIs_shape hv with ⟨j, u, rfl, rfl⟩ | ⟨y, u, rfl, rfl⟩
      · rw [key_ll] at h; exact wpAny_eqBool_int h
      · rw [key_lr] at h; exact SeqAt.EqAt.int_str i t y u _ _ _ _ h
    · rcases keyIs_shape hv with ⟨j, u, rfl, rfl⟩ | ⟨y, u, rfl, rfl⟩
      · rw [key_rl] at h; exact SeqAt.EqAt.str_int x t j u _ _ _ _ h
      · rw [key_rr] at h; exact wpAny_eqBool_str h
  «strs» := fun k x t v h => by
    rcases keyIs_shape h with ⟨i, u, rfl, e⟩ | ⟨y, u, rfl, e⟩
    · exact nomatch e
    · injection e with e1 _
      subst e1
      cases v <;> rfl

end L2

namespace L2
open PySem PySem.Spec PyProof.Rows

/-- a value, without the heap -/
inductive V where
  | non | bl (b : Bool) | int (i : Int) | str (x : Str) | byt (b : Array UInt8) | flt (b : UInt64) | ref (a : Addr) | ty (n : String)
  deriving DecidableEq

def RelV : V → Value → Prop
  | .non, u => u = Value.none
  | .bl b, u => u = Value.bool b
  | .int i, u => ∃ t, u = Value.int i t
  | .str x, u => ∃ t, u = Value.str x t
  | .byt b, u => ∃ t, u = Value.bytes b t
  | .flt b, u => ∃ t, u = Value.float b t
  | .ref a, u => u = Value.ref a
  | .ty n, u => u = Value.type n

abbrev Vals : List V → List Value → Prop := Paired RelV
theorem Vals.length {xs : List V} {us : List Value} (r : Vals xs us) : xs.length = us.length := Paired.length r
theorem Vals.get : ∀ {xs : List V} {us : List Value} {i : Nat} {x : V}, Vals xs us → xs[i]? = some x → ∃ u, us[i]? = some u ∧ RelV x u
  | _, _, _, _, .nil, e => by simp at e
  | _, _, 0, _, .cons r _, e => by simp at e; subst e; exact ⟨_, rfl, r⟩
  | _, _, i + 1, x, .cons _ t, e => by
    obtain ⟨u, h1, h2⟩ := Vals.get (i := i) (x := x) t (by simpa using e)
    exact ⟨u, by simpa using h1, h2⟩
theorem Vals.set {x : V} {u : Value} (r : RelV x u) : ∀ {xs : List V} {us : List Value} (i : Nat), Vals xs us → Vals (xs.set i x) (us.set i u)
  | _, _, _, .nil => .nil
  | _, _, 0, .cons _ t => .cons r t
  | _, _, i + 1, .cons q t => .cons q (Vals.set r i t)
theorem Vals.append : ∀ {xs ys : List V} {us ws : List Value}, Vals xs us → Vals ys ws → Vals (xs ++ ys) (us ++ ws)
  | _, _, _, _, .nil, s => s
  | _, _, _, _, .cons r t, s => .cons r (Vals.append t s)
theorem Vals.take : ∀ {xs : List V} {us : List Value} (n : Nat), Vals xs us → Vals (xs.take n) (us.take n)
  | _, _, 0, _ => .nil
  | _, _, _ + 1, .nil => .nil
  | _, _, n + 1, .cons r t => .cons r (Vals.take n t)
theorem Vals.drop : ∀ {xs : List V} {us : List Value} (n : Nat), Vals xs us → Vals (xs.drop n) (us.drop n)
  | _, _, 0, r => r
  | _, _, _ + 1, .nil => .nil
  | _, _, n + 1, .cons _ t => Vals.drop n t
theorem Vals.none_of : ∀ {xs : List V} {us : List Value} {i : Nat}, Vals xs us → xs[i]? = none → us[i]? = none := fun {xs us i} r e => by
  have h1 := r.length
  have h2 : xs.length ≤ i := List.getElem?_eq_none_iff.mp e
  exact List.getElem?_eq_none_iff.mpr (by omega)

def RelO : Option V → Option Value → Prop
  | some v, some u => RelV v u
  | none, none => True
  | _, _ => False
def KV {κ : Type} : List (κ × V) → List (κ × Value) → Prop := Paired fun (p : κ × V) (q : κ × Value) => p.1 = q.1 ∧ RelV p.2 q.2

/-- a key of a dict (00_mix): an int or a text -/
def kV : Key → V
  | .inl i => .int i
  | .inr x => .str x

/-- what stands at a tracked address -/
inductive HO where
  /-- a list -/
  | lst (xs : List V)
  /-- a tuple (never changes) -/
  | tup (xs : List V)
  /-- a dict whose keys are ints and texts; one whose keys are tuples of ints and texts (the empty one is both) -/
  | dK (kvs : List (Key × V)) | dT (kvs : List (List Key × V))
  /-- a set of ints: its members, its size -/
  | set (S : Int → Bool) (n : Nat)
  /-- an instance of the class at C, its dict at dx, its attributes -/
  | ins (C dx : Addr) (fs : List (Str × V))
  /-- the dict of the instance at x -/
  | own (x : Addr)
  /-- the dict of an exception -/
  | xd (fs : List (Str × V))
  /-- a bound method, f of x -/
  | met (f x : Addr)
  /-- a range object lo, lo + 1, .. below hi -/
  | rng (lo hi : Int)
  /-- a thing that is known to the object (the script; a dict while a loop walks it): read, never written while it is so -/
  | frz (o : Obj) (u : HO)
  /-- a code object's table -/
  | tbl (ps : Array Value)
  /-- any other thing, by what is true of its one object (a def of one's own: SetO a S n := HO.ext fun h => ..) -/
  | ext (φ : Heap → Prop)

abbrev Hp := Addr → Option HO
def upd (H : Hp) (a : Addr) (o : HO) : Hp := fun b => if b = a then some o else H b
theorem upd_same {H : Hp} {a : Addr} {o : HO} : upd H a o a = some o := by unfold upd; rw [if_pos rfl]
theorem upd_ne {H : Hp} {a b : Addr} {o : HO} (h : b ≠ a) : upd H a o b = H b := by unfold upd; rw [if_neg h]
/-- two objects of different content stand apart -/
theorem ne_of {H : Hp} {a b : Addr} {o u : HO} (h : H a = some o) (h' : H b = some u) (d : o ≠ u) : a ≠ b := by
  intro e; subst e; rw [h] at h'; exact d (Option.some.inj h')
theorem ne_of_none {H : Hp} {a b : Addr} {o : HO} (h : H a = some o) (h' : H b = none) : a ≠ b := by
  intro e; subst e; rw [h] at h'; cases h'

section
variable (P : Program) (w : World)
def ObjOk (H : Hp) (h : Heap) (a : Addr) : HO → Prop
  | .lst xs => xs.length ≤ sizeLine ∧ ∃ (its : List Value) (n : Nat), Vals xs its ∧ h.get? a = some { cls := .type "list", data := .seq its.toArray n }
  | .tup xs => xs.length ≤ sizeLine ∧ ∃ its : List Value, Vals xs its ∧ IsTup h a its.toArray
  | .dK kvs => kvs.length ≤ sizeLine ∧ (a == sysModules) = false ∧ ∃ vs, KV kvs vs ∧ h.DictOf (mixKind P w) a vs
  | .dT kvs => kvs.length ≤ sizeLine ∧ (a == sysModules) = false ∧ ∃ xs : List (List Key × Addr × Value),
      Paired (fun (p : List Key × V) (q : List Key × Addr × Value) => p.1 = q.1 ∧ H q.2.1 = some (.tup (p.1.map kV)) ∧ RelV p.2 q.2.2) kvs xs ∧
      ∃ o es ep, h.get? a = some o ∧ o.ExactDict ∧ o.data = .dict es ep ∧ es.toList = xs.map (entryOfKey (tupleKind (mixKind P w))) ∧ (xs.map (·.1)).Nodup
  | .set S n => h.SetOf (intKind P w) a S n
  | .ins C dx fs => H dx = some (.own a) ∧ fs.length ≤ 1000 ∧ dx ≠ a ∧ h.get? a = some (PySem.W.instObj C dx) ∧
      ∃ mA, h.Ns1 dx mA ∧ (∀ f, RelO (fs.lookup f) (mA f)) ∧ PySem.Within mA (fs.map (·.1))
  | .own _ => ∃ o, h.get? a = some o
  | .xd fs => ∃ mA, h.Ns1 a mA ∧ ∀ f, RelO (fs.lookup f) (mA f)
  | .rng lo hi => ∃ t u v, h.get? a = some { cls := .type "range", data := .fields #[.int lo t, .int hi u, .int 1 v] }
  | .frz o u => h.get? a = some o ∧ ObjOk H h a u
  | .tbl ps => h.get? a = some { cls := .none, data := .fields ps }
  | .met f x => h.get? a = some (PySem.W.methodObj (.ref f) (.ref x))
  | .ext φ => φ h ∧ (∃ o, h.get? a = some o) ∧ ∀ h1 h2 : Heap, φ h1 → (∀ o, h1.get? a = some o → h2.get? a = some o) → φ h2
/-- the abstract heap is held -/
def HOk (H : Hp) (h : Heap) : Prop := ∀ a o, H a = some o → ObjOk P w H h a o
end

section
variable {P : Program} {w : World} {H H' : Hp} {h h' : Heap} {a : Addr} {o : HO}
theorem ObjOk.lt (x : ObjOk P w H h a o) : a < h.objs.size := by
  cases o with
  | lst xs => obtain ⟨_, _, _, _, e⟩ := x; exact Heap.lt_size e
  | tup xs => obtain ⟨_, _, _, p⟩ := x; exact p.lt
  | dK kvs => obtain ⟨_, _, _, _, o, _, _, e, _⟩ := x; exact Heap.lt_size e
  | dT kvs => obtain ⟨_, _, _, _, o, _, _, e, _⟩ := x; exact Heap.lt_size e
  | set S n => obtain ⟨o, _, _, _, e, _⟩ := x; exact Heap.lt_size e
  | ins C dx fs => obtain ⟨_, _, _, e, _⟩ := x; exact Heap.lt_size e
  | own y => obtain ⟨_, e⟩ := x; exact Heap.lt_size e
  | xd fs => obtain ⟨_, ⟨_, _, _, e, _⟩, _⟩ := x; exact Heap.lt_size e
  | rng lo hi => obtain ⟨_, _, _, e⟩ := x; exact Heap.lt_size e
  | frz ob u => obtain ⟨e, _⟩ := x; exact Heap.lt_size e
  | tbl ps => exact Heap.lt_size (show h.get? a = some _ from x)
  | met f y => exact Heap.lt_size (show h.get? a = some _ from x)
  | ext φ => obtain ⟨_, ⟨_, e⟩, _⟩ := x; exact Heap.lt_size e
theorem Paired.mapP {α β : Type} {F G : α → β → Prop} : ∀ {l₁ : List α} {l₂ : List β}, Paired F l₁ l₂ → (∀ a b, F a b → G a b) → Paired G l₁ l₂
  | _, _, .nil, _ => .nil
  | _, _, .cons r t, f => .cons (f _ _ r) (Paired.mapP t f)
/-- what an object's description leans on: its own object, its own dict, the tuples -/
theorem ObjOk.stay (x : ObjOk P w H h a o) (k : ∀ b u, (b = a ∨ H b = some (.own a)) → h.get? b = some u → h'.get? b = some u)
    (ho : ∀ b, H b = some (.own a) → H' b = some (.own a)) (ht : ∀ b xs, H b = some (.tup xs) → H' b = some (.tup xs)) : ObjOk P w H' h' a o := by
  induction o with
  | lst xs => obtain ⟨z, its, n, r, e⟩ := x; exact ⟨z, its, n, r, k _ _ (.inl rfl) e⟩
  | tup xs => obtain ⟨z, its, r, ob, e, c⟩ := x; exact ⟨z, its, r, ob, k _ _ (.inl rfl) e, c⟩
  | dK kvs => obtain ⟨z, y, vs, r, ob, es, ep, e, c⟩ := x; exact ⟨z, y, vs, r, ob, es, ep, k _ _ (.inl rfl) e, c⟩
  | dT kvs =>
    obtain ⟨z, y, xs, r, ob, es, ep, e, c⟩ := x
    exact ⟨z, y, xs, Paired.mapP r fun p q z => ⟨z.1, ht _ _ z.2.1, z.2.2⟩, ob, es, ep, k _ _ (.inl rfl) e, c⟩
  | set S n => obtain ⟨ob, es, ep, t, e, c⟩ := x; exact ⟨ob, es, ep, t, k _ _ (.inl rfl) e, c⟩
  | ins C dx fs =>
    obtain ⟨d, z, ne, e, mA, ⟨od, es, ep, e2, c⟩, r⟩ := x
    exact ⟨ho _ d, z, ne, k _ _ (.inl rfl) e, mA, ⟨od, es, ep, k _ _ (.inr d) e2, c⟩, r⟩
  | own y => obtain ⟨ob, e⟩ := x; exact ⟨ob, k _ _ (.inl rfl) e⟩
  | xd fs => obtain ⟨mA, ⟨od, es, ep, e, c⟩, r⟩ := x; exact ⟨mA, ⟨od, es, ep, k _ _ (.inl rfl) e, c⟩, r⟩
  | rng lo hi => obtain ⟨t, u, v, e⟩ := x; exact ⟨t, u, v, k _ _ (.inl rfl) e⟩
  | frz ob u ih => obtain ⟨e, q⟩ := x; exact ⟨k _ _ (.inl rfl) e, ih q⟩
  | tbl ps =>
    have e : h.get? a = some { cls := .none, data := .fields ps } := x
    show h'.get? a = some { cls := .none, data := .fields ps }
    exact k a _ (.inl rfl) e
  | met f y =>
    have e : h.get? a = some (PySem.W.methodObj (.ref f) (.ref y)) := x
    show h'.get? a = some (PySem.W.methodObj (.ref f) (.ref y))
    exact k a _ (.inl rfl) e
  | ext φ => obtain ⟨p, ⟨o, e⟩, st⟩ := x; exact ⟨st _ _ p fun o q => k _ _ (.inl rfl) q, ⟨o, k _ _ (.inl rfl) e⟩, st⟩
theorem HOk.lt (x : HOk P w H h) (e : H a = some o) : a < h.objs.size := (x a o e).lt
theorem HOk.fresh (x : HOk P w H h) (e : h.objs.size ≤ a) : H a = none := by
  cases q : H a with
  | none => rfl
  | some u => exact absurd (Nat.lt_of_lt_of_le (x.lt q) e) (Nat.lt_irrefl _)
/-- every object of the heap is kept -/
theorem HOk.kept (x : HOk P w H h) (k : ∀ b u, h.get? b = some u → h'.get? b = some u) : HOk P w H h' := fun a o e =>
  (x a o e).stay (fun b u _ q => k b u q) (fun _ q => q) fun _ _ q => q
/-- a new object is laid and tracked -/
theorem HOk.laid (x : HOk P w H h) (k : ∀ b u, h.get? b = some u → h'.get? b = some u) (hp : h.objs.size ≤ a) (new : ObjOk P w (upd H a o) h' a o) : HOk P w (upd H a o) h' := fun b u e => by
  have hn := x.fresh hp
  by_cases hb : b = a
  · subst hb; rw [upd_same] at e; cases e; exact new
  · rw [upd_ne hb] at e
    exact (x b u e).stay (fun c v _ q => k c v q) (fun c q => by rw [upd_ne (ne_of_none q hn)]; exact q) fun c xs q => by rw [upd_ne (ne_of_none q hn)]; exact q
end

/-- what may be read as u: it is u, or a known u -/
def Rd (H : Hp) (a : Addr) (u : HO) : Prop := H a = some u ∨ ∃ o, H a = some (.frz o u)
theorem Rd.of {H : Hp} {a : Addr} {u : HO} (h : H a = some u) : Rd H a u := .inl h
theorem Rd.ok {P : Program} {w : World} {H : Hp} {h : Heap} {a : Addr} {u : HO} (r : Rd H a u) (x : HOk P w H h) : ObjOk P w H h a u := by
  rcases r with r | ⟨o, r⟩
  · exact x a u r
  · obtain ⟨_, q⟩ := x a _ r
    exact q
/-- what may be written -/
def Mut : Option HO → Prop
  | some (.lst _) => True
  | some (.dK _) => True
  | some (.dT _) => True
  | some (.set _ _) => True
  | some (.ins _ _ _) => True
  | some (.ext _) => True
  | _ => False
section
variable {P : Program} {w : World} {H : Hp} {h h' : Heap} {x e : Addr} {o' : HO}
/-- the object at e is changed: x itself, or the dict of the instance x -/
theorem HOk.write (ok : HOk P w H h) (mu : Mut (H x)) (he : e = x ∨ H e = some (.own x)) (k : ∀ b u, b ≠ e → h.get? b = some u → h'.get? b = some u) (heo : ∃ u, h'.get? e = some u)
    (new : ObjOk P w (upd H x o') h' x o') : HOk P w (upd H x o') h' := fun b u q => by
  have nown : ∀ c y, H c = some (.own y) → c ≠ x := fun c y r z => by subst z; rw [r] at mu; exact mu
  have ntup : ∀ c xs, H c = some (.tup xs) → c ≠ x := fun c xs r z => by subst z; rw [r] at mu; exact mu
  by_cases hb : b = x
  · subst hb; rw [upd_same] at q; cases q; exact new
  · rw [upd_ne hb] at q
    by_cases hbe : b = e
    · have q' : H b = some (.own x) := by
        rcases he with z | z
        · exact absurd (hbe.trans z) hb
        · rw [hbe]; exact z
      rw [q] at q'; cases q'
      obtain ⟨v, hv⟩ := heo
      exact ⟨v, by rw [hbe]; exact hv⟩
    · refine (ok b u q).stay (fun c v hc r => k c v ?_ r) (fun c r => by rw [upd_ne (nown c b r)]; exact r) fun c xs r => by rw [upd_ne (ntup c xs r)]; exact r
      rcases hc with rfl | hc
      · exact hbe
      · rintro rfl
        rcases he with z | z
        · exact nown c b hc z
        · rw [hc] at z; cases z; exact hb rfl
end

/-! ### kept unless tracked; of the frames at fs (the callers') the slots may change (an exception that passes writes there); of the records at ex (iterators) nothing is said -/
structure Un (fs ex : List Addr) (H H' : Hp) (h h' : Heap) : Prop where
  keep : ∀ b o, h.get? b = some o → H b = none → b ∉ fs → b ∉ ex → h'.get? b = some o
  slot : ∀ b o, h.get? b = some o → H b = none → b ∈ fs → b ∉ ex → ∃ sl, h'.get? b = some { o with slots := sl }
  free : ∀ b o, h.get? b = some o → H b = none → b ∉ ex → H' b = none
  there : ∀ b o, h.get? b = some o → b ∉ ex → ∃ o', h'.get? b = some o'
  tups : ∀ b xs, H b = some (.tup xs) → H' b = some (.tup xs)
  frzs : ∀ b o u, H b = some (.frz o u) → H' b = some (.frz o u)
  tbls : ∀ b ps, H b = some (.tbl ps) → ∃ more, H' b = some (.tbl (ps ++ more))
section
variable {fs fs' ex ex' : List Addr} {H H1 H2 : Hp} {h h1 h2 h' : Heap} {a x e : Addr} {o : HO}
theorem Un.any (u : Un fs ex H H1 h h1) {b : Addr} {ob : Obj} (q : h.get? b = some ob) (n : H b = none) (hx : b ∉ ex) : ∃ sl, h1.get? b = some { ob with slots := sl } := by
  by_cases hb : b ∈ fs
  · exact u.slot b ob q n hb hx
  · exact ⟨ob.slots, u.keep b ob q n hb hx⟩
theorem Un.trans (a : Un fs ex H H1 h h1) (b : Un fs ex H1 H2 h1 h2) : Un fs ex H H2 h h2 where
  keep := fun c ob q n hc hx => b.keep c ob (a.keep c ob q n hc hx) (a.free c ob q n hx) hc hx
  slot := fun c ob q n hc hx => by
    obtain ⟨sl, e1⟩ := a.slot c ob q n hc hx
    obtain ⟨sl', e2⟩ := b.slot c _ e1 (a.free c ob q n hx) hc hx
    exact ⟨sl', e2⟩
  free := fun c ob q n hx => by
    obtain ⟨o', e1⟩ := a.there c ob q hx
    exact b.free c o' e1 (a.free c ob q n hx) hx
  there := fun c ob q hx => by
    obtain ⟨o', e1⟩ := a.there c ob q hx
    exact b.there c o' e1 hx
  tups := fun c xs q => b.tups c xs (a.tups c xs q)
  frzs := fun c ob xs q => b.frzs c ob xs (a.frzs c ob xs q)
  tbls := fun c ps q => by
    obtain ⟨m1, e1⟩ := a.tbls c ps q
    obtain ⟨m2, e2⟩ := b.tbls c _ e1
    exact ⟨m1 ++ m2, by rw [e2, Array.append_assoc]⟩
theorem Un.kept (k : ∀ b u, h.get? b = some u → h'.get? b = some u) : Un fs ex H H h h' :=
  ⟨fun b ob q _ _ _ => k b ob q, fun b ob q _ _ _ => ⟨ob.slots, k b ob q⟩, fun _ _ _ n _ => n, fun b ob q _ => ⟨ob, k b ob q⟩, fun _ _ q => q, fun _ _ _ q => q, fun _ ps q => ⟨#[], by rw [q]; simp⟩⟩
theorem Un.refl : Un fs ex H H h h := Un.kept fun _ _ q => q
theorem Un.laid (k : ∀ b u, h.get? b = some u → h'.get? b = some u) (hp : h.objs.size ≤ a) (hn : H a = none) : Un fs ex H (upd H a o) h h' where
  keep := fun b u q _ _ _ => k b u q
  slot := fun b u q _ _ _ => ⟨u.slots, k b u q⟩
  free := fun b u q n _ => by rw [upd_ne (Nat.ne_of_lt (Nat.lt_of_lt_of_le (Heap.lt_size q) hp))]; exact n
  there := fun b u q _ => ⟨u, k b u q⟩
  tups := fun b xs q => by rw [upd_ne (ne_of_none q hn)]; exact q
  frzs := fun b u xs q => by rw [upd_ne (ne_of_none q hn)]; exact q
  tbls := fun b ps q => ⟨#[], by rw [upd_ne (ne_of_none q hn), q]; simp⟩
theorem Un.write (mu : Mut (H x)) (he : e = x ∨ H e = some (.own x)) (k : ∀ b u, b ≠ e → h.get? b = some u → h'.get? b = some u) (heo : ∃ u, h'.get? e = some u) : Un fs ex H (upd H x o) h h' := by
  have hx : ∀ b, H b = none → b ≠ x := fun b n z => by subst z; rw [n] at mu; exact mu
  have hb : ∀ b, H b = none → b ≠ e := fun b n z => by
    subst z
    rcases he with r | r
    · exact hx b n r
    · rw [n] at r; cases r
  have hm : ∀ b u, H b = some u → ¬ Mut (some u) → b ≠ x := fun b u q nm z => by subst z; rw [q] at mu; exact nm mu
  refine ⟨fun b u q n _ _ => k b u (hb b n) q, fun b u q n _ _ => ⟨u.slots, k b u (hb b n) q⟩, fun b u q n _ => by rw [upd_ne (hx b n)]; exact n, fun b u q _ => ?_,
    fun b xs q => by rw [upd_ne (hm b _ q fun z => z)]; exact q, fun b u xs q => by rw [upd_ne (hm b _ q fun z => z)]; exact q, fun b ps q => ⟨#[], by rw [upd_ne (hm b _ q fun z => z), q]; simp⟩⟩
  by_cases hbe : b = e
  · subst hbe; exact heo
  · exact ⟨u, k b u hbe q⟩
theorem Un.mono (u : Un fs ex H H1 h h1) (hs : ∀ b ∈ fs, b ∈ fs') (hx : ∀ b ∈ ex, b ∈ ex') : Un fs' ex' H H1 h h1 :=
  ⟨fun b ob q n hb he => u.keep b ob q n (fun z => hb (hs b z)) fun z => he (hx b z), fun _ _ q n _ he => u.any q n fun z => he (hx _ z), fun b ob q n he => u.free b ob q n fun z => he (hx b z), fun b ob q he => u.there b ob q fun z => he (hx b z), u.tups, u.frzs, u.tbls⟩
end

/-! ### the heap without what is tracked -/
def trk (h : Heap) (H : Hp) : List Addr := (List.range h.objs.size).filter fun a => (H a).isSome
def hidT (h : Heap) (H : Hp) : Heap := PySem.W.hideAll h (trk h H)
theorem hidT_size (h : Heap) (H : Hp) : (hidT h H).objs.size = h.objs.size := PySem.W.hideAll_size _ _
theorem hidT_get {h : Heap} {H : Hp} {b : Addr} {o : Obj} (e : h.get? b = some o) (n : H b = none) : (hidT h H).get? b = some o :=
  PySem.W.hideAll_get _ e fun hm => by
    have q : (H b).isSome = true := (List.mem_filter.mp hm).2
    rw [n] at q; simp at q
theorem of_hidT {h : Heap} {H : Hp} {b : Addr} {o : Obj} (e : (hidT h H).get? b = some o) : h.get? b = some o ∧ H b = none := by
  have e' : h.get? b = some o := PySem.W.of_hideAll (trk h H) e
  refine ⟨e', ?_⟩
  cases q : H b with
  | none => rfl
  | some x =>
    have hm : b ∈ trk h H := List.mem_filter.mpr ⟨List.mem_range.mpr (Heap.lt_size e'), by simp [q]⟩
    have z : (hidT h H).get? b = none := PySem.W.hideAll_none (trk h H) hm
    rw [z] at e; cases e

/-! ### OpenK's ledger, filled with every new object but one -/
def allNews (g h : Heap) (L : Addr) : List (Addr × Obj) := (List.range h.objs.size).filterMap fun a => if a = L ∨ (g.get? a).isSome = true then none else (h.get? a).map fun o => (a, o)
def rest (g h : Heap) (L d : Addr) : List (Addr × Obj) := (allNews g h L).filter fun p => decide (p.1 ≠ d)
end L2

namespace L2
open PySem PySem.Spec PyProof.Rows

/-- the module's facts, over the base: the heap at the law's entry without what is tracked there -/
structure Mod (K : PySem.W.Frag) (mg : Str → Option Value) (base : Heap) : Prop where
  kin : K.In base
  glob : base.Ns mainGlobals mg
  blt : ∃ mb, base.Ns builtinsNs mb ∧ ∀ x : Str, x ≠ "__name__" → mb x = bootBuiltins x
  nolimit : base.NoLimit

/-- the context: a def's body (or a comprehension's block) running. base: fixed through the whole law; s₀, H₀: the entry; outer: the frames whose slots others may change (a def's callers); stack: all frames that run;
   ex: iterators that were made ahead of the entry and are walked here (a comprehension's); fn: the names whose cells were made at the entry (a def: all; a comprehension's block: its own); calm: not within an except suite; pn: pins that every state bears; xe: what is wanted of an exception that leaves the code -/
structure Cx where
  prog : Program
  w : World
  K : PySem.W.Frag
  mg : Str → Option Value
  base : Heap
  A : Around
  N : List Str
  s₀ : Shared
  H₀ : Hp
  env : Env
  outer : List Env
  stack : List Env
  ex : List Addr
  fn : Str → Bool
  calm : Bool
  pn : List (Addr × Obj)
  xe : Value → Shared → Prop
/-- the callers' frames -/
def frs (l : List Env) : List Addr := l.filterMap (·.frame)
abbrev Cx.fs (X : Cx) : List Addr := frs X.outer

def Vis (sc : Scope) (x : Str) : Prop := sc.names.lookup x = some .local ∨ sc.names.lookup x = some .cell ∨ sc.names.lookup x = some .free
def Loc (sc : Scope) (x : Str) : Prop := sc.names.lookup x = some .local ∨ sc.names.lookup x = some .cell
def Look (env : Env) (h : Heap) (m : Str → Option Value) (x : Str) (u : Value) : Prop :=
  (env.kindOf x = some .local ∧ m x = some u) ∨ ((env.kindOf x = some .cell ∨ env.kindOf x = some .free) ∧ ∃ c, env.cells.lookup x = some c ∧ h.IsCell c (some u))

structure Cx.Ok (X : Cx) : Prop where
  mod : Mod X.K X.mg X.base
  kind : X.env.scope.kind = .function
  glob : X.env.globals = mainGlobals
  blt : X.env.builtins = builtinsNs
  above : X.s₀.heap.objs.size ≤ X.env.locals
  inj : ∀ x y c, X.env.cells.lookup x = some c → X.env.cells.lookup y = some c → x = y
  has : ∀ x, (X.env.kindOf x = some .cell ∨ X.env.kindOf x = some .free) → ∃ c, X.env.cells.lookup x = some c
  cab : ∀ x c, X.fn x = true → X.env.cells.lookup x = some c → X.s₀.heap.objs.size ≤ c
  hd : X.calm = true → X.A.handled = none
  frames : X.A.frames = some X.stack
  stk : X.stack = X.outer ∨ (X.stack = X.env :: X.outer ∧ X.env.frame = some X.env.locals)
  exf : ∀ b ∈ X.ex, b ≠ X.env.locals ∧ ∀ x c, X.env.cells.lookup x = some c → c ≠ b
  bs : ∀ b o, X.base.get? b = some o → X.s₀.heap.get? b = some o ∧ X.H₀ b = none
  bsz : X.base.objs.size ≤ X.s₀.heap.objs.size
  noex : ∀ b o, X.base.get? b = some o → b ∉ X.ex
  exfs : ∀ b ∈ X.ex, b ∉ X.fs
  funs : X.s₀.heap.FunFrames X.base X.outer
  frf : ∀ b ∈ X.fs, X.H₀ b = none

structure Inv (X : Cx) (pins : List (Addr × Obj)) (σ : List (Option V)) (H : Hp) (s : Shared) : Prop where
  ok : X.Ok
  os : s.os = X.s₀.os
  bare : AllBare s.gens
  base : Un X.fs X.ex X.H₀ H X.s₀.heap s.heap
  loc : ∃ m, s.heap.Ns X.env.locals m ∧ ∀ (i : Nat) (x : Str) (v : V), X.N[i]? = some x → σ[i]? = some (some v) → Vis X.env.scope x → ∃ u, RelV v u ∧ Look X.env s.heap m x u
  cell : ∀ x c, X.env.cells.lookup x = some c → ∃ v, s.heap.IsCell c v
  free : H X.env.locals = none
  freeC : ∀ x c, X.env.cells.lookup x = some c → H c = none
  pin : ∀ p ∈ X.pn ++ pins, s.heap.get? p.1 = some p.2 ∧ H p.1 = none ∧ p.1 ≠ X.env.locals ∧ p.1 ∉ X.fs ∧ ∀ v, p.2.data ≠ .cell v
  hok : HOk X.prog X.w H s.heap
  len : σ.length = X.N.length

section
variable {X : Cx} {pins : List (Addr × Obj)} {σ : List (Option V)} {H H' : Hp} {s : Shared} {h' : Heap}

theorem Cx.Ok.nofr (ok : X.Ok) {b : Addr} {o : Obj} (e : X.base.get? b = some o) : b ∉ X.fs := fun hb => by
  have := (ok.funs.mem hb).1
  rw [e] at this; cases this
theorem Inv.bs (I : Inv X pins σ H s) : ∀ b o, X.base.get? b = some o → s.heap.get? b = some o ∧ H b = none := fun b o e =>
  ⟨I.base.keep b o (I.ok.bs b o e).1 (I.ok.bs b o e).2 (I.ok.nofr e) (I.ok.noex b o e), I.base.free b o (I.ok.bs b o e).1 (I.ok.bs b o e).2 (I.ok.noex b o e)⟩
theorem Inv.bk (I : Inv X pins σ H s) : ∀ b o, X.base.get? b = some o → s.heap.get? b = some o := fun b o e => (I.bs b o e).1
theorem Inv.mod (I : Inv X pins σ H s) : Mod X.K X.mg X.base := I.ok.mod
theorem Inv.kIn (I : Inv X pins σ H s) : X.K.In s.heap := I.ok.mod.kin.keeps I.bk
theorem Inv.nolimit (I : Inv X pins σ H s) : s.heap.NoLimit := I.ok.mod.nolimit.keeps I.bk
/-- the frame over the base: for OpenK's rules (K.In X.base is I.mod.kin) -/
theorem Inv.fr (I : Inv X pins σ H s) : ∃ m, Fr X.base X.env.locals s.heap m :=
  let ⟨m, hn, _⟩ := I.loc
  ⟨m, hn, I.bk, Nat.le_trans I.ok.bsz I.ok.above⟩
theorem Inv.lt (I : Inv X pins σ H s) : X.env.locals < s.heap.objs.size := let ⟨_, hn, _⟩ := I.loc; hn.lt
theorem Inv.sz (I : Inv X pins σ H s) : X.s₀.heap.objs.size ≤ s.heap.objs.size := Nat.le_trans I.ok.above (Nat.le_of_lt I.lt)
theorem Inv.nofs (I : Inv X pins σ H s) {a : Addr} (h : s.heap.objs.size ≤ a) : a ∉ X.fs := fun hb => by
  obtain ⟨_, o, ho, _⟩ := I.ok.funs.mem hb
  exact absurd (Nat.lt_of_lt_of_le (Heap.lt_size ho) (Nat.le_trans I.sz h)) (Nat.lt_irrefl _)
theorem Inv.cne (I : Inv X pins σ H s) : ∀ x c, X.env.cells.lookup x = some c → c ≠ X.env.locals := fun x c e z => by
  obtain ⟨v, o, ho, hd⟩ := I.cell x c e
  obtain ⟨m, ⟨o', es, ep, ho', hd', _⟩, _⟩ := I.loc
  rw [z, ho'] at ho; cases ho; rw [hd'] at hd; cases hd
theorem Inv.funs (I : Inv X pins σ H s) : s.heap.FunFrames X.base X.outer := by
  have all : ∀ (l : List Env), (∀ b ∈ frs l, b ∈ X.fs) → X.s₀.heap.FunFrames X.base l → s.heap.FunFrames X.base l := by
    intro l
    induction l with
    | nil => intro _ _; trivial
    | cons env r ih =>
      intro hs hl
      obtain ⟨hk, ⟨L, o, hf, hn, ho, hd⟩, hr⟩ := hl
      have hL : L ∈ X.fs := hs L (by unfold frs; rw [List.filterMap_cons, hf]; exact List.mem_cons_self)
      obtain ⟨sl, e⟩ := I.base.slot L o ho (I.ok.frf L hL) hL fun z => I.ok.exfs L z hL
      exact ⟨hk, ⟨L, _, hf, hn, e, hd⟩, ih (fun b hb => hs b (by unfold frs; rw [List.filterMap_cons, hf]; exact List.mem_cons_of_mem _ hb)) hr⟩
  exact all X.outer (fun _ hb => hb) I.ok.funs

/-- the frames that run, for a call -/
theorem Inv.stack (I : Inv X pins σ H s) : s.heap.FunFrames X.base X.stack := by
  rcases I.ok.stk with e | ⟨e, hf⟩
  · rw [e]; exact I.funs
  · rw [e]
    obtain ⟨m, hn, _⟩ := I.loc
    refine .cons (by rw [I.ok.kind]; decide) hf hn ?_ I.funs
    exact Heap.get?_none_of_le (Nat.le_trans I.ok.bsz I.ok.above)
theorem Inv.stkSub (I : Inv X pins σ H s) : ∀ b ∈ frs X.stack, b ∈ X.env.locals :: X.fs := fun b hb => by
  rcases I.ok.stk with e | ⟨e, hf⟩
  · rw [e] at hb; exact List.mem_cons_of_mem _ hb
  · rw [e] at hb
    unfold frs at hb
    rw [List.filterMap_cons, hf] at hb
    exact hb
theorem Inv.stkFree (I : Inv X pins σ H s) : ∀ b ∈ frs X.stack, H b = none := fun b hb => by
  rcases List.mem_cons.mp (I.stkSub b hb) with e | hb
  · rw [e]; exact I.free
  · obtain ⟨_, o, ho, _⟩ := I.ok.funs.mem hb
    exact I.base.free b o ho (I.ok.frf b hb) fun z => I.ok.exfs b z hb

/-- THE STEP: the untracked objects but the frame and the records at ch are kept (the callers' frames up to slots), the frame's map is kept, the new abstract heap is held -/
theorem Inv.step {g' : Array GenState} {t' : Nat} {d' : Drawn} {ch : List Addr} (I : Inv X pins σ H s)
    (hch : ∀ b ∈ ch, (b ∈ X.ex ∨ X.s₀.heap.objs.size ≤ b) ∧ b ≠ X.env.locals ∧ (∀ x c, X.env.cells.lookup x = some c → c ≠ b) ∧ ∀ p ∈ X.pn ++ pins, p.1 ≠ b)
    (keep : ∀ b o, b ≠ X.env.locals → b ∉ X.fs → b ∉ ch → s.heap.get? b = some o → H b = none → h'.get? b = some o)
    (slot : ∀ b o, b ≠ X.env.locals → b ∈ X.fs → b ∉ ch → s.heap.get? b = some o → H b = none → ∃ sl, h'.get? b = some { o with slots := sl }) (free : ∀ b o, b ∉ ch → s.heap.get? b = some o → H b = none → H' b = none)
    (there : ∀ b o, b ∉ ch → s.heap.get? b = some o → ∃ o', h'.get? b = some o')
    (tups : ∀ b xs, H b = some (.tup xs) → H' b = some (.tup xs)) (frzs : ∀ b o u, H b = some (.frz o u) → H' b = some (.frz o u)) (tbls : ∀ b ps, H b = some (.tbl ps) → ∃ more, H' b = some (.tbl (ps ++ more)))
    (ns : ∀ m, s.heap.Ns X.env.locals m → h'.Ns X.env.locals m) (hok : HOk X.prog X.w H' h') (hg : AllBare g') :
    Inv X pins σ H' { s with heap := h', gens := g', drawn := d', toks := t' } := by
  have neL : ∀ b o, X.s₀.heap.get? b = some o → b ≠ X.env.locals := fun b o e => Nat.ne_of_lt (Nat.lt_of_lt_of_le (Heap.lt_size e) I.ok.above)
  have neC : ∀ b o, X.s₀.heap.get? b = some o → b ∉ X.ex → b ∉ ch := fun b o e hx hb => by
    rcases (hch b hb).1 with z | z
    · exact hx z
    · exact absurd (Nat.lt_of_lt_of_le (Heap.lt_size e) z) (Nat.lt_irrefl _)
  have cellK : ∀ x c, X.env.cells.lookup x = some c → ∀ v, s.heap.IsCell c v → h'.IsCell c v := fun x c e v ⟨o, ho, hd⟩ => by
    have nch : c ∉ ch := fun z => (hch c z).2.2.1 x c e rfl
    by_cases hc : c ∈ X.fs
    · obtain ⟨sl, q⟩ := slot c o (I.cne x c e) hc nch ho (I.freeC x c e)
      exact ⟨_, q, hd⟩
    · exact ⟨o, keep c o (I.cne x c e) hc nch ho (I.freeC x c e), hd⟩
  refine ⟨I.ok, I.os, hg, ⟨fun b o e n hb hx => ?_, fun b o e n hb hx => ?_, fun b o e n hx => ?_, fun b o e hx => ?_, fun b xs e => tups b xs (I.base.tups b xs e), fun b o xs e => frzs b o xs (I.base.frzs b o xs e), fun b ps e => ?_⟩, ?_, fun x c e => ?_, ?_, fun x c e => ?_, fun p hp => ?_, hok, I.len⟩
  · exact keep b o (neL b o e) hb (neC b o e hx) (I.base.keep b o e n hb hx) (I.base.free b o e n hx)
  · obtain ⟨sl, e1⟩ := I.base.slot b o e n hb hx
    obtain ⟨sl', e2⟩ := slot b _ (neL b o e) hb (neC b o e hx) e1 (I.base.free b o e n hx)
    exact ⟨sl', e2⟩
  · obtain ⟨o', e1⟩ := I.base.there b o e hx
    exact free b o' (neC b o e hx) e1 (I.base.free b o e n hx)
  · obtain ⟨o', e1⟩ := I.base.there b o e hx
    exact there b o' (neC b o e hx) e1
  · obtain ⟨m1, e1⟩ := I.base.tbls b ps e
    obtain ⟨m2, e2⟩ := tbls b _ e1
    exact ⟨m1 ++ m2, by rw [e2, Array.append_assoc]⟩
  · obtain ⟨m, hn, hl⟩ := I.loc
    refine ⟨m, ns m hn, fun i x v e1 e2 e3 => ?_⟩
    obtain ⟨u, r, l⟩ := hl i x v e1 e2 e3
    refine ⟨u, r, ?_⟩
    rcases l with l | ⟨k, c, e, z⟩
    · exact .inl l
    · exact .inr ⟨k, c, e, cellK x c e _ z⟩
  · obtain ⟨v, z⟩ := I.cell x c e
    exact ⟨v, cellK x c e v z⟩
  · obtain ⟨m, ⟨o, _, _, ho, _⟩, _⟩ := I.loc
    exact free _ o (fun z => (hch _ z).2.1 rfl) ho I.free
  · obtain ⟨v, o, ho, hd⟩ := I.cell x c e
    exact free c o (fun z => (hch c z).2.2.1 x c e rfl) ho (I.freeC x c e)
  · obtain ⟨e, n, ne, nf, d⟩ := I.pin p hp
    have nch : p.1 ∉ ch := fun z => (hch p.1 z).2.2.2 p hp rfl
    exact ⟨keep p.1 p.2 ne nf nch e n, free p.1 p.2 nch e n, ne, nf, d⟩
/-- .. where the frame's own object is kept too -/
theorem Inv.un {t' : Nat} (I : Inv X pins σ H s) (u : Un X.fs [] H H' s.heap h') (hok : HOk X.prog X.w H' h') : Inv X pins σ H' { s with heap := h', toks := t' } := by
  obtain ⟨m, ⟨o, es, ep, ho, r⟩, _⟩ := id I.loc
  obtain ⟨sl, hL⟩ := u.any ho I.free (by simp)
  exact I.step (g' := s.gens) (d' := s.drawn) (ch := []) (fun _ z => nomatch z) (fun b o _ hb _ e n => u.keep b o e n hb (by simp)) (fun b o _ hb _ e n => u.slot b o e n hb (by simp)) (fun b o _ e n => u.free b o e n (by simp)) (fun b o _ e => u.there b o e (by simp)) u.tups u.frzs u.tbls (fun m' hm => by
    obtain ⟨o', es', ep', ho', r'⟩ := hm
    rw [ho] at ho'; cases ho'
    exact ⟨_, es', ep', hL, r'⟩) hok I.bare
/-- behind a call (or a comprehension's block): the slots of this frame may have changed too, the records at ch may have turned -/
theorem Inv.call {g' : Array GenState} {t' : Nat} {d' : Drawn} {ch : List Addr} (I : Inv X pins σ H s) (u : Un (frs X.stack) ch H H' s.heap h') (hok : HOk X.prog X.w H' h') (hg : AllBare g')
    (hch : ∀ b ∈ ch, (b ∈ X.ex ∨ X.s₀.heap.objs.size ≤ b) ∧ b ≠ X.env.locals ∧ (∀ x c, X.env.cells.lookup x = some c → c ≠ b) ∧ ∀ p ∈ X.pn ++ pins, p.1 ≠ b) :
    Inv X pins σ H' { s with heap := h', gens := g', drawn := d', toks := t' } := by
  obtain ⟨m, ⟨o, es, ep, ho, r⟩, _⟩ := id I.loc
  obtain ⟨sl, hL⟩ := u.any ho I.free fun z => (hch _ z).2.1 rfl
  exact I.step (ch := ch) hch (fun b o hL hb hc e n => u.keep b o e n (fun z => (List.mem_cons.mp (I.stkSub b z)).elim hL hb) hc) (fun b o _ _ hc e n => u.any e n hc) (fun b o hc e n => u.free b o e n hc) (fun b o hc e => u.there b o e hc) u.tups u.frzs u.tbls (fun m' hm => by
    obtain ⟨o', es', ep', ho', r'⟩ := hm
    rw [ho] at ho'; cases ho'
    exact ⟨_, es', ep', hL, r'⟩) hok hg
/-- an untracked record of ours (an iterator) has turned -/
theorem Inv.turned {t' : Nat} {it : Addr} (I : Inv X pins σ H s) (k : ∀ b o, b ≠ it → s.heap.get? b = some o → h'.get? b = some o) (hn : H it = none) (hL : it ≠ X.env.locals)
    (h1 : it ∈ X.ex ∨ X.s₀.heap.objs.size ≤ it) (h2 : ∀ x c, X.env.cells.lookup x = some c → c ≠ it) (h3 : ∀ p ∈ X.pn ++ pins, p.1 ≠ it) : Inv X pins σ H { s with heap := h', toks := t' } := by
  have nit : ∀ b u, H b = some u → b ≠ it := fun b u e z => by rw [z, hn] at e; cases e
  refine I.step (g' := s.gens) (d' := s.drawn) (ch := [it]) (fun b hb => ?_) (fun b o _ _ hc e _ => k b o (fun z => hc (by simp [z])) e) (fun b o _ _ hc e _ => ⟨o.slots, k b o (fun z => hc (by simp [z])) e⟩) (fun _ _ _ _ n => n)
    (fun b o hc e => ⟨o, k b o (fun z => hc (by simp [z])) e⟩) (fun _ _ e => e) (fun _ _ _ e => e) (fun b ps e => ⟨#[], by rw [e]; simp⟩) (fun m hm => ?_) (fun b u e => ?_) I.bare
  · have e : b = it := by simpa using hb
    subst e
    exact ⟨h1, hL, h2, h3⟩
  · obtain ⟨o, es, ep, ho, r⟩ := hm
    exact ⟨o, es, ep, k _ o (Ne.symm hL) ho, r⟩
  · refine (I.hok b u e).stay (fun c v hc q => k c v ?_ q) (fun _ q => q) fun _ _ q => q
    rcases hc with z | z
    · rw [z]; exact nit b u e
    · exact nit c _ z
theorem Inv.tok (I : Inv X pins σ H s) (t : Nat) : Inv X pins σ H { s with toks := t } := I.un (h' := s.heap) (t' := t) Un.refl I.hok
/-- all objects kept -/
theorem Inv.kept {t' : Nat} (I : Inv X pins σ H s) (k : ∀ b u, s.heap.get? b = some u → h'.get? b = some u) : Inv X pins σ H { s with heap := h', toks := t' } := I.un (Un.kept k) (I.hok.kept k)
/-- a new object laid and tracked -/
theorem Inv.laid {a : Addr} {o : HO} {t' : Nat} (I : Inv X pins σ H s) (k : ∀ b u, s.heap.get? b = some u → h'.get? b = some u) (hp : s.heap.objs.size ≤ a) (new : ObjOk X.prog X.w (upd H a o) h' a o) :
    Inv X pins σ (upd H a o) { s with heap := h', toks := t' } := I.un (Un.laid k hp (I.hok.fresh hp)) (I.hok.laid k hp new)
/-- an object written -/
theorem Inv.write {x e : Addr} {o : HO} {t' : Nat} (I : Inv X pins σ H s) (mu : Mut (H x)) (he : e = x ∨ H e = some (.own x)) (k : ∀ b u, b ≠ e → s.heap.get? b = some u → h'.get? b = some u) (heo : ∃ u, h'.get? e = some u)
    (new : ObjOk X.prog X.w (upd H x o) h' x o) : Inv X pins σ (upd H x o) { s with heap := h', toks := t' } := I.un (Un.write mu he k heo) (I.hok.write mu he k heo new)
/-- forgetting slots, pins -/
theorem Inv.weak {σ' : List (Option V)} (I : Inv X pins σ H s) (hl : σ'.length = σ.length) (w : ∀ (i : Nat) v, σ'[i]? = some (some v) → σ[i]? = some (some v)) : Inv X pins σ' H s :=
  ⟨I.ok, I.os, I.bare, I.base, let ⟨m, hn, hl'⟩ := I.loc; ⟨m, hn, fun i x v e1 e2 e3 => hl' i x v e1 (w i v e2) e3⟩, I.cell, I.free, I.freeC, I.pin, I.hok, hl.trans I.len⟩
theorem Inv.pins_of {pins' : List (Addr × Obj)} (I : Inv X pins σ H s) (h : ∀ p ∈ pins', s.heap.get? p.1 = some p.2 ∧ H p.1 = none ∧ p.1 ≠ X.env.locals ∧ p.1 ∉ X.fs ∧ ∀ v, p.2.data ≠ .cell v) : Inv X pins' σ H s :=
  ⟨I.ok, I.os, I.bare, I.base, I.loc, I.cell, I.free, I.freeC, fun p hp => (List.mem_append.mp hp).elim (fun z => I.pin p (List.mem_append_left _ z)) (h p), I.hok, I.len⟩

theorem nodup_ix {N : List Str} (hN : N.Nodup) {i j : Nat} {x : Str} (a : N[i]? = some x) (b : N[j]? = some x) : i = j := by
  obtain ⟨h1, e1⟩ := List.getElem?_eq_some_iff.mp a
  obtain ⟨h2, e2⟩ := List.getElem?_eq_some_iff.mp b
  exact (List.getElem_inj hN).mp (e1.trans e2.symm)

/-- a name is stored; what changed -/
theorem store_ok2 {M : Model} {A : Around} {E : Value → Shared → Prop} {i : Nat} {x : Str} {v : V} {u : Value} {Q : Unit → Shared → Prop} (I : Inv X pins σ H s) (hN : X.N.Nodup) (hi : X.N[i]? = some x) (hx : Loc X.env.scope x) (r : RelV v u)
    (h : ∀ s', Inv X pins (σ.set i (some v)) H s' → (∃ a, Heap.SameBut a s.heap s'.heap ∧ (a = X.env.locals ∨ X.env.cells.lookup x = some a)) → Q () s') (hf : X.fn x = true ∨ X.env.scope.names.lookup x = some .local := by first | exact .inl rfl | exact .inr rfl | assumption) : wpAny M A (storeName X.env x u) Q E s := by
  obtain ⟨m, hn, hl⟩ := id I.loc
  have hcls : (X.env.scope.kind == .class || (X.env.scope.kind == .module && X.env.locals != X.env.globals)) = false := by rw [I.ok.kind]; rfl
  have hiσ : i < σ.length := by rw [I.len]; exact (List.getElem?_eq_some_iff.mp hi).1
  have cne := I.cne
  have tracked : ∀ {a : Addr} {h' : Heap}, (∃ o, s.heap.get? a = some o ∧ H a = none) → Heap.SameBut a s.heap h' → HOk X.prog X.w H h' := fun {a h'} ha hs b ob e => by
    obtain ⟨_, _, hfree⟩ := ha
    refine (I.hok b ob e).stay (fun c w' hc q => (hs.2 c ?_).trans q) (fun _ q => q) fun _ _ q => q
    rintro rfl
    rcases hc with rfl | hc
    · rw [hfree] at e; cases e
    · rw [hfree] at hc; cases hc
  rcases hx with hk | hk
  · refine wpAny_storeName_local hk hn (fun h' hn' hs => ?_) hcls
    obtain ⟨oL, _, _, hoL, _⟩ := id hn
    refine h _ ⟨I.ok, I.os, I.bare, ⟨fun b o e n hb hx => ?_, fun b o e n hb hx => ?_, I.base.free, fun b o e hx => ?_, I.base.tups, I.base.frzs, I.base.tbls⟩, ⟨_, hn', fun j y v' e1 e2 e3 => ?_⟩, fun y c e => ?_, I.free, I.freeC, fun p hp => ?_, tracked ⟨oL, hoL, I.free⟩ hs, by simpa using I.len⟩ ⟨_, hs, .inl rfl⟩
    · exact (hs.2 b (Nat.ne_of_lt (Nat.lt_of_lt_of_le (Heap.lt_size e) I.ok.above))).trans (I.base.keep b o e n hb hx)
    · obtain ⟨sl, e1⟩ := I.base.slot b o e n hb hx
      exact ⟨sl, (hs.2 b (Nat.ne_of_lt (Nat.lt_of_lt_of_le (Heap.lt_size e) I.ok.above))).trans e1⟩
    · obtain ⟨o', e1⟩ := I.base.there b o e hx
      exact ⟨o', (hs.2 b (Nat.ne_of_lt (Nat.lt_of_lt_of_le (Heap.lt_size e) I.ok.above))).trans e1⟩
    · by_cases hj : j = i
      · subst hj
        rw [hi] at e1; cases e1
        rw [List.getElem?_set_self hiσ] at e2
        cases e2
        exact ⟨u, r, .inl ⟨hk, by simp⟩⟩
      · rw [List.getElem?_set_ne (Ne.symm hj)] at e2
        obtain ⟨u', r', q⟩ := hl j y v' e1 e2 e3
        refine ⟨u', r', ?_⟩
        rcases q with ⟨k, e⟩ | ⟨k, c, e, z⟩
        · refine .inl ⟨k, ?_⟩
          have : y ≠ x := fun e => hj (nodup_ix hN e1 (e ▸ hi))
          simp [this, e]
        · exact .inr ⟨k, c, e, z.sameBut hs (cne y c e)⟩
    · obtain ⟨w', z⟩ := I.cell y c e
      exact ⟨w', z.sameBut hs (cne y c e)⟩
    · obtain ⟨e, n, ne, nf, d⟩ := I.pin p hp
      exact ⟨(hs.2 p.1 ne).trans e, n, ne, nf, d⟩
  · have hfn : X.fn x = true := by
      rcases hf with z | z
      · exact z
      · rw [z] at hk; cases hk
    obtain ⟨c, hc⟩ := I.ok.has x (.inl hk)
    obtain ⟨w', z⟩ := I.cell x c hc
    refine wpAny_storeName_cell I.ok.kind hk hc z (fun h' hc' hs => ?_)
    obtain ⟨oc, hoc, hocd⟩ := id z
    refine h { s with heap := h' } ⟨I.ok, I.os, I.bare, ⟨fun b o e n hb hx => ?_, fun b o e n hb hx => ?_, I.base.free, fun b o e hx => ?_, I.base.tups, I.base.frzs, I.base.tbls⟩, ⟨m, hn.sameBut hs (Ne.symm (cne x c hc)), fun j y v' e1 e2 e3 => ?_⟩, fun y c' e => ?_, I.free, I.freeC, fun p hp => ?_, tracked ⟨oc, hoc, I.freeC x c hc⟩ hs, by simpa using I.len⟩ ⟨c, hs, .inr hc⟩
    · exact (hs.2 b (Nat.ne_of_lt (Nat.lt_of_lt_of_le (Heap.lt_size e) (I.ok.cab x c hfn hc)))).trans (I.base.keep b o e n hb hx)
    · obtain ⟨sl, e1⟩ := I.base.slot b o e n hb hx
      exact ⟨sl, (hs.2 b (Nat.ne_of_lt (Nat.lt_of_lt_of_le (Heap.lt_size e) (I.ok.cab x c hfn hc)))).trans e1⟩
    · obtain ⟨o', e1⟩ := I.base.there b o e hx
      exact ⟨o', (hs.2 b (Nat.ne_of_lt (Nat.lt_of_lt_of_le (Heap.lt_size e) (I.ok.cab x c hfn hc)))).trans e1⟩
    · by_cases hj : j = i
      · subst hj
        rw [hi] at e1; cases e1
        rw [List.getElem?_set_self hiσ] at e2
        cases e2
        exact ⟨u, r, .inr ⟨.inl hk, c, hc, hc'⟩⟩
      · rw [List.getElem?_set_ne (Ne.symm hj)] at e2
        obtain ⟨u', r', q⟩ := hl j y v' e1 e2 e3
        refine ⟨u', r', ?_⟩
        rcases q with q | ⟨k, c', e, z'⟩
        · exact .inl q
        · refine .inr ⟨k, c', e, z'.sameBut hs ?_⟩
          rintro rfl
          exact hj (nodup_ix hN e1 (I.ok.inj _ _ _ e hc ▸ hi))
    · by_cases hcc : c' = c
      · subst hcc; exact ⟨_, hc'⟩
      · obtain ⟨w2, z2⟩ := I.cell y c' e
        exact ⟨w2, z2.sameBut hs hcc⟩
    · obtain ⟨e, n, ne, nf, d⟩ := I.pin p hp
      refine ⟨(hs.2 p.1 ?_).trans e, n, ne, nf, d⟩
      intro q
      rw [q, hoc] at e
      have q' : oc = p.2 := Option.some.inj e
      exact d w' (by rw [← q']; exact hocd)
theorem store_ok {M : Model} {A : Around} {E : Value → Shared → Prop} {i : Nat} {x : Str} {v : V} {u : Value} {Q : Unit → Shared → Prop} (I : Inv X pins σ H s) (hN : X.N.Nodup) (hi : X.N[i]? = some x) (hx : Loc X.env.scope x) (r : RelV v u)
    (h : ∀ s', Inv X pins (σ.set i (some v)) H s' → Q () s') (hf : X.fn x = true ∨ X.env.scope.names.lookup x = some .local := by first | exact .inl rfl | exact .inr rfl | assumption) : wpAny M A (storeName X.env x u) Q E s :=
  store_ok2 I hN hi hx r (fun s' I' _ => h s' I') hf
/-- behind a call or a block, the state as it is -/
theorem Inv.call' {s' : Shared} {ch : List Addr} (I : Inv X pins σ H s) (ho : s'.os = s.os) (u : Un (frs X.stack) ch H H' s.heap s'.heap) (hok : HOk X.prog X.w H' s'.heap) (hg : AllBare s'.gens)
    (hch : ∀ b ∈ ch, (b ∈ X.ex ∨ X.s₀.heap.objs.size ≤ b) ∧ b ≠ X.env.locals ∧ (∀ x c, X.env.cells.lookup x = some c → c ≠ b) ∧ ∀ p ∈ X.pn ++ pins, p.1 ≠ b) : Inv X pins σ H' s' := by
  obtain ⟨h', g', d', t', o'⟩ := s'
  have e : o' = s.os := ho
  subst e
  exact I.call (g' := g') (t' := t') (d' := d') u hok hg hch
end

/-! ### the judgements -/
/-- an exception: its class, its own dict's address (where it has one), the abstract heap behind it -/
abbrev XK := Value → Option Addr → Hp → Prop
abbrev St := List (Option V)
abbrev VK := V → Hp → Prop
/-- an expression's reading; a test's; an argument list's -/
abbrev TE := St → Hp → VK → Prop
abbrev TT := St → Hp → (Bool → Hp → Prop) → Prop
abbrev TA := St → Hp → (List V → Hp → Prop) → Prop
/-- what is wanted behind a statement -/
structure Ends where
  nx : St → Hp → Prop
  rt : VK
  bk : St → Hp → Prop := fun _ _ => False
  ct : St → Hp → Prop := fun _ _ => False
abbrev TS := Ends → St → Hp → Prop

def EP (X : Cx) (pins : List (Addr × Obj)) (σ : St) (Q : VK) (u : Value) (s' : Shared) : Prop := ∃ v H', Inv X pins σ H' s' ∧ RelV v u ∧ Q v H'
def TP (X : Cx) (pins : List (Addr × Obj)) (σ : St) (Q : Bool → Hp → Prop) (b : Bool) (s' : Shared) : Prop := ∃ H', Inv X pins σ H' s' ∧ Q b H'
def AP (X : Cx) (pins : List (Addr × Obj)) (σ : St) (Q : List V → Hp → Prop) (us : List Value) (s' : Shared) : Prop := ∃ vs H', Inv X pins σ H' s' ∧ Vals vs us ∧ Q vs H'
def SP (X : Cx) (pins : List (Addr × Obj)) (D : Ends) (f : Flow) (s' : Shared) : Prop :=
  match f with
  | .next => ∃ σ' H', Inv X pins σ' H' s' ∧ D.nx σ' H'
  | .brk => ∃ σ' H', Inv X pins σ' H' s' ∧ D.bk σ' H'
  | .cont => ∃ σ' H', Inv X pins σ' H' s' ∧ D.ct σ' H'
  | .ret u => ∃ v σ' H', Inv X pins σ' H' s' ∧ RelV v u ∧ D.rt v H'

def PE (X : Cx) (e : Expr) (t : TE) : Prop :=
  ∀ (pins : List (Addr × Obj)) (s : Shared) (σ : St) (H : Hp) (Q : VK), Inv X pins σ H s → t σ H Q → wpAny (model X.prog X.w) X.A (eval e X.env) (EP X pins σ Q) X.xe s
def PT (X : Cx) (e : Expr) (t : TT) : Prop :=
  ∀ (pins : List (Addr × Obj)) (s : Shared) (σ : St) (H : Hp) (Q : Bool → Hp → Prop), Inv X pins σ H s → t σ H Q → wpAny (model X.prog X.w) X.A (isTrue e X.env (eval e X.env)) (TP X pins σ Q) X.xe s
/-- a test whatever its 'whole' is (and, or) -/
def PW (X : Cx) (e : Expr) (t : TT) : Prop :=
  ∀ (whole : Sem Value) (pins : List (Addr × Obj)) (s : Shared) (σ : St) (H : Hp) (Q : Bool → Hp → Prop), Inv X pins σ H s → t σ H Q → wpAny (model X.prog X.w) X.A (isTrue e X.env whole) (TP X pins σ Q) X.xe s
theorem PW.pt {X : Cx} {e : Expr} {t : TT} (h : PW X e t) : PT X e t := h _
/-- an argument list (no star), from the left -/
def PA (X : Cx) (es : List Expr) (t : TA) : Prop :=
  ∀ (pos : Pos) (pins : List (Addr × Obj)) (s : Shared) (σ : St) (H : Hp) (Q : List V → Hp → Prop), Inv X pins σ H s → t σ H Q → wpAny (model X.prog X.w) X.A (spliced (backTo pos (starEach es X.env))) (AP X pins σ Q) X.xe s
def PS (X : Cx) (st : Stmt) (t : TS) : Prop :=
  ∀ (pins : List (Addr × Obj)) (s : Shared) (σ : St) (H : Hp) (D : Ends), Inv X pins σ H s → t D σ H → wpAny (model X.prog X.w) X.A (exec st X.env) (SP X pins D) X.xe s
def PSs (X : Cx) (st : List Stmt) (t : TS) : Prop :=
  ∀ (pins : List (Addr × Obj)) (s : Shared) (σ : St) (H : Hp) (D : Ends), Inv X pins σ H s → t D σ H → wpAny (model X.prog X.w) X.A (execs st X.env) (SP X pins D) X.xe s
/-- weaken the end -/
theorem thn {α : Type} {t : Sem α} {Q Q' : α → Shared → Prop} {M : Model} {A : Around} {E : Value → Shared → Prop} {s : Shared} (h : wpAny M A t Q E s) (hQ : ∀ a s, Q a s → Q' a s) : wpAny M A t Q' E s := wpAny_mono h hQ fun _ _ x => x
end L2

namespace L2
open PySem PySem.Spec PyProof.Rows
section
variable {X : Cx}

/-! ### names and constants -/
def tVar (i : Nat) : TE := fun σ H Q => ∃ v, σ[i]? = some (some v) ∧ Q v H
def tC (v : V) : TE := fun _ H Q => Q v H
theorem pe_var {i : Nat} {x : Str} {pos : Pos} (hN : X.N[i]? = some x) (hv : Vis X.env.scope x) (hd : (x == ("__debug__" : Str)) = false := by decide) (hcd : (x == ("__classdict__" : Str)) = false := by decide) : PE X (.Name x pos) (tVar i) := by
  intro pins s σ H Q I h
  obtain ⟨v, e, h⟩ := h
  obtain ⟨m, hn, hl⟩ := I.loc
  obtain ⟨u, r, l⟩ := hl i x v hN e hv
  have fin : EP X pins σ Q u s := ⟨v, H, I, r, h⟩
  rcases l with ⟨hk, hm⟩ | ⟨hk, c, hc, hcell⟩
  · exact wpAny_Name (wpAny_loadName_local I.ok.kind hk hn hm fin) hd
  · rcases hk with hk | hk
    · exact wpAny_Name (wpAny_loadName_cell I.ok.kind hk hc hcell fin) hd
    · exact wpAny_Name (wpAny_loadName_free I.ok.kind hk hc hcell fin hcd) hd
theorem pe_int {i j pos} : PE X (.Constant (.int i) j pos) (tC (.int i)) := fun _ _ _ H _ I h => wpAny_Constant_int ⟨.int i, H, I.tok _, ⟨_, rfl⟩, h⟩
theorem pe_bl {b j pos} : PE X (.Constant (.bool b) j pos) (tC (.bl b)) := fun _ _ _ H _ I h => Constant_bool ⟨.bl b, H, I, rfl, h⟩
theorem pe_non {j pos} : PE X (.Constant .none j pos) (tC .non) := fun _ _ _ H _ I h => Constant_none ⟨.non, H, I, rfl, h⟩
theorem pe_str {x j pos} : PE X (.Constant (.str x) j pos) (tC (.str x)) := fun _ _ _ H _ I h => Calls.Constant_str ⟨.str x, H, I.tok _, ⟨_, rfl⟩, h⟩

/-- a global name of the def -/
def Gl (X : Cx) (x : Str) : Prop := X.env.kindOf x = some .globalImplicit
theorem ld_glob {E : Value → Shared → Prop} {pins : List (Addr × Obj)} {s : Shared} {σ : St} {H : Hp} {x : Str} {u : Value} {pos : Pos} {Q : Value → Shared → Prop} (I : Inv X pins σ H s) (hg : Gl X x) (hm : X.mg x = some u) (h : Q u s)
    (hd : (x == ("__debug__" : Str)) = false := by decide) : wpAny (model X.prog X.w) X.A (eval (.Name x pos) X.env) Q E s :=
  Calls.Name_function_global I.ok.kind hg (Calls.loadGlobal_global (by rw [I.ok.glob]; exact I.mod.glob.keeps I.bk) hm h) hd
theorem ld_blt {E : Value → Shared → Prop} {pins : List (Addr × Obj)} {s : Shared} {σ : St} {H : Hp} {x : Str} {u : Value} {pos : Pos} {Q : Value → Shared → Prop} (I : Inv X pins σ H s) (hg : Gl X x) (hm : X.mg x = none) (hv : bootBuiltins x = some u) (h : Q u s)
    (hn : x ≠ "__name__" := by decide) (hd : (x == ("__debug__" : Str)) = false := by decide) : wpAny (model X.prog X.w) X.A (eval (.Name x pos) X.env) Q E s := by
  obtain ⟨mb, h1, h2⟩ := I.mod.blt
  exact Calls.Name_function_global I.ok.kind hg (Calls.loadGlobal_builtin (by rw [I.ok.glob]; exact I.mod.glob.keeps I.bk) hm (by rw [I.ok.blt]; exact h1.keeps I.bk) ((h2 x hn).trans hv) h) hd
/-- a module's constant, a class, a function, as a value -/
theorem pe_glob {x : Str} {v : V} {u : Value} {pos : Pos} (hg : Gl X x) (hm : X.mg x = some u) (r : RelV v u) (hd : (x == ("__debug__" : Str)) = false := by decide) : PE X (.Name x pos) (tC v) :=
  fun _ _ _ H _ I h => ld_glob I hg hm ⟨v, H, I, r, h⟩ hd
theorem pe_bltn {x : Str} {v : V} {u : Value} {pos : Pos} (hg : Gl X x) (hm : X.mg x = none) (hv : bootBuiltins x = some u) (r : RelV v u) (hn : x ≠ "__name__" := by decide) (hd : (x == ("__debug__" : Str)) = false := by decide) : PE X (.Name x pos) (tC v) :=
  fun _ _ _ H _ I h => ld_blt I hg hm hv ⟨v, H, I, r, h⟩ hn hd

/-! ### arithmetic -/
variable {a b : Expr} {ta tb : TE} {pos : Pos}
/-! ### comparisons -/
/-- a comparison as a value, as a test -/
def tB (t : TE) : TT := fun σ H Q => t σ H fun x H1 => ∃ c, x = .bl c ∧ Q c H1
/-- an expression whose value is a bool, as a test -/
theorem pt_val {e : Expr} {t : TE} (h : PE X e t) (he : ∀ whole, isTrue e X.env whole = (do let v ← whole; standAt e.pos; holding [v] (truthy v)) := by intro _; rfl) : PT X e (tB t) := by
  intro pins s σ H Q I hw
  refine isTrue_plain (thn (h pins s σ H _ I hw) fun v s1 ⟨x, H1, I1, r1, q1⟩ => ?_) (he _)
  obtain ⟨d, rfl, q⟩ := q1
  cases r1
  exact wpAny_truthy_bool ⟨H1, I1, q⟩

/-! ### and, or, not -/
variable {tA tB' : TT} {rest : List Expr}
def tAnd (t u : TT) : TT := fun σ H Q => t σ H fun c H1 => if c = true then u σ H1 Q else Q false H1
def tOr (t u : TT) : TT := fun σ H Q => t σ H fun c H1 => if c = true then Q true H1 else u σ H1 Q
def tNot (t : TT) : TT := fun σ H Q => t σ H fun c H1 => Q (!c) H1
theorem pw_and1 (ha : PT X a tA) : PW X (.BoolOp .And [a] pos) tA := by
  intro wh pins s σ H Q I h
  refine isTrue_and (thn (ha pins s σ H Q I h) fun c s1 e => ?_)
  cases c with
  | true => exact isTrue_and_nil e
  | false => exact e
theorem pw_or1 (ha : PT X a tA) : PW X (.BoolOp .Or [a] pos) tA := by
  intro wh pins s σ H Q I h
  refine isTrue_or (thn (ha pins s σ H Q I h) fun c s1 e => ?_)
  cases c with
  | false => exact isTrue_or_nil e
  | true => exact e
theorem pw_and (ha : PT X a tA) (hb : PW X (.BoolOp .And (b :: rest) pos) tB') : PW X (.BoolOp .And (a :: b :: rest) pos) (tAnd tA tB') := by
  intro wh pins s σ H Q I h
  refine isTrue_and (thn (ha pins s σ H _ I h) fun c s1 ⟨H1, I1, q1⟩ => ?_)
  cases c with
  | true => exact hb wh pins s1 σ H1 Q I1 q1
  | false => exact ⟨H1, I1, q1⟩
theorem pw_or (ha : PT X a tA) (hb : PW X (.BoolOp .Or (b :: rest) pos) tB') : PW X (.BoolOp .Or (a :: b :: rest) pos) (tOr tA tB') := by
  intro wh pins s σ H Q I h
  refine isTrue_or (thn (ha pins s σ H _ I h) fun c s1 ⟨H1, I1, q1⟩ => ?_)
  cases c with
  | true => exact ⟨H1, I1, q1⟩
  | false => exact hb wh pins s1 σ H1 Q I1 q1
theorem pt_not (ha : PT X a tA) : PT X (.UnaryOp .Not a pos) (tNot tA) := by
  intro pins s σ H Q I h
  exact isTrue_not (ha pins s σ H (fun c H1 => Q (!c) H1) I h)
/-- .. as values (bools) -/
def tAndV (ta tb : TE) : TE := fun σ H Q => ta σ H fun x H1 => ∃ c, x = .bl c ∧ if c = true then tb σ H1 Q else Q (.bl false) H1
def tNotV (ta : TE) : TE := fun σ H Q => ta σ H fun x H1 => ∃ c, x = .bl c ∧ Q (.bl (!c)) H1
theorem pe_one {op} {t : TE} (h : PE X a t) : PE X (.BoolOp op [a] pos) t := fun pins s σ H Q I hw => BoolOp_one (h pins s σ H Q I hw)
theorem pe_and (ha : PE X a ta) (hb : PE X (.BoolOp .And (b :: rest) pos) tb) : PE X (.BoolOp .And (a :: b :: rest) pos) (tAndV ta tb) := by
  intro pins s σ H Q I h
  refine BoolOp_and (thn (ha pins s σ H _ I h) fun v s1 ⟨x, H1, I1, r1, q1⟩ => ?_)
  obtain ⟨c, rfl, q1⟩ := q1
  cases r1
  refine wpAny_truthy_bool ?_
  cases c with
  | true => exact hb pins s1 σ H1 Q I1 q1
  | false => exact ⟨.bl false, H1, I1, rfl, q1⟩
theorem pe_not (ha : PE X a ta) : PE X (.UnaryOp .Not a pos) (tNotV ta) := by
  intro pins s σ H Q I h
  refine UnaryOp_ (thn (ha pins s σ H _ I h) fun v s1 ⟨x, H1, I1, r1, q1⟩ => ?_)
  obtain ⟨c, rfl, q1⟩ := q1
  cases r1
  exact not_of (wpAny_truthy_bool ⟨.bl (!c), H1, I1, rfl, q1⟩)
/-- a if t else b -/
def tIf (t : TT) (ta tb : TE) : TE := fun σ H Q => t σ H fun c H1 => if c = true then ta σ H1 Q else tb σ H1 Q
theorem pe_ifExp {c : Expr} (hc : PT X c tA) (ha : PE X a ta) (hb : PE X b tb) : PE X (.IfExp c a b pos) (tIf tA ta tb) := by
  intro pins s σ H Q I h
  refine wpAny_IfExp (thn (hc pins s σ H _ I h) fun d s1 ⟨H1, I1, q1⟩ => ?_)
  cases d with
  | true => exact ha pins s1 σ H1 Q I1 q1
  | false => exact hb pins s1 σ H1 Q I1 q1
end
end L2

namespace L2
open PySem PySem.Spec PyProof.Rows

/-! ### a list, a tuple that is read: tracked, frozen, or an object of the module -/
def SqL (K : PySem.W.Frag) (H : Hp) (a : Addr) (xs : List V) : Prop :=
  Rd H a (.lst xs) ∨
    ∃ (o : Obj) (its : Array Value) (n : Nat), K.lookup a = some o ∧ o.cls = .type "list" ∧ o.dict = none ∧ o.data = .seq its n ∧ its.size ≤ sizeLine ∧ Vals xs its.toList
def SqT (K : PySem.W.Frag) (H : Hp) (a : Addr) (xs : List V) : Prop :=
  Rd H a (.tup xs) ∨
    ∃ (o : Obj) (its : Array Value) (n : Nat), K.lookup a = some o ∧ o.cls = .type "tuple" ∧ o.data = .seq its n ∧ its.size ≤ sizeLine ∧ Vals xs its.toList
def absV : Value → Option V
  | .none => some .non
  | .bool b => some (.bl b)
  | .int i _ => some (.int i)
  | .str x _ => some (.str x)
  | .bytes b _ => some (.byt b)
  | .float b _ => some (.flt b)
  | .ref a => some (.ref a)
  | .type n => some (.ty n)
  | _ => none
theorem RelV.abs {x : V} {u : Value} (r : RelV x u) : absV u = some x := by
  cases x with
  | non => cases r; rfl
  | bl _ => cases r; rfl
  | int _ => obtain ⟨t, rfl⟩ := r; rfl
  | str _ => obtain ⟨t, rfl⟩ := r; rfl
  | byt _ => obtain ⟨t, rfl⟩ := r; rfl
  | flt _ => obtain ⟨t, rfl⟩ := r; rfl
  | ref _ => cases r; rfl
  | ty _ => cases r; rfl
theorem RelV.inj {x y : V} {u : Value} (r : RelV x u) (q : RelV y u) : x = y := Option.some.inj (r.abs.symm.trans q.abs)
theorem Vals.inj : ∀ {xs ys : List V} {us : List Value}, Vals xs us → Vals ys us → xs = ys
  | _, _, _, .nil, .nil => rfl
  | _, _, _, .cons r t, .cons r' t' => by rw [r.inj r', Vals.inj t t']
section
variable {X : Cx} {pins : List (Addr × Obj)} {σ : St} {H : Hp} {s : Shared} {a : Addr} {xs ys : List V}
theorem SqL.of {K : PySem.W.Frag} (h : H a = some (.lst xs)) : SqL K H a xs := .inl (.inl h)
theorem SqT.of {K : PySem.W.Frag} (h : H a = some (.tup xs)) : SqT K H a xs := .inl (.inl h)
theorem Inv.list (I : Inv X pins σ H s) (h : SqL X.K H a xs) : ∃ its : List Value, Vals xs its ∧ PlainL s.heap a its.toArray ∧ xs.length ≤ sizeLine := by
  rcases h with h | ⟨o, its, n, hk, hc, hd, hs, hz, r⟩
  · obtain ⟨z, its, n, r, e⟩ := h.ok I.hok
    exact ⟨its, r, ⟨_, n, e, rfl, rfl, rfl⟩, z⟩
  · refine ⟨its.toList, r, ⟨o, n, I.kIn a o hk, hc, hd, by simpa using hs⟩, ?_⟩
    have e := r.length
    simp only [Array.length_toList] at e
    omega
theorem Inv.tuple (I : Inv X pins σ H s) (h : SqT X.K H a xs) : ∃ its : List Value, Vals xs its ∧ IsTup s.heap a its.toArray ∧ xs.length ≤ sizeLine := by
  rcases h with h | ⟨o, its, n, hk, hc, hs, hz, r⟩
  · obtain ⟨z, its, r, p⟩ := h.ok I.hok
    exact ⟨its, r, p, z⟩
  · refine ⟨its.toList, r, ⟨o, I.kIn a o hk, hc, n, by simpa using hs⟩, ?_⟩
    have e := r.length
    simp only [Array.length_toList] at e
    omega
theorem Inv.list_inj (I : Inv X pins σ H s) (h : SqL X.K H a xs) (h' : SqL X.K H a ys) : xs = ys := by
  obtain ⟨its, r, ⟨o, n, e, _, _, d⟩, _⟩ := I.list h
  obtain ⟨its', r', ⟨o', n', e', _, _, d'⟩, _⟩ := I.list h'
  rw [e] at e'; cases e'
  rw [d] at d'
  injection d' with d1 _
  have : its = its' := by simpa using congrArg Array.toList d1
  subst this
  exact r.inj r'
end

/-! ### another wish about exceptions -/
abbrev Cx.wish (X : Cx) (E : Value → Shared → Prop) : Cx := { X with xe := E }
/-- no exception leaves -/
abbrev Cx.nox (X : Cx) : Cx := X.wish fun _ _ => False
theorem Cx.Ok.wish {X : Cx} (ok : X.Ok) (E : Value → Shared → Prop) : (X.wish E).Ok :=
  ⟨ok.mod, ok.kind, ok.glob, ok.blt, ok.above, ok.inj, ok.has, ok.cab, ok.hd, ok.frames, ok.stk, ok.exf, ok.bs, ok.bsz, ok.noex, ok.exfs, ok.funs, ok.frf⟩
theorem Cx.Ok.unwish {X : Cx} {E : Value → Shared → Prop} (ok : (X.wish E).Ok) : X.Ok :=
  ⟨ok.mod, ok.kind, ok.glob, ok.blt, ok.above, ok.inj, ok.has, ok.cab, ok.hd, ok.frames, ok.stk, ok.exf, ok.bs, ok.bsz, ok.noex, ok.exfs, ok.funs, ok.frf⟩
section
variable {X : Cx} {pins : List (Addr × Obj)} {σ : St} {H : Hp} {s : Shared} {E : Value → Shared → Prop}
theorem Inv.wish (I : Inv X pins σ H s) (E : Value → Shared → Prop) : Inv (X.wish E) pins σ H s := ⟨I.ok.wish E, I.os, I.bare, I.base, I.loc, I.cell, I.free, I.freeC, I.pin, I.hok, I.len⟩
theorem Inv.unwish (I : Inv (X.wish E) pins σ H s) : Inv X pins σ H s := ⟨I.ok.unwish, I.os, I.bare, I.base, I.loc, I.cell, I.free, I.freeC, I.pin, I.hok, I.len⟩
theorem SP.unwish {D : Ends} {f : Flow} {s' : Shared} (h : SP (X.wish E) pins D f s') : SP X pins D f s' := by
  cases f with
  | next => obtain ⟨σ', H', I, q⟩ := h; exact ⟨σ', H', I.unwish, q⟩
  | brk => obtain ⟨σ', H', I, q⟩ := h; exact ⟨σ', H', I.unwish, q⟩
  | cont => obtain ⟨σ', H', I, q⟩ := h; exact ⟨σ', H', I.unwish, q⟩
  | ret u => obtain ⟨v, σ', H', I, r, q⟩ := h; exact ⟨v, σ', H', I.unwish, r, q⟩
theorem PE.nox {e : Expr} {t : TE} (h : PE X.nox e t) : PE X e t := fun pins s σ H Q I hw =>
  wpAny_mono (h pins s σ H Q (I.wish _) hw) (fun _ _ ⟨v, H', I', r, q⟩ => ⟨v, H', I'.unwish, r, q⟩) fun _ _ z => False.elim z
theorem PT.nox {e : Expr} {t : TT} (h : PT X.nox e t) : PT X e t := fun pins s σ H Q I hw =>
  wpAny_mono (h pins s σ H Q (I.wish _) hw) (fun _ _ ⟨H', I', q⟩ => ⟨H', I'.unwish, q⟩) fun _ _ z => False.elim z
theorem PSs.nox {st : List Stmt} {t : TS} (h : PSs X.nox st t) : PSs X st t := fun pins s σ H D I hw =>
  wpAny_mono (h pins s σ H D (I.wish _) hw) (fun _ _ q => q.unwish) fun _ _ z => False.elim z
end

/-! ### blocks and small statements -/
section
variable {X : Cx} {st : Stmt} {rest : List Stmt} {t u : TS} {e : Expr} {te : TE} {pos : Pos}
def tNext : TS := fun D σ H => D.nx σ H
def tSeq (t u : TS) : TS := fun D σ H => t { D with nx := u D } σ H
theorem pss_nil : PSs X [] tNext := fun _ _ σ H _ I h => wpAny_execs_nil ⟨σ, H, I, h⟩
theorem pss_cons (h1 : PS X st t) (h2 : PSs X rest u) : PSs X (st :: rest) (tSeq t u) := by
  intro pins s σ H D I h
  refine wpAny_execs_cons (thn (h1 pins s σ H { D with nx := u D } I h) fun f s1 q => ?_)
  cases f with
  | next =>
    obtain ⟨σ', H', I', q⟩ := q
    exact h2 pins s1 σ' H' D I' q
  | ret v => exact q
  | brk => exact q
  | cont => exact q
theorem pss_one (h1 : PS X st t) : PSs X [st] t := by
  intro pins s σ H D I h
  refine wpAny_execs_cons (thn (h1 pins s σ H D I h) fun f s1 q => ?_)
  cases f with
  | next => exact wpAny_execs_nil q
  | ret v => exact q
  | brk => exact q
  | cont => exact q
/-- in a def's body nothing is shown -/
theorem Inv.quiet {pins : List (Addr × Obj)} {σ : St} {H : Hp} {s : Shared} (I : Inv X pins σ H s) : interactive X.env = false := by simp [interactive, I.ok.kind]
/-- an expression whose value is dropped -/
def tDrop (te : TE) : TS := fun D σ H => te σ H fun _ H1 => D.nx σ H1
theorem ps_expr (he : PE X e te) (hs : swapsWith e none pos.line X.env = pure false := by rfl) : PS X (.Expr e pos) (tDrop te) := by
  intro pins s σ H D I h
  exact wpAny_Expr_any (thn (he pins s σ H _ I h) fun v s1 ⟨x, H1, I1, r1, q1⟩ => ⟨σ, H1, I1, q1⟩) I.quiet hs
def tRet (te : TE) : TS := fun D σ H => te σ H D.rt
theorem ps_ret (he : PE X e te) : PS X (.Return (some e) pos) (tRet te) := by
  intro pins s σ H D I h
  exact wpAny_Return_some (thn (he pins s σ H _ I h) fun v s1 ⟨x, H1, I1, r1, q1⟩ => ⟨x, σ, H1, I1, r1, q1⟩)
def tIfS (c : TT) (t u : TS) : TS := fun D σ H => c σ H fun b H1 => if b = true then t D σ H1 else u D σ H1
theorem ps_if {c : Expr} {a b : List Stmt} {tc : TT} (hc : PT X c tc) (ha : PSs X a t) (hb : PSs X b u) : PS X (.If c a b pos) (tIfS tc t u) := by
  intro pins s σ H D I h
  refine wpAny_If (thn (hc pins s σ H _ I h) fun d s1 ⟨H1, I1, q1⟩ => ?_)
  cases d with
  | true => exact ha pins s1 σ H1 D I1 q1
  | false => exact hb pins s1 σ H1 D I1 q1
end

/-! ### targets -/
abbrev TG := V → St → Hp → (St → Hp → Prop) → Prop
abbrev TGs := List V → St → Hp → (St → Hp → Prop) → Prop
def PG (X : Cx) (target : Expr) (t : TG) : Prop :=
  ∀ (pins : List (Addr × Obj)) (s : Shared) (σ : St) (H : Hp) (v : V) (u : Value) (Q : St → Hp → Prop), Inv X pins σ H s → RelV v u → t v σ H Q →
    wpAny (model X.prog X.w) X.A (assign target X.env u) (fun _ s' => ∃ σ' H', Inv X pins σ' H' s' ∧ Q σ' H') X.xe s
/-- several targets, one after another -/
def PGs (X : Cx) (ts : List Expr) (t : TGs) : Prop :=
  ∀ (pins : List (Addr × Obj)) (s : Shared) (σ : St) (H : Hp) (vs : List V) (us : List Value) (Q : St → Hp → Prop), Inv X pins σ H s → Vals vs us → t vs σ H Q →
    wpAny (model X.prog X.w) X.A (assignInOrder ((assignEach ts X.env).map (·.2)) us) (fun _ s' => ∃ σ' H', Inv X pins σ' H' s' ∧ Q σ' H') X.xe s
section
variable {X : Cx} {pos : Pos}
def gName (i : Nat) : TG := fun v σ H Q => Q (σ.set i (some v)) H
theorem pg_name {i : Nat} {x : Str} (hN : X.N.Nodup) (hi : X.N[i]? = some x) (hx : Loc X.env.scope x) (hf : X.fn x = true ∨ X.env.scope.names.lookup x = some .local := by first | exact .inl rfl | exact .inr rfl | assumption) : PG X (.Name x pos) (gName i) := by
  intro pins s σ H v u Q I r h
  exact wpAny_assign_Name (store_ok I hN hi hx r (fun s' I' => ⟨_, H, I', h⟩) hf)
def gNil : TGs := fun vs σ H Q => vs = [] ∧ Q σ H
def gCons (t : TG) (u : TGs) : TGs := fun vs σ H Q => ∃ v r, vs = v :: r ∧ t v σ H fun σ' H' => u r σ' H' Q
theorem pgs_nil : PGs X [] gNil := by
  intro pins s σ H vs us Q I r h
  obtain ⟨e, h⟩ := h
  subst e
  cases r
  exact assignInOrder_nil ⟨σ, H, I, h⟩
theorem pgs_cons {e : Expr} {es : List Expr} {t : TG} {u : TGs} (h1 : PG X e t) (h2 : PGs X es u)
    (hs : (assignEach (e :: es) X.env).map (·.2) = assign e X.env :: (assignEach es X.env).map (·.2) := by rfl) : PGs X (e :: es) (gCons t u) := by
  intro pins s σ H vs us Q I r h
  obtain ⟨v, vr, e1, h⟩ := h
  subst e1
  cases r with
  | cons r rr =>
    rw [hs]
    refine assignInOrder_cons (thn (h1 pins s σ H _ _ _ I r h) fun _ s1 ⟨σ1, H1, I1, q1⟩ => ?_)
    exact h2 pins s1 σ1 H1 _ _ Q I1 rr q1
/-- (a, b, ..) = a tuple of that length -/
def gTup (K : PySem.W.Frag) (n : Nat) (t : TGs) : TG := fun v σ H Q => ∃ a xs, v = .ref a ∧ SqT K H a xs ∧ xs.length = n ∧ t xs σ H Q
theorem pg_tup {es : List Expr} {k : Nat} {t : TGs} {n : Nat} (hc : X.calm = true) (h : PGs X es t)
    (hn : (assignEach es X.env).length = n := by rfl) (hst : (assignEach es X.env).findIdx? (·.1) = none := by rfl) : PG X (.Tuple es k pos) (gTup X.K n t) := by
  intro pins s σ H v u Q I r hw
  obtain ⟨a, xs, e1, hq, hl, hw⟩ := hw
  subst e1
  cases r
  obtain ⟨its, rv, ht, hz⟩ := I.tuple hq
  refine assign_Tuple_tuple (I.ok.hd hc) ht (by simp [hn, ← hl, rv.length]) hst fun h' hx => ?_
  have I1 : Inv X pins σ H { s with heap := h' } := I.kept (t' := s.toks) fun b o e => hx b o (Nat.ne_of_lt (Heap.lt_size e)) e
  exact h pins _ σ H xs _ Q I1 (by simpa using rv) hw
/-- target = value -/
def tAsg (te : TE) (g : TG) : TS := fun D σ H => te σ H fun x H1 => g x σ H1 D.nx
/-- name = value -/
theorem ps_set {i : Nat} {x : Str} {e : Expr} {te : TE} {pos' : Pos} (hN : X.N.Nodup) (hi : X.N[i]? = some x) (hx : Loc X.env.scope x) (he : PE X e te) (hs : swapsWith e (some (.Name x pos')) pos.line X.env = pure false := by rfl) (hf : X.fn x = true ∨ X.env.scope.names.lookup x = some .local := by first | exact .inl rfl | exact .inr rfl | assumption) :
    PS X (.Assign [.Name x pos'] e pos) (tAsg te (gName i)) := by
  intro pins s σ H D I h
  refine wpAny_Assign_Name (thn (he pins s σ H _ I h) fun v s1 ⟨y, H1, I1, r1, q1⟩ => ?_) hs
  exact store_ok I1 hN hi hx r1 (fun s2 I2 => ⟨_, H1, I2, q1⟩) hf
end

/-! ### while -/
section
variable {X : Cx} {pos : Pos}
end

/-! ### what a loop or a comprehension walks -/
/-- at turn i: it yields x (the heap may grow), or it stops -/
structure It where
  go : Nat → Hp → Prop
  yld : Nat → Hp → V → Hp → Prop
  stop : Nat → Hp → Prop
/-- the iterator's own objects may turn: they are not the frame's, not pinned, younger than the entry (or a comprehension's own) -/
def FpOk (X : Cx) (pins : List (Addr × Obj)) (H : Hp) (b : Addr) : Prop :=
  H b = none ∧ b ≠ X.env.locals ∧ b ∉ X.fs ∧ (b ∈ X.ex ∨ X.s₀.heap.objs.size ≤ b) ∧ (∀ x c, X.env.cells.lookup x = some c → c ≠ b) ∧ ∀ p ∈ X.pn ++ pins, p.1 ≠ b
theorem Inv.fpOk {X : Cx} {pins : List (Addr × Obj)} {σ : St} {H H' : Hp} {s : Shared} {b : Addr} (I : Inv X pins σ H s) (hb : s.heap.objs.size ≤ b) (hn : H' b = none) : FpOk X pins H' b := by
  refine ⟨hn, Nat.ne_of_gt (Nat.lt_of_lt_of_le I.lt hb), I.nofs hb, .inr (Nat.le_trans I.sz hb), fun x c e z => ?_, fun p hp z => ?_⟩
  · obtain ⟨v, q⟩ := I.cell x c e
    exact absurd (Nat.lt_of_lt_of_le q.lt (by rw [z]; exact hb)) (Nat.lt_irrefl _)
  · exact absurd (Nat.lt_of_lt_of_le (Heap.lt_size (I.pin p hp).1) (by rw [z]; exact hb)) (Nat.lt_irrefl _)
structure Turn (P : Program) (w : World) (K : PySem.W.Frag) (tg : Expr) (J : It) (fp : List Addr) (it : Addr) (tn : Nat → Heap → Prop) : Prop where
  mem : it ∈ fp
  obj : ∀ i h, tn i h → ∀ b ∈ fp, ∃ o, h.get? b = some o ∧ ∀ v, o.data ≠ .cell v
  keep : ∀ i h h', tn i h → (∀ b ∈ fp, ∀ o, h.get? b = some o → h'.get? b = some o) → tn i h'
  item : ∀ (X : Cx), X.prog = P → X.w = w → X.K = K → X.calm = true → ∀ (i : Nat) (pins : List (Addr × Obj)) (s : Shared) (σ : St) (H : Hp) (E : Value → Shared → Prop), Inv X pins σ H s → (∀ b ∈ fp, FpOk X pins H b) → tn i s.heap → J.go i H →
    wpAny (model P w) X.A (pyNext (.ref it)) (fun r s1 => ∃ u, r = some u ∧
      wpAny (model P w) X.A (letOwnedTupleGo tg (.ref it) u) (fun _ s2 => ∃ x H', Inv X pins σ H' s2 ∧ RelV x u ∧ J.yld i H x H' ∧ tn (i + 1) s2.heap ∧ ∀ b ∈ fp, H' b = none) E s1) E s
  done : ∀ (X : Cx), X.prog = P → X.w = w → X.K = K → X.calm = true → ∀ (i : Nat) (pins : List (Addr × Obj)) (s : Shared) (σ : St) (H : Hp) (E : Value → Shared → Prop), Inv X pins σ H s → (∀ b ∈ fp, FpOk X pins H b) → tn i s.heap → J.stop i H →
    wpAny (model P w) X.A (pyNext (.ref it)) (fun r s1 => r = none ∧ Inv X pins σ H s1) E s
  self : ∀ (A : Around) (i : Nat) (s : Shared) (Q : Value → Shared → Prop) (E : Value → Shared → Prop), tn i s.heap → Q (.ref it) s → wpAny (model P w) A (pyIter (.ref it)) Q E s
abbrev TI := St → Hp → (It → Hp → Prop) → Prop
/-- an iterator has come -/
def PIE (X : Cx) (pins : List (Addr × Obj)) (σ : St) (tg : Expr) (R : It → Hp → Prop) (itv : Value) (s2 : Shared) : Prop :=
  ∃ (it : Addr) (fp : List Addr) (tn : Nat → Heap → Prop) (J : It) (H' : Hp), itv = .ref it ∧ Inv X pins σ H' s2 ∧ Turn X.prog X.w X.K tg J fp it tn ∧ tn 0 s2.heap ∧ (∀ b ∈ fp, FpOk X pins H' b) ∧ R J H'
def PI (X : Cx) (tg iter : Expr) (wi : TI) : Prop :=
  ∀ (pins : List (Addr × Obj)) (s : Shared) (σ : St) (H : Hp) (R : It → Hp → Prop), Inv X pins σ H s → wi σ H R →
    wpAny (model X.prog X.w) X.A (eval iter X.env) (fun v s1 => wpAny (model X.prog X.w) X.A (pyIter v) (PIE X pins σ tg R) X.xe s1) X.xe s

/-- the step ahead of the store is nothing for an iterator that keeps no tuple -/
theorem go_of {M : Model} {A : Around} {E : Value → Shared → Prop} {s : Shared} {tg : Expr} {it : Addr} {u : Value} {o : Obj} {n : String} {vs : Array Value} {Q : Unit → Shared → Prop} (ho : s.heap.get? it = some o) (hc : o.cls = .type n) (hd : o.data = .fields vs)
    (hn : ["enumerate", "zip", "dict_itemiterator", "dict_reverseitemiterator", "odict_iterator", "itertools.zip_longest", "itertools.pairwise"].contains n = false) (hQ : Q () s) : wpAny M A (letOwnedTupleGo tg (.ref it) u) Q E s := by
  unfold letOwnedTupleGo
  cases tg <;> first
    | exact wpAny_pure hQ
    | (cases u <;> first
        | exact wpAny_pure hQ
        | (refine wpAny_bind (wpAny_load ho ?_)
           rw [hc, hd]
           show wpAny M A (if (["enumerate", "zip", "dict_itemiterator", "dict_reverseitemiterator", "odict_iterator", "itertools.zip_longest", "itertools.pairwise"].contains n && vs[0]? == some (rawInt _)) = true then _ else _) Q E s
           rw [if_neg (by intro h; rw [hn, Bool.false_and] at h; cases h)]
           exact wpAny_pure hQ))

/-- the list at a, as it stands at each turn (a loop may append to it) -/
def Itl (K : PySem.W.Frag) (a : Addr) : It :=
  ⟨fun i H => ∃ xs x, SqL K H a xs ∧ xs[i]? = some x, fun i H x H' => H' = H ∧ ∀ xs, SqL K H a xs → xs[i]? = some x, fun i H => ∃ xs, SqL K H a xs ∧ xs.length ≤ i⟩
/-- lo, lo + 1, .. (n of them) -/
def Itr (lo : Int) (n : Nat) : It := ⟨fun i _ => i < n, fun i H x H' => H' = H ∧ x = .int (lo + i), fun i _ => n ≤ i⟩
theorem turn_list {P : Program} {w : World} {K : PySem.W.Frag} {tg : Expr} (a it : Addr) : Turn P w K tg (Itl K a) [it] it (fun i h => h.IsListIter it a i) where
  mem := by simp
  obj := fun i h st b hb => by
    have e : b = it := by simpa using hb
    subst e
    obtain ⟨o, e, c, d⟩ := st
    exact ⟨o, e, fun v z => by rw [d] at z; cases z⟩
  keep := fun i h h' st k => st.at fun o e => k it (by simp) o e
  item := by
    intro X hP hw hK hc i pins s σ H E I hf st hg
    subst hP hw hK
    obtain ⟨xs, x, hq, hx⟩ := hg
    obtain ⟨its, rv, p, hz⟩ := I.list hq
    obtain ⟨u, hu, ru⟩ := rv.get hx
    obtain ⟨f0, f1, f2, f3, f4, f5⟩ := hf it (by simp)
    refine wpAny_pyNext_list_item st p.isList (x := u) (by simpa using hu) fun h' st' sb => ?_
    have I1 : Inv X pins σ H { s with heap := h' } := I.turned (t' := s.toks) (fun b o hb e => (sb.2 b hb).trans e) f0 f1 f3 f4 f5
    obtain ⟨o, e, c, d⟩ := id st'
    exact ⟨u, rfl, go_of (s := { s with heap := h' }) e c d (by decide) ⟨x, H, I1, ru, ⟨rfl, fun ys hy => by rw [I.list_inj hy hq]; exact hx⟩, st', fun b hb => (hf b hb).1⟩⟩
  done := by
    intro X hP hw hK hc i pins s σ H E I hf st hg
    subst hP hw hK
    obtain ⟨xs, hq, hx⟩ := hg
    obtain ⟨its, rv, p, hz⟩ := I.list hq
    obtain ⟨f0, f1, f2, f3, f4, f5⟩ := hf it (by simp)
    have hl := rv.length
    exact wpAny_pyNext_list_end (I.ok.hd hc) st p.isList (by simp; omega) fun h' eb => ⟨rfl, I.turned (t' := s.toks) (fun b o hb e => eb b o hb e) f0 f1 f3 f4 f5⟩
  self := fun _ _ _ _ _ st h => wpAny_pyIter_listiter st h
theorem turn_range {P : Program} {w : World} {K : PySem.W.Frag} {tg : Expr} (it : Addr) (lo : Int) (n : Nat) : Turn P w K tg (Itr lo n) [it] it (fun i h => IsRangeIter h it (lo + (i : Nat) * 1) ((n : Int) - (i : Nat)) 1) where
  mem := by simp
  obj := fun i h st b hb => by
    have e : b = it := by simpa using hb
    subst e
    exact ⟨_, st, fun v z => by
      have z' : Data.fields _ = Data.cell v := z
      cases z'⟩
  keep := fun i h h' st k => k it (by simp) _ st
  item := by
    intro X hP hw hK hc i pins s σ H E I hf st hg
    subst hP hw hK
    obtain ⟨f0, f1, f2, f3, f4, f5⟩ := hf it (by simp)
    have W := Walks.range (prog := X.prog) (w := X.w) (I.ok.hd hc) it lo 1 n
    refine W.item i s _ _ hg st fun v h' tk hv st' kk => ?_
    obtain ⟨t, rfl⟩ := hv
    have I1 : Inv X pins σ H { s with heap := h', toks := tk } := I.turned (fun b o hb e => kk b o (by simpa using hb) e) f0 f1 f3 f4 f5
    refine ⟨_, rfl, go_of (s := { s with heap := h', toks := tk }) (n := "range_iterator") st' rfl rfl (by decide) ⟨.int (lo + i), H, I1, ⟨t, ?_⟩, ⟨rfl, rfl⟩, st', fun b hb => (hf b hb).1⟩⟩
    rw [Int.mul_one]
  done := by
    intro X hP hw hK hc i pins s σ H E I hf st hg
    subst hP hw hK
    obtain ⟨f0, f1, f2, f3, f4, f5⟩ := hf it (by simp)
    exact wpAny_pyNext_range_end (I.ok.hd hc) st (by have : n ≤ i := hg; omega) fun h' eb => ⟨rfl, I.turned (t' := s.toks) (fun b o hb e => eb b o hb e) f0 f1 f3 f4 f5⟩
  self := fun _ _ _ _ _ st h => wpAny_pyIter_rangeiter st h
end L2

namespace L2
open PySem PySem.Spec PyProof.Rows
section
variable {X : Cx} {tg : Expr}
def iList (K : PySem.W.Frag) (tl : TE) : TI := fun σ H R => tl σ H fun x H1 => ∃ a, x = .ref a ∧ (∃ xs, SqL K H1 a xs) ∧ R (Itl K a) H1
theorem pi_list {l : Expr} {tl : TE} (hl : PE X l tl) : PI X tg l (iList X.K tl) := by
  intro pins s σ H R I h
  refine thn (hl pins s σ H _ I h) fun v s1 ⟨x, H1, I1, r1, q1⟩ => ?_
  obtain ⟨a, e, ⟨xs, hq⟩, q⟩ := q1
  subst e
  cases r1
  obtain ⟨its, rv, p, hz⟩ := I1.list hq
  refine wpAny_pyIter_list p.isList ?_
  refine ⟨s1.heap.objs.size, [s1.heap.objs.size], _, _, H1, rfl, I1.kept (t' := s1.toks) fun b o e => Heap.get?_push_of_some _ e, turn_list a _, ⟨_, Heap.get?_push_size _ rfl, rfl, rfl⟩, fun b hb => ?_, q⟩
  have e : b = s1.heap.objs.size := by simpa using hb
  subst e
  exact I1.fpOk (Nat.le_refl _) (I1.hok.fresh (Nat.le_refl _))
/-- a range object just made, walked -/
theorem range_it {pins : List (Addr × Obj)} {σ : St} {H : Hp} {s : Shared} {R : It → Hp → Prop} {E : Value → Shared → Prop} {lo hi : Int} {t u v : Tok} {tk : Nat} (I : Inv X pins σ H s) (h1 : -(2 ^ 62) ≤ lo) (h2 : lo < 2 ^ 62) (h3 : -(2 ^ 62) ≤ hi) (h4 : hi < 2 ^ 62)
    (q : R (Itr lo (hi - lo).toNat) H) : wpAny (model X.prog X.w) X.A (pyIter (.ref s.heap.objs.size)) (PIE X pins σ tg R) E { s with heap := s.heap.push { cls := .type "range", data := .fields #[.int lo t, .int hi u, .int 1 v] }, toks := tk } := by
  refine wpAny_pyIter_range (IsRange.new ..) (small_one h1 h2 h3 h4) ?_
  have I1 : Inv X pins σ H { s with heap := s.heap.push { cls := .type "range", data := .fields #[.int lo t, .int hi u, .int 1 v] }, toks := tk } := I.kept fun b o e => Heap.get?_push_of_some _ e
  refine ⟨(s.heap.push { cls := .type "range", data := .fields #[.int lo t, .int hi u, .int 1 v] }).objs.size, [(s.heap.push { cls := .type "range", data := .fields #[.int lo t, .int hi u, .int 1 v] }).objs.size], _, _, H, rfl,
    I1.kept (t' := tk) fun b o e => Heap.get?_push_of_some _ e, turn_range _ lo (hi - lo).toNat, ?_, fun b hb => ?_, q⟩
  · have e1 : lo + ((0 : Nat) : Int) * 1 = lo := by simp
    have e2 : (((hi - lo).toNat : Nat) : Int) - ((0 : Nat) : Int) = Builtin.Range.rangeSize lo hi 1 := by rw [rangeSize_one]; split <;> omega
    show IsRangeIter _ _ (lo + ((0 : Nat) : Int) * 1) ((((hi - lo).toNat : Nat) : Int) - ((0 : Nat) : Int)) 1
    rw [e1, e2]
    exact Heap.get?_push_size _ rfl
  · have e : b = (s.heap.push { cls := .type "range", data := .fields #[.int lo t, .int hi u, .int 1 v] }).objs.size := by simpa using hb
    subst e
    exact I1.fpOk (Nat.le_refl _) (I1.hok.fresh (Nat.le_refl _))
def iRng1 (ta : TA) : TI := fun σ H R => ta σ H fun vs H1 => ∃ j : Int, vs = [.int j] ∧ -(2 ^ 62) ≤ j ∧ j < 2 ^ 62 ∧ R (Itr 0 j.toNat) H1
theorem pi_range1 {a : Expr} {ta : TA} {p pos : Pos} (hg : Gl X "range") (hm : X.mg "range" = none) (ha : PA X [a] ta) (hs : starEach [a] X.env = [(false, eval a X.env)] := by rfl) : PI X tg (.Call (.Name "range" p) [a] [] pos) (iRng1 ta) := by
  intro pins s σ H R I h
  refine Call_ (ld_blt I hg hm boot_range (PyProof.Rows.callWith_type1 (thn (ha pos pins s σ H _ I h) fun us s1 ⟨vs, H1, I1, r1, q1⟩ => ?_) hs rfl))
  obtain ⟨j, e, q1, q2, q⟩ := q1
  subst e
  cases r1 with
  | cons r rr =>
    cases rr
    obtain ⟨t, rfl⟩ := r
    exact call_range_1 (range_it I1 (by omega) (by omega) q1 q2 (by simpa using q))
/-! ### for -/
/-- W: the invariant by the turn and a measure; N: what the body is to reach -/
def tFor (wi : TI) (g : TG) (tb : TS) : TS := fun D σ H => wi σ H fun J H1 => ∃ W : Nat → Nat → St → Hp → Prop, (∃ m, W 0 m σ H1) ∧ ∀ i m σ H, W i m σ H →
  (J.stop i H ∧ D.nx σ H) ∨ (J.go i H ∧ ∃ N : St → Hp → Prop, (∀ σ' H', N σ' H' → ∃ m', m' < m ∧ W (i + 1) m' σ' H') ∧ ∀ x H', J.yld i H x H' → g x σ H' fun σ2 H2 => tb { D with nx := N, ct := N, bk := D.nx } σ2 H2)
/-- the records at fp as they stand -/
def pinsAt (fp : List Addr) (h : Heap) : List (Addr × Obj) := fp.filterMap fun b => (h.get? b).map fun o => (b, o)
theorem mem_pinsAt {fp : List Addr} {h : Heap} {b : Addr} {o : Obj} (hb : b ∈ fp) (e : h.get? b = some o) : (b, o) ∈ pinsAt fp h := List.mem_filterMap.mpr ⟨b, hb, by rw [e]; rfl⟩
theorem of_pinsAt {fp : List Addr} {h : Heap} {p : Addr × Obj} (hp : p ∈ pinsAt fp h) : p.1 ∈ fp ∧ h.get? p.1 = some p.2 := by
  obtain ⟨b, hb, e⟩ := List.mem_filterMap.mp hp
  cases q : h.get? b with
  | none => rw [q] at e; cases e
  | some o =>
    rw [q] at e
    have e' : (b, o) = p := Option.some.inj e
    subst e'
    exact ⟨hb, q⟩
theorem Inv.pinned {pins : List (Addr × Obj)} {σ : St} {H : Hp} {s : Shared} {fp : List Addr} (I : Inv X pins σ H s) (hf : ∀ b ∈ fp, FpOk X pins H b) (ho : ∀ b ∈ fp, ∃ o, s.heap.get? b = some o ∧ ∀ v, o.data ≠ .cell v) : Inv X (pins ++ pinsAt fp s.heap) σ H s :=
  I.pins_of fun p hp => (List.mem_append.mp hp).elim (fun z => I.pin p (List.mem_append_right _ z)) fun z => by
    obtain ⟨hb, e⟩ := of_pinsAt z
    obtain ⟨f0, f1, f2, _⟩ := hf p.1 hb
    obtain ⟨o, e', d⟩ := ho p.1 hb
    rw [e] at e'; cases e'
    exact ⟨e, f0, f1, f2, d⟩
theorem Inv.unpinned {pins pl : List (Addr × Obj)} {σ : St} {H : Hp} {s : Shared} (I : Inv X (pins ++ pl) σ H s) : Inv X pins σ H s := I.pins_of fun p hp => I.pin p (List.mem_append_right _ (List.mem_append_left _ hp))
theorem ps_for {iter : Expr} {body : List Stmt} {wi : TI} {g : TG} {tb : TS} {pos : Pos} (hp : PassesOwn (model X.prog X.w) X.A X.env X.xe) (hc : X.calm = true) (hi : PI X tg iter wi) (hg : PG X tg g) (hb : PSs X body tb)
    (hs : ∀ x, foldedSetIterable iter X.env x = pure x := by intro _; rfl) : PS X (.For tg iter body [] pos) (tFor wi g tb) := by
  intro pins s σ H D I h
  refine wpAny_For (thn (hi pins s σ H _ I h) fun v s1 h1 => thn h1 fun itv s2 h2 => ?_) hs
  obtain ⟨it, fp, tn, J, H2, e, I2, T, st2, f2, W, ⟨m0, w0⟩, turn⟩ := h2
  subst e
  -- what stays true of the iterator's objects through the loop
  have stat : ∀ {H' : Hp}, (∀ b ∈ fp, H' b = none) → ∀ b ∈ fp, FpOk X pins H' b := fun hn b hb => ⟨hn b hb, (f2 b hb).2⟩
  refine codeAny_forLoop_any (fun n s' => ∃ i σ' H', Inv X pins σ' H' s' ∧ tn i s'.heap ∧ (∀ b ∈ fp, H' b = none) ∧ W i n σ' H') ?_ m0 ⟨0, σ, H2, I2, st2, fun b hb => (f2 b hb).1, w0⟩
  rintro n s3 ⟨i, σ3, H3, I3, st3, fr3, w3⟩
  rcases turn i n σ3 H3 w3 with ⟨stop, qn⟩ | ⟨go, N, hN, step⟩
  · refine wpAny_passesOwn hp (thn (T.done X rfl rfl rfl hc i pins s3 σ3 H3 X.xe I3 (stat fr3) st3 stop) fun r s4 ⟨hr, I4⟩ => ?_)
    subst hr
    exact wpAny_execs_nil ⟨σ3, H3, I4, qn⟩
  · refine wpAny_passesOwn hp (thn (T.item X rfl rfl rfl hc i pins s3 σ3 H3 X.xe I3 (stat fr3) st3 go) fun r s4 ⟨u, hr, h4⟩ => ?_)
    subst hr
    refine wpAny_passesOwn hp (thn h4 fun _ s5 ⟨x, H5, I5, r5, y5, st5, fr5⟩ => ?_)
    have I5' := I5.pinned (stat fr5) (T.obj _ _ st5)
    refine wpAny_passesOwn hp (thn (hg _ s5 σ3 H5 x u _ I5' r5 (step x H5 y5)) fun _ s6 ⟨σ6, H6, I6, q6⟩ => ?_)
    refine wpAny_passesOwn hp (thn (hb _ s6 σ6 H6 _ I6 q6) fun f s7 q7 => ?_)
    have again : ∀ {σ7 : St} {H7 : Hp}, Inv X (pins ++ pinsAt fp s5.heap) σ7 H7 s7 → N σ7 H7 → ∃ m, m < n ∧ ∃ i σ' H', Inv X pins σ' H' s7 ∧ tn i s7.heap ∧ (∀ b ∈ fp, H' b = none) ∧ W i m σ' H' := fun {σ7 H7} I7 n7 => by
      obtain ⟨m', hm, w7⟩ := hN σ7 H7 n7
      refine ⟨m', hm, i + 1, σ7, H7, I7.unpinned, T.keep _ _ _ st5 fun b hb o e => (I7.pin (b, o) (List.mem_append_right _ (List.mem_append_right _ (mem_pinsAt hb e)))).1, fun b hb => ?_, w7⟩
      obtain ⟨o, e, d⟩ := T.obj _ _ st5 b hb
      exact (I7.pin (b, o) (List.mem_append_right _ (List.mem_append_right _ (mem_pinsAt hb e)))).2.1
    cases f with
    | next => obtain ⟨σ7, H7, I7, n7⟩ := q7; exact again I7 n7
    | cont => obtain ⟨σ7, H7, I7, n7⟩ := q7; exact again I7 n7
    | brk => obtain ⟨σ7, H7, I7, q7⟩ := q7; exact ⟨σ7, H7, I7.unpinned, q7⟩
    | ret v => obtain ⟨x7, σ7, H7, I7, r7, q7⟩ := q7; exact ⟨x7, σ7, H7, I7.unpinned, r7, q7⟩
end

/-! ### the forms one uses -/
/-- over a list that the body leaves as it is -/
theorem for_list {K : PySem.W.Frag} {a : Addr} {xs : List V} {g : TG} {tb : TS} {D : Ends} {σ : St} {H : Hp} (Pv : Nat → St → Hp → Prop) (h0 : Pv 0 σ H) (hl : ∀ i σ H, i ≤ xs.length → Pv i σ H → SqL K H a xs)
    (hs : ∀ i x σ H, xs[i]? = some x → Pv i σ H → g x σ H fun σ2 H2 => tb { D with nx := Pv (i + 1), ct := Pv (i + 1), bk := D.nx } σ2 H2) (hd : ∀ σ H, Pv xs.length σ H → D.nx σ H) :
    ∃ W : Nat → Nat → St → Hp → Prop, (∃ m, W 0 m σ H) ∧ ∀ i m σ H, W i m σ H →
      ((Itl K a).stop i H ∧ D.nx σ H) ∨ ((Itl K a).go i H ∧ ∃ N : St → Hp → Prop, (∀ σ' H', N σ' H' → ∃ m', m' < m ∧ W (i + 1) m' σ' H') ∧ ∀ x H', (Itl K a).yld i H x H' → g x σ H' fun σ2 H2 => tb { D with nx := N, ct := N, bk := D.nx } σ2 H2) := by
  refine ⟨fun i m σ H => m = xs.length - i ∧ i ≤ xs.length ∧ Pv i σ H, ⟨xs.length, by simp, Nat.zero_le _, h0⟩, ?_⟩
  rintro i m σ H ⟨rfl, hi, p⟩
  have q := hl i σ H hi p
  by_cases hlt : i < xs.length
  · refine .inr ⟨⟨xs, xs[i], q, by simp [hlt]⟩, Pv (i + 1), fun σ' H' p' => ⟨xs.length - (i + 1), by omega, rfl, hlt, p'⟩, fun x H' y => ?_⟩
    obtain ⟨e, y⟩ := y
    subst e
    exact hs i x σ _ (y xs q) p
  · have e : i = xs.length := by omega
    subst e
    exact .inl ⟨⟨xs, q, Nat.le_refl _⟩, hd σ H p⟩
theorem for_range {lo : Int} {n : Nat} {g : TG} {tb : TS} {D : Ends} {σ : St} {H : Hp} (Pv : Nat → St → Hp → Prop) (h0 : Pv 0 σ H)
    (hs : ∀ i σ H, i < n → Pv i σ H → g (.int (lo + i)) σ H fun σ2 H2 => tb { D with nx := Pv (i + 1), ct := Pv (i + 1), bk := D.nx } σ2 H2) (hd : ∀ σ H, Pv n σ H → D.nx σ H) :
    ∃ W : Nat → Nat → St → Hp → Prop, (∃ m, W 0 m σ H) ∧ ∀ i m σ H, W i m σ H →
      ((Itr lo n).stop i H ∧ D.nx σ H) ∨ ((Itr lo n).go i H ∧ ∃ N : St → Hp → Prop, (∀ σ' H', N σ' H' → ∃ m', m' < m ∧ W (i + 1) m' σ' H') ∧ ∀ x H', (Itr lo n).yld i H x H' → g x σ H' fun σ2 H2 => tb { D with nx := N, ct := N, bk := D.nx } σ2 H2) := by
  refine ⟨fun i m σ H => m = n - i ∧ i ≤ n ∧ Pv i σ H, ⟨n, by simp, Nat.zero_le _, h0⟩, ?_⟩
  rintro i m σ H ⟨rfl, hi, p⟩
  by_cases hlt : i < n
  · refine .inr ⟨hlt, Pv (i + 1), fun σ' H' p' => ⟨n - (i + 1), by omega, rfl, hlt, p'⟩, fun x H' y => ?_⟩
    obtain ⟨e, y⟩ := y
    subst e y
    exact hs i σ _ hlt p
  · have e : i = n := by omega
    subst e
    exact .inl ⟨Nat.le_refl _, hd σ H p⟩
end L2

namespace L2
open PySem PySem.Spec PyProof.Rows

abbrev R2 := V → V → Hp → VK → Prop
/-- a two-place operation on values: f is binaryOp op, inplaceOp op or compareOp op -/
def OpR (X : Cx) (f : Value → Value → Sem Value) (r : R2) : Prop :=
  ∀ (pins : List (Addr × Obj)) (s : Shared) (σ : St) (H : Hp) (x y : V) (v u : Value) (Q : VK), Inv X pins σ H s → RelV x v → RelV y u → r x y H Q →
    wpAny (model X.prog X.w) X.A (f v u) (EP X pins σ Q) X.xe s
/-- a one-place operation -/
def UnR (X : Cx) (f : Value → Sem Value) (r : V → Hp → VK → Prop) : Prop :=
  ∀ (pins : List (Addr × Obj)) (s : Shared) (σ : St) (H : Hp) (x : V) (v : Value) (Q : VK), Inv X pins σ H s → RelV x v → r x H Q →
    wpAny (model X.prog X.w) X.A (f v) (EP X pins σ Q) X.xe s
/-- a call of a value that is known (a builtin, a type) with values -/
def CallR (X : Cx) (f : Value) (r : List V → Hp → VK → Prop) : Prop :=
  ∀ (pins : List (Addr × Obj)) (s : Shared) (σ : St) (H : Hp) (xs : List V) (us : List Value) (Q : VK), Inv X pins σ H s → Vals xs us → r xs H Q →
    wpAny (model X.prog X.w) X.A (call f us) (EP X pins σ Q) X.xe s
def tOp (r : R2) (ta tb : TE) : TE := fun σ H Q => ta σ H fun x H1 => tb σ H1 fun y H2 => r x y H2 Q
def tUn (r : V → Hp → VK → Prop) (ta : TE) : TE := fun σ H Q => ta σ H fun x H1 => r x H1 Q
/-- ints in, under C, and a value out -/
def rI (C : Int → Int → Prop) (g : Int → Int → V) : R2 := fun x y H Q => ∃ i j, x = .int i ∧ y = .int j ∧ C i j ∧ Q (g i j) H
def rI0 (g : Int → Int → V) : R2 := fun x y H Q => ∃ i j, x = .int i ∧ y = .int j ∧ Q (g i j) H
def rU (g : Int → V) : V → Hp → VK → Prop := fun x H Q => ∃ i, x = .int i ∧ Q (g i) H

section
variable {X : Cx} {a b c : Expr} {ta tb tc : TE} {pos : Pos}

theorem binT (ha : PE X a ta) (hb : PE X b tb) {pins : List (Addr × Obj)} {s : Shared} {σ : St} {H : Hp} {R : V → V → Hp → Prop} (I : Inv X pins σ H s)
    (h : ta σ H fun x H1 => tb σ H1 fun y H2 => R x y H2) {Q : Value → Shared → Prop} {f : Value → Value → Sem Value}
    (hf : ∀ v u s2 x y H2, Inv X pins σ H2 s2 → RelV x v → RelV y u → R x y H2 → wpAny (model X.prog X.w) X.A (f v u) Q X.xe s2) :
    wpAny (model X.prog X.w) X.A (eval a X.env) (fun v s₁ => wpAny (model X.prog X.w) X.A (eval b X.env) (fun u s₂ => wpAny (model X.prog X.w) X.A (f v u) Q X.xe s₂) X.xe s₁) X.xe s := by
  refine thn (ha pins s σ H _ I h) fun v s1 ⟨x, H1, I1, r1, q1⟩ => ?_
  refine thn (hb pins s1 σ H1 _ I1 q1) fun u s2 ⟨y, H2, I2, r2, q2⟩ => ?_
  exact hf v u s2 x y H2 I2 r1 r2 q2

theorem pe_op {op : Operator} {r : R2} (ho : OpR X (binaryOp op) r) (ha : PE X a ta) (hb : PE X b tb) : PE X (.BinOp a op b pos) (tOp r ta tb) := by
  intro pins s σ H Q I h
  exact wpAny_BinOp (binT ha hb I h fun v u s2 x y H2 I2 rx ry q => ho pins s2 σ H2 x y v u Q I2 rx ry q)
theorem pe_un {op : UnaryOp} {r : V → Hp → VK → Prop} (ho : UnR X (unaryOp op) r) (ha : PE X a ta) : PE X (.UnaryOp op a pos) (tUn r ta) := by
  intro pins s σ H Q I h
  exact UnaryOp_ (thn (ha pins s σ H _ I h) fun v s1 ⟨x, H1, I1, r1, q1⟩ => ho pins s1 σ H1 x v Q I1 r1 q1)
/-! ### ints -/
theorem opI {f : Value → Value → Sem Value} {C : Int → Int → Prop} {g : Int → Int → Int}
    (rule : ∀ (i j : Int) (t u : Tok) (s : Shared) (Q : Value → Shared → Prop) (E : Value → Shared → Prop), C i j → Q (.int (g i j) s.toks) { s with toks := s.toks + 1 } → wpAny (model X.prog X.w) X.A (f (.int i t) (.int j u)) Q E s) :
    OpR X f (rI C fun i j => .int (g i j)) := by
  intro pins s σ H x y v u Q I rx ry h
  obtain ⟨i, j, rfl, rfl, hc, q⟩ := h
  obtain ⟨t, rfl⟩ := rx
  obtain ⟨t', rfl⟩ := ry
  exact rule i j t t' s _ _ hc ⟨.int (g i j), H, I.tok _, ⟨_, rfl⟩, q⟩
theorem opI0 {f : Value → Value → Sem Value} {g : Int → Int → Int}
    (rule : ∀ (i j : Int) (t u : Tok) (s : Shared) (Q : Value → Shared → Prop) (E : Value → Shared → Prop), Q (.int (g i j) s.toks) { s with toks := s.toks + 1 } → wpAny (model X.prog X.w) X.A (f (.int i t) (.int j u)) Q E s) :
    OpR X f (rI0 fun i j => .int (g i j)) := by
  intro pins s σ H x y v u Q I rx ry h
  obtain ⟨i, j, rfl, rfl, q⟩ := h
  obtain ⟨t, rfl⟩ := rx
  obtain ⟨t', rfl⟩ := ry
  exact rule i j t t' s _ _ ⟨.int (g i j), H, I.tok _, ⟨_, rfl⟩, q⟩
theorem opB0 {f : Value → Value → Sem Value} {g : Int → Int → Bool}
    (rule : ∀ (i j : Int) (t u : Tok) (s : Shared) (Q : Value → Shared → Prop) (E : Value → Shared → Prop), Q (.bool (g i j)) s → wpAny (model X.prog X.w) X.A (f (.int i t) (.int j u)) Q E s) :
    OpR X f (rI0 fun i j => .bl (g i j)) := by
  intro pins s σ H x y v u Q I rx ry h
  obtain ⟨i, j, rfl, rfl, q⟩ := h
  obtain ⟨t, rfl⟩ := rx
  obtain ⟨t', rfl⟩ := ry
  exact rule i j t t' s _ _ ⟨.bl (g i j), H, I, rfl, q⟩

def CDiv (i j : Int) : Prop := 0 < j ∧ j < 1073741824
def CMul (i j : Int) : Prop := (-(2 ^ 64) < i ∧ i < 2 ^ 64) ∨ (-(2 ^ 64) < j ∧ j < 2 ^ 64)
theorem CMul.ok {i j : Int} (h : CMul i j) : IntMulOk i j := by
  rcases h with ⟨h1, h2⟩ | ⟨h1, h2⟩
  · exact .of_left (intBits_le_64 h1 h2)
  · exact .of_right (intBits_le_64 h1 h2)
theorem op_add : OpR X (binaryOp .Add) (rI0 fun i j => .int (i + j)) := opI0 fun _ _ _ _ _ _ _ q => add_int q
theorem op_sub : OpR X (binaryOp .Sub) (rI0 fun i j => .int (i - j)) := opI0 fun _ _ _ _ _ _ _ q => sub_int q
theorem op_mul : OpR X (binaryOp .Mult) (rI CMul fun i j => .int (i * j)) := opI fun _ _ _ _ _ _ _ hc q => mul_int q hc.ok
/-- // by a positive divisor -/
theorem op_fdiv : OpR X (binaryOp .FloorDiv) (rI CDiv fun i j => .int (i / j)) := opI fun i j _ _ _ _ _ hc q => by
  have h1 : (0 : Int) < j := hc.1
  have h2 : j < 1073741824 := hc.2
  exact floordiv_int (by omega) (by rw [Int.fdiv_eq_ediv_of_nonneg i (by omega)]; exact q) (.inl (PyProof.noPylong_small (by omega)))
/-- % by a positive divisor of any size -/
theorem op_mod : OpR X (binaryOp .Mod) (rI (fun _ j => 0 < j) fun i j => .int (i % j)) := opI fun i j _ _ _ _ _ hc q => by
  have h1 : (0 : Int) < j := hc
  exact mod_int' (by omega) (by rw [Int.fmod_eq_emod_of_nonneg i (by omega)]; exact q)
theorem unI {f : Value → Sem Value} {g : Int → Int}
    (rule : ∀ (i : Int) (t : Tok) (s : Shared) (Q : Value → Shared → Prop) (E : Value → Shared → Prop), Q (.int (g i) s.toks) { s with toks := s.toks + 1 } → wpAny (model X.prog X.w) X.A (f (.int i t)) Q E s) :
    UnR X f (rU fun i => .int (g i)) := by
  intro pins s σ H x v Q I rx h
  obtain ⟨i, rfl, q⟩ := h
  obtain ⟨t, rfl⟩ := rx
  exact rule i t s _ _ ⟨.int (g i), H, I.tok _, ⟨_, rfl⟩, q⟩
theorem un_neg : UnR X (unaryOp .USub) (rU fun i => .int (-i)) := unI fun _ _ _ _ _ q => neg_int q
/-! ### bools among ints: n += (a < b) -/
end

/-! ### comparisons -/
/-- the scalars that == tells apart as data does -/
def scal : V → V → Bool
  | .non, .non => true | .non, .int _ => true | .int _, .non => true | .non, .bl _ => true | .bl _, .non => true | .non, .str _ => true | .str _, .non => true
  | .int _, .int _ => true | .bl _, .bl _ => true | .str _, .str _ => true | .byt _, .byt _ => true
  | .int _, .str _ => true | .str _, .int _ => true | .bl _, .str _ => true | .str _, .bl _ => true
  | _, _ => false
def rEq : R2 := fun x y H Q => scal x y = true ∧ Q (.bl (decide (x = y))) H
def rNe : R2 := fun x y H Q => scal x y = true ∧ Q (.bl (!decide (x = y))) H

theorem dec_int {i j : Int} : decide (V.int i = V.int j) = (i == j) := by
  rw [Bool.eq_iff_iff]
  simp
theorem dec_bl {i j : Bool} : decide (V.bl i = V.bl j) = (i == j) := by
  rw [Bool.eq_iff_iff]
  simp
theorem dec_str {i j : Str} : decide (V.str i = V.str j) = (i == j) := by
  rw [Bool.eq_iff_iff]
  simp
theorem dec_byt {i j : Array UInt8} : decide (V.byt i = V.byt j) = (i.toList == j.toList) := by
  rw [Bool.eq_iff_iff]
  cases i
  cases j
  simp

section
variable {X : Cx} {a b c : Expr} {ta tb tc : TE} {pos : Pos}
theorem fin_bl {pins : List (Addr × Obj)} {σ : St} {H : Hp} {s : Shared} {Q : VK} {k k' : Bool} (I : Inv X pins σ H s) (q : Q (.bl k) H) (e : k = k') : EP X pins σ Q (.bool k') s := by
  subst e
  exact ⟨.bl k, H, I, rfl, q⟩
theorem op_eq : OpR X (compareOp .Eq) rEq := by
  intro pins s σ H x y v u Q I rx ry h
  obtain ⟨hs, q⟩ := h
  cases x with
  | non =>
    cases rx
    cases y with
    | non => cases ry; exact PySem.EqNone.eq_none_none (fin_bl I q (by simp))
    | bl j => cases ry; exact PySem.EqNone.eq_none_bool (fin_bl I q (by simp))
    | int j => obtain ⟨t', rfl⟩ := ry; exact PySem.EqNone.eq_none_int (fin_bl I q (by simp))
    | str j => obtain ⟨t', rfl⟩ := ry; exact PySem.EqNone.eq_none_str (fin_bl I q (by simp))
    | _ => exact absurd (show false = true from hs) Bool.false_ne_true
  | bl i =>
    cases rx
    cases y with
    | non => cases ry; exact PySem.EqNone.eq_bool_none (fin_bl I q (by simp))
    | bl j => cases ry; exact eq_bool (fin_bl I q dec_bl)
    | str j => obtain ⟨t', rfl⟩ := ry; exact PySem.EqMixed.eq_bool_str (fin_bl I q (by simp))
    | _ => exact absurd (show false = true from hs) Bool.false_ne_true
  | int i =>
    obtain ⟨t, rfl⟩ := rx
    cases y with
    | non => cases ry; exact PySem.EqNone.eq_int_none (fin_bl I q (by simp))
    | int j => obtain ⟨t', rfl⟩ := ry; exact eq_int (fin_bl I q dec_int)
    | str j => obtain ⟨t', rfl⟩ := ry; exact PySem.EqMixed.eq_int_str (fin_bl I q (by simp))
    | _ => exact absurd (show false = true from hs) Bool.false_ne_true
  | str i =>
    obtain ⟨t, rfl⟩ := rx
    cases y with
    | non => cases ry; exact PySem.EqNone.eq_str_none (fin_bl I q (by simp))
    | bl j => cases ry; exact PySem.EqMixed.eq_str_bool (fin_bl I q (by simp))
    | int j => obtain ⟨t', rfl⟩ := ry; exact PySem.EqMixed.eq_str_int (fin_bl I q (by simp))
    | str j => obtain ⟨t', rfl⟩ := ry; exact eq_str (fin_bl I q dec_str)
    | _ => exact absurd (show false = true from hs) Bool.false_ne_true
  | byt i =>
    obtain ⟨t, rfl⟩ := rx
    cases y with
    | byt j => obtain ⟨t', rfl⟩ := ry; exact PySem.W.eq_bytes (fin_bl I q dec_byt)
    | _ => exact absurd (show false = true from hs) Bool.false_ne_true
  | _ => cases y <;> exact absurd (show false = true from hs) Bool.false_ne_true
theorem op_ne : OpR X (compareOp .NotEq) rNe := by
  intro pins s σ H x y v u Q I rx ry h
  obtain ⟨hs, q⟩ := h
  cases x with
  | non =>
    cases rx
    cases y with
    | non => cases ry; exact PySem.EqNone.ne_none_none (fin_bl I q (by simp))
    | bl j => cases ry; exact PySem.EqNone.ne_none_bool (fin_bl I q (by simp))
    | int j => obtain ⟨t', rfl⟩ := ry; exact PySem.EqNone.ne_none_int (fin_bl I q (by simp))
    | str j => obtain ⟨t', rfl⟩ := ry; exact PySem.EqNone.ne_none_str (fin_bl I q (by simp))
    | _ => exact absurd (show false = true from hs) Bool.false_ne_true
  | bl i =>
    cases rx
    cases y with
    | non => cases ry; exact PySem.EqNone.ne_bool_none (fin_bl I q (by simp))
    | bl j => cases ry; exact ne_bool (fin_bl I q (congrArg not dec_bl))
    | str j => obtain ⟨t', rfl⟩ := ry; exact PySem.EqMixed.ne_bool_str (fin_bl I q (by simp))
    | _ => exact absurd (show false = true from hs) Bool.false_ne_true
  | int i =>
    obtain ⟨t, rfl⟩ := rx
    cases y with
    | non => cases ry; exact PySem.EqNone.ne_int_none (fin_bl I q (by simp))
    | int j => obtain ⟨t', rfl⟩ := ry; exact ne_int (fin_bl I q (congrArg not dec_int))
    | str j => obtain ⟨t', rfl⟩ := ry; exact PySem.EqMixed.ne_int_str (fin_bl I q (by simp))
    | _ => exact absurd (show false = true from hs) Bool.false_ne_true
  | str i =>
    obtain ⟨t, rfl⟩ := rx
    cases y with
    | non => cases ry; exact PySem.EqNone.ne_str_none (fin_bl I q (by simp))
    | bl j => cases ry; exact PySem.EqMixed.ne_str_bool (fin_bl I q (by simp))
    | int j => obtain ⟨t', rfl⟩ := ry; exact PySem.EqMixed.ne_str_int (fin_bl I q (by simp))
    | str j => obtain ⟨t', rfl⟩ := ry; exact ne_str (fin_bl I q (congrArg not dec_str))
    | _ => exact absurd (show false = true from hs) Bool.false_ne_true
  | byt i =>
    obtain ⟨t, rfl⟩ := rx
    cases y with
    | byt j => obtain ⟨t', rfl⟩ := ry; exact PySem.W.ne_bytes (fin_bl I q (congrArg not dec_byt))
    | _ => exact absurd (show false = true from hs) Bool.false_ne_true
  | _ => cases y <;> exact absurd (show false = true from hs) Bool.false_ne_true

theorem op_lt : OpR X (compareOp .Lt) (rI0 fun i j => .bl (decide (i < j))) := opB0 fun _ _ _ _ _ _ _ q => lt_int q
theorem op_le : OpR X (compareOp .LtE) (rI0 fun i j => .bl (decide (i ≤ j))) := opB0 fun _ _ _ _ _ _ _ q => le_int q
/-- the one string within the other -/
theorem op_in_str : OpR X (compareOp .In) (fun x y H Q => ∃ i j, x = .str i ∧ y = .str j ∧ Q (.bl (!(Builtin.Str.occurrences j i 0 j.length 1).isEmpty)) H) := by
  intro pins s σ H x y v u Q I rx ry h
  obtain ⟨i, j, rfl, rfl, q⟩ := h
  obtain ⟨t, rfl⟩ := rx
  obtain ⟨t', rfl⟩ := ry
  exact in_str (fin_bl I q rfl)

theorem op_notin_str : OpR X (compareOp .NotIn) (fun x y H Q => ∃ i j, x = .str i ∧ y = .str j ∧ Q (.bl (!(!(Builtin.Str.occurrences j i 0 j.length 1).isEmpty))) H) := by
  intro pins s σ H x y v u Q I rx ry h
  obtain ⟨i, j, rfl, rfl, q⟩ := h
  obtain ⟨t, rfl⟩ := rx
  obtain ⟨t', rfl⟩ := ry
  exact notIn_str (fin_bl I q rfl)
/-- two rules for one operation: by cases -/
theorem OpR.or {f : Value → Value → Sem Value} {r r' : R2} (h : OpR X f r) (h' : OpR X f r') : OpR X f (fun x y H Q => r x y H Q ∨ r' x y H Q) := by
  intro pins s σ H x y v u Q I rx ry q
  rcases q with q | q
  · exact h pins s σ H x y v u Q I rx ry q
  · exact h' pins s σ H x y v u Q I rx ry q

theorem nomark (b : Expr) {op : CmpOp} (h : op ≠ .In := by decide) (h2 : op ≠ .NotIn := by decide) : behindInMarks op b = false := by
  have e1 : (op == CmpOp.In) = false := by cases op <;> first | rfl | exact absurd rfl h
  have e2 : (op == CmpOp.NotIn) = false := by cases op <;> first | rfl | exact absurd rfl h2
  cases b <;> simp [behindInMarks, e1, e2]
/-- a comparison as a value; hm: nomark b, or (for in, not in) by with_unfolding_all rfl -/
theorem pe_cmpR {op : CmpOp} {r : R2} (ho : OpR X (compareOp op) r) (ha : PE X a ta) (hb : PE X b tb) (hm : behindInMarks op b = false) : PE X (.Compare a [op] [b] pos) (tOp r ta tb) := by
  intro pins s σ H Q I h
  exact wpAny_Compare1 (binT ha hb I h fun v u s2 x y H2 I2 rx ry q => ho pins s2 σ H2 x y v u Q I2 rx ry q) hm
/-- a reading of a value as a test -/
def tTest (t : TE) : TT := fun σ H Q => t σ H fun x H' => ∃ k, x = .bl k ∧ Q k H'
theorem pt_cmpR {op : CmpOp} {r : R2} (ho : OpR X (compareOp op) r) (ha : PE X a ta) (hb : PE X b tb) (hm : behindInMarks op b = false) : PT X (.Compare a [op] [b] pos) (tTest (tOp r ta tb)) := by
  intro pins s σ H Q I h
  refine wpAny_isTrue_Compare1 (thn (ha pins s σ H _ I h) fun v s1 ⟨x, H1, I1, r1, q1⟩ => thn (hb pins s1 σ H1 _ I1 q1) fun u s2 ⟨y, H2, I2, r2, q2⟩ =>
    thn (ho pins s2 σ H2 x y v u _ I2 r1 r2 q2) fun c s3 ⟨z, H3, I3, r3, k, e, q3⟩ => ?_) hm
  subst e
  cases r3
  exact wpAny_truthy_bool ⟨H3, I3, q3⟩
/-- a op1 b op2 c -/
def tChain (r r' : R2) (ta tb tc : TE) : TE := fun σ H Q => ta σ H fun x H1 => tb σ H1 fun y H2 => r x y H2 fun z H3 => ∃ k, z = .bl k ∧
  (if k = true then tc σ H3 fun w' H4 => r' y w' H4 Q else Q (.bl false) H3)
theorem pe_chain {op op' : CmpOp} {r r' : R2} (ho : OpR X (compareOp op) r) (ho' : OpR X (compareOp op') r') (ha : PE X a ta) (hb : PE X b tb) (hc : PE X c tc)
    (hm : lastMarks [op, op'] [b, c] = false := by with_unfolding_all rfl) : PE X (.Compare a [op, op'] [b, c] pos) (tChain r r' ta tb tc) := by
  intro pins s σ H Q I h
  refine Compare_chain (thn (ha pins s σ H _ I h) fun v s1 ⟨x, H1, I1, r1, q1⟩ => chain_link (thn (hb pins s1 σ H1 _ I1 q1) fun u s2 ⟨y, H2, I2, r2, q2⟩ =>
    thn (ho pins s2 σ H2 x y v u _ I2 r1 r2 q2) fun d s3 ⟨z, H3, I3, r3, k, e, q3⟩ => ?_)) hm
  subst e
  cases r3
  refine wpAny_truthy_bool ?_
  cases k with
  | false => exact ite_ff ⟨.bl false, H3, I3, rfl, q3⟩
  | true => exact ite_tt (chain_last (thn (hc pins s3 σ H3 _ I3 q3) fun w' s4 ⟨z', H4, I4, r4, q4⟩ => ho' pins s4 σ H4 y z' u w' Q I4 r2 r4 q4))
theorem pt_chain {op op' : CmpOp} {r r' : R2} (ho : OpR X (compareOp op) r) (ho' : OpR X (compareOp op') r') (ha : PE X a ta) (hb : PE X b tb) (hc : PE X c tc)
    (hm : lastMarks [op, op'] [b, c] = false := by with_unfolding_all rfl) : PT X (.Compare a [op, op'] [b, c] pos) (tTest (tChain r r' ta tb tc)) := by
  intro pins s σ H Q I h
  refine isTrue_chain (thn (ha pins s σ H _ I h) fun v s1 ⟨x, H1, I1, r1, q1⟩ => test_link (thn (hb pins s1 σ H1 _ I1 q1) fun u s2 ⟨y, H2, I2, r2, q2⟩ =>
    thn (ho pins s2 σ H2 x y v u _ I2 r1 r2 q2) fun d s3 ⟨z, H3, I3, r3, k, e, q3⟩ => ?_)) hm
  subst e
  cases r3
  refine wpAny_truthy_bool ?_
  cases k with
  | false =>
    obtain ⟨k', e', q'⟩ := q3
    cases e'
    exact ite_ff ⟨H3, I3, q'⟩
  | true =>
    refine ite_tt (test_last (thn (hc pins s3 σ H3 _ I3 q3) fun w' s4 ⟨z', H4, I4, r4, q4⟩ => thn (ho' pins s4 σ H4 y z' u w' _ I4 r2 r4 q4) fun d' s5 ⟨z2, H5, I5, r5, k2, e2, q5⟩ => ?_))
    subst e2
    cases r5
    exact wpAny_truthy_bool ⟨H5, I5, q5⟩

/-! ### truth -/
theorem line63 : (sizeLine : Nat) < 2 ^ 63 := by rw [sizeLine_eq]; decide
/-! ### strs and bytes -/
theorem op_add_str : OpR X (binaryOp .Add) (fun x y H Q => ∃ i j, x = .str i ∧ y = .str j ∧ i.length + j.length ≤ sizeLine ∧ Q (.str (i ++ j)) H) := by
  intro pins s σ H x y v u Q I rx ry h
  obtain ⟨i, j, rfl, rfl, hz, q⟩ := h
  obtain ⟨t, rfl⟩ := rx
  obtain ⟨t', rfl⟩ := ry
  exact add_str (fun t' tk => ⟨.str (i ++ j), H, I.tok _, ⟨_, rfl⟩, q⟩) hz
/-! ### scalar builtins, by CallR -/
theorem vals1 {x : V} {us : List Value} (r : Vals [x] us) : ∃ u, us = [u] ∧ RelV x u := by
  cases r with
  | cons r1 r2 => cases r2; exact ⟨_, rfl, r1⟩
end
end L2

namespace L2
open PySem PySem.Spec PyProof.Rows

/-! ### an instance, its attributes a map -/
structure ObjM (h : Heap) (x dx C : Addr) (mA : Str → Option Value) : Prop where
  obj : h.get? x = some (PySem.W.instObj C dx)
  ns : h.Ns1 dx mA
  ne : dx ≠ x

theorem lookIn_ns {h : Heap} {dx : Addr} {mA : Str → Option Value} (n : h.Ns1 dx mA) : ∃ od, h.get? dx = some od ∧ ∀ name, PySem.W.lookIn name od = some (mA name) := by
  obtain ⟨o, es, ep, ho, hd, hk, _, hm⟩ := n
  refine ⟨o, ho, fun name => ?_⟩
  have e := hm name
  unfold nsFind findBy at e
  rw [← Array.find?_toList] at e
  unfold PySem.W.lookIn
  rw [hd]
  dsimp only
  split
  · rename_i y q
    rw [q] at e
    exact congrArg some e
  · rename_i q
    rw [q] at e
    have a : es.toList.any (·.refKey) = false := by
      rw [List.any_eq_false]
      intro y hy
      obtain ⟨z, t, hkey⟩ := hk y (Array.mem_toList_iff.mp hy)
      simp [DictEntry.refKey, hkey]
    have a' : ¬ es.toList.any (·.refKey) = true := by rw [a]; exact Bool.false_ne_true
    rw [if_neg a']
    exact congrArg some e

theorem ObjM.look {h : Heap} {x dx C : Addr} {mA : Str → Option Value} (I : ObjM h x dx C mA) : ∃ od, PySem.W.InstAt h x (PySem.W.instObj C dx) C (some od) ∧ ∀ name, PySem.W.lookIn name od = some (mA name) :=
  let ⟨od, ho, hl⟩ := lookIn_ns I.ns
  ⟨od, ⟨I.obj, rfl, rfl, ho⟩, hl⟩

section
variable {prog : Program} {w : World} {A : Around} {E : Value → Shared → Prop} {s : Shared} {K : PySem.W.Frag} {x dx C f : Addr} {mA : Str → Option Value} {name : Str} {v : Value}

theorem get_map {expr : Bool} {Q : Value → Shared → Prop} (X : K.In s.heap) (I : ObjM s.heap x dx C mA) (hg : PySem.W.plainGet K C name = true) (hh : PySem.W.hasDictIn K C = true)
    (ha : PySem.W.findIn K (.ref C) name = some none) (hv : mA name = some v) (hv' : PySem.W.handedIn v = true) (h : Q v { s with toks := s.toks + 1 }) :
    wpAny (model prog w) A (getAttr (.ref x) name expr) Q E s := by
  obtain ⟨od, J, hl⟩ := I.look
  exact PySem.W.get_value X J (PySem.W.plainGet_of hg).1 (PySem.W.findObj_own hh ha rfl (by rw [hl, hv])) hv' h

theorem get_meth {pl : Sem Bool} {Q : Value × List Value → Shared → Prop} (X : K.In s.heap) (I : ObjM s.heap x dx C mA) (hg : PySem.W.plainGet K C name = true)
    (hf : PySem.W.findIn K (.ref C) name = some (some (.ref f))) (ht : PySem.W.isFn K (.ref f) = true) (hv : mA name = none) (h : Q (.ref f, [.ref x]) s) :
    wpAny (model prog w) A (getMethod (.ref x) name pl) Q E s := by
  obtain ⟨od, J, hl⟩ := I.look
  exact PySem.W.method_fn X J (PySem.W.plainGet_of hg).1 (PySem.W.plainGet_of hg).2 hf (beq_iff_eq.mp ht) (by show (PySem.W.lookIn name od).map (·.isSome) = some false; rw [hl, hv]; rfl) h

theorem set_map {ns : List Str} {Q : Unit → Shared → Prop} (X : K.In s.heap) (I : ObjM s.heap x dx C mA)
    (hs : PySem.W.findIn K (.ref C) "__setattr__" = some (some (.builtin "object.__setattr__"))) (hp : PySem.W.plainOver K C = true) (ht : PySem.W.takerIn K C name = some none) (hh : PySem.W.hasDictIn K C = true)
    (hw : PySem.Within mA ns) (hsz : ns.length ≤ sizeLine)
    (h : ∀ h', ObjM h' x dx C (fun y => if y = name then some v else mA y) → Heap.SameBut dx s.heap h' → Q () { s with heap := h', toks := s.toks + 2 }) :
    wpAny (model prog w) A (setAttr (.ref x) name v) Q E s := by
  obtain ⟨od, J, hl⟩ := I.look
  refine PySem.W.set_plain X J hs (PySem.W.osa_open (s := { s with toks := s.toks + 1 }) (r := none) X J hp ht fun b => ?_)
  obtain ⟨cd, hc, hd'⟩ := PySem.W.any_some hh
  have hx : s.heap.get? x = some ⟨.ref C, some dx, .plain, #[]⟩ := I.obj
  refine wpAny_bind (wpAny_pure (wpAny_bind (wpAny_bind (wpAny_loadPart hx (wpAny_bind (PySem.W.Looks.here (s := { s with toks := s.toks + 1 }) (PySem.W.looks_clsIn X hc) ?_))))))
  rw [hd']
  refine wpAny_pure (a := some dx) (wpAny_bind (wpAny_pure (wpAny_bind ?_)))
  refine wpAny_nsSet1 (s := { s with toks := s.toks + 1 }) I.ns fun h' hn2 hs2 => ?_
  obtain ⟨oD, esD, epD, hoD, hdD, hcD⟩ := hn2.count (PySem.Within.cons name v hw)
  refine wpAny_bind (wpAny_lookBehind hoD (by rw [hdD]; exact pastItsLine_dict (Nat.le_trans hcD (by rw [List.length_cons]; omega))) ?_)
  exact wpAny_pure (h _ ⟨(hs2.2 _ (Ne.symm I.ne)).trans I.obj, hn2, I.ne⟩ hs2)

/-- C(..): the dict at the heap's end, the instance behind it; then its __init__ -/
theorem make_map {R : Result → Shared → Prop} {vs : List Value} {kw : List (Str × Value)} (X : K.In s.heap) (hm : PySem.W.makesIn K C = true)
    (hi : PySem.W.findIn K (.ref C) "__init__" = some (some (.ref f))) (hf : PySem.W.typeIn K (.ref f) = some (.type "function"))
    (h : codeAny (model prog w) (A.under (.builtin "type.__call__" ⟨.ref C :: vs, kw⟩)) (.call (.ref f) ⟨.ref (s.heap.objs.size + 1) :: vs, kw⟩) (PySem.W.InitBack (s.heap.objs.size + 1) R)
      { s with heap := (s.heap.push PySem.W.emptyDict).push (PySem.W.instObj C s.heap.objs.size) }) :
    codeAny (model prog w) A (.call (.ref C) ⟨vs, kw⟩) R s := by
  obtain ⟨hh, g, d, t, os⟩ := s
  exact PySem.W.make_core (PySem.W.makes_of X hm) (PySem.W.looks_findIn X hi) (fun self => PySem.W.bind_fn X self hf) (.inl rfl) h
end

/-! ### the attributes as a list of pairs -/
def putF (f : Str) (v : V) : List (Str × V) → List (Str × V)
  | [] => [(f, v)]
  | (g, x) :: r => if g = f then (g, v) :: r else (g, x) :: putF f v r
theorem lookup_putF (f g : Str) (v : V) : ∀ fs : List (Str × V), (putF f v fs).lookup g = if g = f then some v else fs.lookup g
  | [] => by
    show List.lookup g [(f, v)] = _
    by_cases h : g = f
    · have hb : (g == f) = true := beq_iff_eq.mpr h
      simp only [List.lookup, hb, if_pos h]
    · have hb : (g == f) = false := beq_eq_false_iff_ne.mpr h
      simp only [List.lookup, hb, if_neg h]
  | (k, x) :: r => by
    have ih := lookup_putF f g v r
    rw [show putF f v ((k, x) :: r) = (if k = f then (k, v) :: r else (k, x) :: putF f v r) from rfl]
    by_cases hk : k = f
    · rw [if_pos hk]
      by_cases h : g = k
      · have hb : (g == k) = true := beq_iff_eq.mpr h
        simp only [List.lookup, hb, if_pos (h.trans hk)]
      · have hb : (g == k) = false := beq_eq_false_iff_ne.mpr h
        simp only [List.lookup, hb, if_neg (fun e : g = f => h (e.trans hk.symm))]
    · rw [if_neg hk]
      by_cases h : g = k
      · have hb : (g == k) = true := beq_iff_eq.mpr h
        simp only [List.lookup, hb, if_neg (fun e : g = f => hk (h.symm.trans e))]
      · have hb : (g == k) = false := beq_eq_false_iff_ne.mpr h
        simp only [List.lookup, hb]
        exact ih
theorem keys_putF (f : Str) (v : V) : ∀ fs : List (Str × V), f ∈ (putF f v fs).map (·.1) ∧ ∀ g, g ∈ fs.map (·.1) → g ∈ (putF f v fs).map (·.1)
  | [] => ⟨by simp [putF], fun g h => by simp at h⟩
  | (k, x) :: r => by
    obtain ⟨i1, i2⟩ := keys_putF f v r
    rw [show putF f v ((k, x) :: r) = (if k = f then (k, v) :: r else (k, x) :: putF f v r) from rfl]
    by_cases hk : k = f
    · rw [if_pos hk]
      subst hk
      exact ⟨by simp, fun g h => by simpa using h⟩
    · rw [if_neg hk]
      refine ⟨?_, fun g h => ?_⟩
      · rw [List.map_cons]
        exact List.mem_cons_of_mem _ i1
      · rw [List.map_cons] at h ⊢
        rcases List.mem_cons.mp h with e | e
        · exact List.mem_cons.mpr (.inl e)
        · exact List.mem_cons_of_mem _ (i2 g e)
theorem length_putF (f : Str) (v : V) : ∀ fs : List (Str × V), (putF f v fs).length ≤ fs.length + 1
  | [] => by simp [putF]
  | (k, x) :: r => by
    have ih := length_putF f v r
    rw [show putF f v ((k, x) :: r) = (if k = f then (k, v) :: r else (k, x) :: putF f v r) from rfl]
    by_cases hk : k = f
    · rw [if_pos hk, List.length_cons, List.length_cons]; omega
    · rw [if_neg hk, List.length_cons, List.length_cons]; omega

theorem RelO.some_of {v : V} {o : Option Value} (r : RelO (some v) o) : ∃ u, o = some u ∧ RelV v u := by
  cases o with
  | none => exact (show False from r).elim
  | some u => exact ⟨u, rfl, r⟩
theorem RelO.none_of {o : Option Value} (r : RelO none o) : o = none := by
  cases o with
  | none => rfl
  | some u => exact (show False from r).elim
theorem handed_of {v : V} {u : Value} (r : RelV v u) : PySem.W.handedIn u = true := by
  cases v with
  | non => cases (show u = Value.none from r); rfl
  | bl b => cases (show u = Value.bool b from r); rfl
  | int i => obtain ⟨t, e⟩ := (show ∃ t, u = Value.int i t from r); cases e; rfl
  | str x => obtain ⟨t, e⟩ := (show ∃ t, u = Value.str x t from r); cases e; rfl
  | byt b => obtain ⟨t, e⟩ := (show ∃ t, u = Value.bytes b t from r); cases e; rfl
  | flt b => obtain ⟨t, e⟩ := (show ∃ t, u = Value.float b t from r); cases e; rfl
  | ref a => cases (show u = Value.ref a from r); rfl
  | ty n => cases (show u = Value.type n from r); rfl

section
variable {P : Program} {w : World} {H H' : Hp} {h h' : Heap} {a C dx : Addr} {fs fs' : List (Str × V)}
theorem ins_get (hok : HOk P w H h) (e : H a = some (.ins C dx fs)) : ∃ mA, ObjM h a dx C mA ∧ (∀ f, RelO (fs.lookup f) (mA f)) ∧ PySem.Within mA (fs.map (·.1)) ∧ fs.length ≤ 1000 ∧ H dx = some (.own a) := by
  obtain ⟨d, z, ne, ob, mA, n, r, q⟩ := (show ObjOk P w H h a (.ins C dx fs) from hok a _ e)
  exact ⟨mA, ⟨ob, n, ne⟩, r, q, z, d⟩
end

/-! ### what of the text a class must have -/
structure Cls (K : PySem.W.Frag) (C : Addr) : Prop where
  pg : PySem.W.plainGet K C Str.empty = true
  hd : PySem.W.hasDictIn K C = true
  po : PySem.W.plainOver K C = true
  sa : PySem.W.findIn K (.ref C) "__setattr__" = some (some (.builtin "object.__setattr__"))
theorem Cls.get {K : PySem.W.Frag} {C : Addr} (c : Cls K C) (f : Str) : PySem.W.plainGet K C f = true := c.pg
/-- no class of it has the name -/
def NoAttr (K : PySem.W.Frag) (C : Addr) (f : Str) : Prop := PySem.W.findIn K (.ref C) f = some none
theorem NoAttr.taker {K : PySem.W.Frag} {C : Addr} {f : Str} (n : NoAttr K C f) : PySem.W.takerIn K C f = some none := by
  unfold PySem.W.takerIn
  rw [show PySem.W.findIn K (.ref C) f = some none from n]
  rfl
/-- a method: a plain def of the class or of one above it -/
structure Meth (K : PySem.W.Frag) (C : Addr) (m : Str) (f : Addr) : Prop where
  at_ : PySem.W.findIn K (.ref C) m = some (some (.ref f))
  fn : PySem.W.isFn K (.ref f) = true
  kp : PySem.W.keepIn K (.ref f) = true

section
variable {X : Cx} {pins : List (Addr × Obj)} {σ : St} {H : Hp} {s : Shared} {a C dx : Addr} {fs : List (Str × V)} {f : Str} {v : V} {A : Around} {E : Value → Shared → Prop}

theorem getattr_ok {b : Bool} {Q : Value → Shared → Prop} (I : Inv X pins σ H s) (e : H a = some (.ins C dx fs)) (c : Cls X.K C) (n : NoAttr X.K C f) (l : fs.lookup f = some v)
    (h : ∀ u s', Inv X pins σ H s' → RelV v u → Q u s') : wpAny (model X.prog X.w) A (getAttr (.ref a) f b) Q E s := by
  obtain ⟨mA, O, r, _, _, _⟩ := ins_get I.hok e
  obtain ⟨u, hu, ru⟩ := RelO.some_of (v := v) (o := mA f) (by rw [← l]; exact r f)
  exact get_map I.kIn O (c.get f) c.hd n hu (handed_of ru) (h u _ (I.tok _) ru)

theorem getmeth_ok {m : Str} {g : Addr} {pl : Sem Bool} {Q : Value × List Value → Shared → Prop} (I : Inv X pins σ H s) (e : H a = some (.ins C dx fs)) (c : Cls X.K C) (k : Meth X.K C m g) (l : fs.lookup m = none)
    (h : Q (.ref g, [.ref a]) s) : wpAny (model X.prog X.w) A (getMethod (.ref a) m pl) Q E s := by
  obtain ⟨mA, O, r, _, _, _⟩ := ins_get I.hok e
  have hn : mA m = none := RelO.none_of (by rw [← l]; exact r m)
  exact get_meth I.kIn O (c.get m) k.at_ k.fn hn h

theorem setattr_ok {y : V} {u : Value} {Q : Unit → Shared → Prop} (I : Inv X pins σ H s) (e : H a = some (.ins C dx fs)) (c : Cls X.K C) (n : NoAttr X.K C f) (hl : fs.length < 1000) (ry : RelV y u)
    (h : ∀ s', Inv X pins σ (upd H a (.ins C dx (putF f y fs))) s' → Q () s') : wpAny (model X.prog X.w) A (setAttr (.ref a) f u) Q E s := by
  obtain ⟨mA, O, r, wi, _, ho⟩ := ins_get I.hok e
  have hz : (fs.map (·.1)).length ≤ sizeLine := by rw [List.length_map, sizeLine_eq]; omega
  refine set_map I.kIn O c.sa c.po n.taker c.hd wi hz fun h' O' sb => h _ ?_
  have hd : ∃ o, h'.get? dx = some o := let ⟨o, _, _, e', _⟩ := O'.ns; ⟨o, e'⟩
  refine I.write (x := a) (e := dx) (by rw [e]; exact True.intro) (.inr ho) (fun b q hb z => (sb.2 b hb).trans z) hd ?_
  refine ⟨by rw [upd_ne O.ne]; exact ho, ?_, O.ne, O'.obj, _, O'.ns, fun g => ?_, fun g hg => ?_⟩
  · have := length_putF f y fs; omega
  · show RelO ((putF f y fs).lookup g) (if g = f then some u else mA g)
    rw [lookup_putF]
    by_cases q : g = f
    · rw [if_pos q, if_pos q]; exact ry
    · rw [if_neg q, if_neg q]; exact r g
  · by_cases q : g = f
    · rw [q]; exact (keys_putF f y fs).1
    · refine (keys_putF f y fs).2 g (wi g fun z => hg ?_)
      show (if g = f then some u else mA g) = none
      rw [if_neg q]; exact z

/-- a new instance, tracked, without attributes -/
theorem Inv.made (I : Inv X pins σ H s) : Inv X pins σ (upd (upd H s.heap.objs.size (.own (s.heap.objs.size + 1))) (s.heap.objs.size + 1) (.ins C s.heap.objs.size []))
    { s with heap := (s.heap.push PySem.W.emptyDict).push (PySem.W.instObj C s.heap.objs.size) } := by
  have e1 : (s.heap.push PySem.W.emptyDict).get? s.heap.objs.size = some PySem.W.emptyDict := Heap.get?_push_size s.heap rfl
  have e2 : ((s.heap.push PySem.W.emptyDict).push (PySem.W.instObj C s.heap.objs.size)).get? (s.heap.objs.size + 1) = some (PySem.W.instObj C s.heap.objs.size) := by
    have := Heap.get?_push_size (s.heap.push PySem.W.emptyDict) (o := PySem.W.instObj C s.heap.objs.size) rfl
    rwa [Heap.size_push] at this
  have e3 : (s.heap.push PySem.W.emptyDict).Ns s.heap.objs.size (fun _ => none) := ⟨PySem.W.emptyDict, #[], _, e1, rfl, (fun e he => absurd he (by simp)), fun _ => rfl⟩
  have I1 := I.laid (a := s.heap.objs.size) (o := .own (s.heap.objs.size + 1)) (h' := s.heap.push PySem.W.emptyDict) (t' := s.toks) (fun b u q => Heap.get?_push_of_some _ q) (Nat.le_refl _) ⟨_, e1⟩
  refine I1.laid (a := s.heap.objs.size + 1) (o := .ins C s.heap.objs.size []) (t' := s.toks) (fun b u q => Heap.get?_push_of_some _ q) (Nat.le_of_eq (Heap.size_push _ _)) ?_
  have ne : s.heap.objs.size ≠ s.heap.objs.size + 1 := Nat.ne_of_lt (Nat.lt_succ_self _)
  refine ⟨by rw [upd_ne ne, upd_same], Nat.zero_le _, ne, e2, fun _ => none, (Heap.Ns1.of_empty e3).at fun o q => Heap.get?_push_of_some _ q, fun _ => True.intro, fun y hy => absurd rfl hy⟩

/-- e.f where nothing but the object is asked: through attributeBase (super) and the last hold -/
theorem attr_of {prog : Program} {w : World} {env : Env} {e : Expr} {f : Str} {pos : Pos} {s : Shared} {Q : Value → Shared → Prop} (hb : attributeBase e f env (eval e env) = eval e env)
    (h : wpAny (model prog w) A (eval e env) (fun o s₁ => wpAny (model prog w) A (getAttr o f true) Q E s₁) E s) : wpAny (model prog w) A (eval (.Attribute e f pos) env) Q E s :=
  Attribute_any_ h (by rw [arm_eval_Attribute, hb])
end

/-! ### readings and rules -/
/-- e.f, an attribute of the instance -/
def tFld (K : PySem.W.Frag) (ta : TE) (f : Str) : TE := fun σ H Q => ta σ H fun x H1 => ∃ a C dx fs v, x = .ref a ∧ H1 a = some (.ins C dx fs) ∧ Cls K C ∧ NoAttr K C f ∧ fs.lookup f = some v ∧ Q v H1
/-- e.f = value -/
def sFld (K : PySem.W.Frag) (ta tv : TE) (f : Str) : TS := fun D σ H => tv σ H fun y H1 => ta σ H1 fun x H2 => ∃ a C dx fs, x = .ref a ∧ H2 a = some (.ins C dx fs) ∧ Cls K C ∧ NoAttr K C f ∧ fs.length < 1000 ∧
  D.nx σ (upd H2 a (.ins C dx (putF f y fs)))
section
variable {X : Cx} {o e value : Expr} {f : Str} {pos pos' tpos : Pos} {ta tv : TE}
theorem pe_fld (he : PE X e ta) (hb : attributeBase e f X.env (eval e X.env) = eval e X.env) : PE X (.Attribute e f pos) (tFld X.K ta f) := by
  intro pins s σ H Q I h
  refine attr_of hb (thn (he pins s σ H _ I h) fun u s1 ⟨x, H1, I1, rx, a, C, dx, fs, v, ex, ea, c, n, l, q⟩ => ?_)
  subst ex
  obtain rfl : u = Value.ref a := rx
  exact getattr_ok I1 ea c n l fun u' s2 I2 ru => ⟨v, H1, I2, ru, q⟩
theorem ps_fld (ha : PE X o ta) (hv : PE X value tv) (hs : swapsWith value (some (.Attribute o f pos')) pos.line X.env = pure false) : PS X (.Assign [.Attribute o f pos'] value pos) (sFld X.K ta tv f) := by
  intro pins s σ H D I h
  refine plainObj_wpAny_Assign_Attribute (thn (hv pins s σ H _ I h) fun u s1 ⟨y, H1, I1, ry, q⟩ => thn (ha pins s1 σ H1 _ I1 q) fun ov s2 ⟨x, H2, I2, rx, a, C, dx, fs, ex, ea, c, n, l, q2⟩ => ?_) hs
  subst ex
  obtain rfl : ov = Value.ref a := rx
  exact setattr_ok I2 ea c n l ry fun s3 I3 => ⟨σ, _, I3, q2⟩
end

/-! ### isinstance -/
section
variable {X : Cx} {pins : List (Addr × Obj)} {σ : St} {H : Hp} {s : Shared} {A : Around} {E : Value → Shared → Prop} {Q : Value → Shared → Prop} {c : Value} {b : Bool}
/-- the type of a value, as the fragment's deciders take it; for an instance its class -/
inductive TyOf (K : PySem.W.Frag) (H : Hp) : V → Value → Prop where
  | non : TyOf K H .non (.type "NoneType")
  | bl (x : Bool) : TyOf K H (.bl x) (.type "bool")
  | int (i : Int) : TyOf K H (.int i) (.type "int")
  | str (x : Str) : TyOf K H (.str x) (.type "str")
  | flt (x : UInt64) : TyOf K H (.flt x) (.type "float")
  | lst {a : Addr} {xs : List V} (e : H a = some (.lst xs)) : TyOf K H (.ref a) (.type "list")
  | frz {a : Addr} {o : Obj} {xs : List V} (e : H a = some (.frz o (.lst xs))) : TyOf K H (.ref a) (.type "list")
  | tup {a : Addr} {xs : List V} (e : H a = some (.tup xs)) : TyOf K H (.ref a) (.type "tuple")
  | dK {a : Addr} {kvs : List (Key × V)} (e : H a = some (.dK kvs)) : TyOf K H (.ref a) (.type "dict")
  | dT {a : Addr} {kvs : List (List Key × V)} (e : H a = some (.dT kvs)) : TyOf K H (.ref a) (.type "dict")
  | ins {a C dx : Addr} {fs : List (Str × V)} (e : H a = some (.ins C dx fs)) (cl : Cls K C) (ha : PySem.W.findIn K (.ref C) "__class__" = some (some (.builtin "object.__class__")))
      (hn : PySem.W.specialIn K (.builtin "object.__class__") "__get__" = some (some (.builtin "getset_descriptor.__get__"))) (htk : PySem.W.takesIn K (.builtin "object.__class__") = some true)
      (hm : PySem.W.mroIn K C (.type "object") = some true) : TyOf K H (.ref a) (.ref C)
/-- isinstance(x, c) for one class c, a built-in or an own one: kitOne's answer -/
theorem isinst_ok {x : V} {u t : Value} (I : Inv X pins σ H s) (rx : RelV x u) (ty : TyOf X.K H x t) (e : PySem.W.kitOne X.K t c = some b) (h : ∀ tk, Q (.bool b) { s with toks := tk }) :
    wpAny (model X.prog X.w) A (call (.builtin "isinstance") [u, c]) Q E s := by
  cases ty with
  | non => cases (show u = Value.none from rx); exact PySem.W.kia_one PySem.W.kitx_none I.kIn True.intro e (fun z => nomatch z) h
  | bl y => cases (show u = Value.bool y from rx); exact PySem.W.kia_one PySem.W.kitx_bool I.kIn True.intro e (fun z => nomatch z) h
  | int i => obtain ⟨t, q⟩ := (show ∃ t, u = Value.int i t from rx); cases q; exact PySem.W.kia_one PySem.W.kitx_int I.kIn True.intro e (fun z => nomatch z) h
  | str y => obtain ⟨t, q⟩ := (show ∃ t, u = Value.str y t from rx); cases q; exact PySem.W.kia_one PySem.W.kitx_str I.kIn True.intro e (fun z => nomatch z) h
  | flt y => obtain ⟨t, q⟩ := (show ∃ t, u = Value.float y t from rx); cases q; exact PySem.W.kia_one PySem.W.kitx_float I.kIn True.intro e (fun z => nomatch z) h
  | @lst a xs ea =>
    cases (show u = Value.ref a from rx)
    obtain ⟨_, _, n, _, h1⟩ := (show ObjOk X.prog X.w H s.heap a (.lst xs) from I.hok a _ ea)
    exact PySem.W.kia_one PySem.W.kitx_list I.kIn ⟨_, h1, rfl⟩ e (fun z => nomatch z) h
  | @frz a ob xs ea =>
    cases (show u = Value.ref a from rx)
    obtain ⟨_, _, _, n, _, h1⟩ := (show ObjOk X.prog X.w H s.heap a (.frz ob (.lst xs)) from I.hok a _ ea)
    exact PySem.W.kia_one PySem.W.kitx_list I.kIn ⟨_, h1, rfl⟩ e (fun z => nomatch z) h
  | @tup a xs ea =>
    cases (show u = Value.ref a from rx)
    obtain ⟨_, _, _, p⟩ := (show ObjOk X.prog X.w H s.heap a (.tup xs) from I.hok a _ ea)
    obtain ⟨o, h1, h2, _⟩ := p
    exact PySem.W.kia_one PySem.W.kitx_tuple I.kIn ⟨o, h1, h2⟩ e (fun z => nomatch z) h
  | @dK a kvs ea =>
    cases (show u = Value.ref a from rx)
    obtain ⟨_, _, vs, _, p⟩ := (show ObjOk X.prog X.w H s.heap a (.dK kvs) from I.hok a _ ea)
    obtain ⟨o, es, ep, h1, h2, _⟩ := p
    exact PySem.W.kia_one PySem.W.kitx_dict I.kIn ⟨o, h1, h2.1⟩ e (fun z => nomatch z) h
  | @dT a kvs ea =>
    cases (show u = Value.ref a from rx)
    obtain ⟨_, _, xs, _, o, es, ep, h1, h2, _⟩ := (show ObjOk X.prog X.w H s.heap a (.dT kvs) from I.hok a _ ea)
    exact PySem.W.kia_one PySem.W.kitx_dict I.kIn ⟨o, h1, h2.1⟩ e (fun z => nomatch z) h
  | @ins a C dx fs ea cl ha hn htk hm =>
    cases (show u = Value.ref a from rx)
    obtain ⟨mA, O, _⟩ := ins_get I.hok ea
    obtain ⟨od, J, _⟩ := O.look
    exact PySem.W.kia_one (PySem.W.kitx_own (cl.get _) cl.hd ha hn htk hm) I.kIn J e (fun z => nomatch z) h
end
end L2

namespace L2
open PySem PySem.Spec PyProof.Rows

/-! ### room -/
structure Room (k : Nat) (A : Around) : Prop where
  hd : A.handled = none
  dp : A.depth + 3 * k + 5 < recursionLimit
  un : A.units + 16 * k + 200 < cLine
theorem Room.mono {j k : Nat} {A : Around} (r : Room k A) (h : j ≤ k) : Room j A := ⟨r.hd, by have := r.dp; omega, by have := r.un; omega⟩
theorem Room.deeper {k : Nat} {A : Around} (r : Room (k + 1) A) (env : Env) : Room k (A.deeper env) :=
  ⟨r.hd, by have := r.dp; show A.depth + 1 + 3 * k + 5 < _; omega, by have := r.un; show A.units + 3 + 16 * k + 200 < _; omega⟩
theorem Room.in1 {k : Nat} {A : Around} (r : Room (k + 1) A) : Room k A.in1 :=
  ⟨r.hd, by have := r.dp; show A.depth + 3 * k + 5 < _; omega, by have := r.un; show A.units + 1 + 16 * k + 200 < _; omega⟩
theorem make_depth {A : Around} {C : Addr} {us : List Value} {kw : List (Str × Value)} : (A.under (.builtin "type.__call__" ⟨.ref C :: us, kw⟩)).depth = A.depth + 1 := by
  first | rfl | simp [Around.under, Code.weight, Code.isCreation, Code.isGuard, Code.isCaller, Code.frames, Code.isFrame, guardIds]
theorem make_units {A : Around} {C : Addr} {us : List Value} {kw : List (Str × Value)} : (A.under (.builtin "type.__call__" ⟨.ref C :: us, kw⟩)).units = A.units + 1 := by
  first | rfl | simp [Around.under, Code.cUnits, Code.frames, Code.isFrame]
theorem Room.make {k : Nat} {A : Around} (r : Room (k + 1) A) (C : Addr) (us : List Value) (kw : List (Str × Value)) : Room k (A.under (.builtin "type.__call__" ⟨.ref C :: us, kw⟩)) :=
  ⟨r.hd, by have := r.dp; rw [make_depth]; omega, by have := r.un; rw [make_units]; omega⟩
theorem Room.depth {k : Nat} {A : Around} (r : Room k A) : A.depth < recursionLimit := by have := r.dp; omega
theorem Room.units {k : Nat} {A : Around} (r : Room k A) : A.units + 64 < cLine := by have := r.un; omega
theorem Room.units0 {k : Nat} {A : Around} (r : Room k A) : A.units < cLine := by have := r.un; omega

/-! ### argument lists and displays -/
def tNil : TA := fun _ H Q => Q [] H
def tCons (ta : TE) (tr : TA) : TA := fun σ H Q => ta σ H fun x H1 => tr σ H1 fun xs H2 => Q (x :: xs) H2
section
variable {X : Cx} {e : Expr} {es : List Expr} {te : TE} {t : TA} {pos : Pos}
theorem pa_nil : PA X [] tNil := fun _ _ _ _ H Q I h => Calls.spliced_nil ⟨[], H, I, .nil, h⟩
theorem pa_cons (ha : PE X e te) (hr : PA X es t) (hs : starEach (e :: es) X.env = (false, eval e X.env) :: starEach es X.env := by rfl) : PA X (e :: es) (tCons te t) := by
  intro pos pins s σ H Q I h
  rw [hs]
  show wpAny _ _ (spliced ((false, eval e X.env) :: backTo pos (starEach es X.env))) _ _ s
  refine Calls.spliced_cons (thn (ha pins s σ H _ I h) fun u s1 ⟨x, H1, I1, r1, q1⟩ => ?_)
  exact thn (hr pos pins s1 σ H1 _ I1 q1) fun us s2 ⟨xs, H2, I2, r2, q2⟩ => ⟨x :: xs, H2, I2, .cons r1 r2, q2⟩

/-- a tuple, a list of written items -/
def tTup (t : TA) : TE := fun σ H Q => t σ H fun xs H1 => xs.length ≤ sizeLine ∧ ∀ p, H1 p = none → Q (.ref p) (upd H1 p (.tup xs))
def tLst (t : TA) : TE := fun σ H Q => t σ H fun xs H1 => xs.length ≤ sizeLine ∧ ∀ p, H1 p = none → Q (.ref p) (upd H1 p (.lst xs))
theorem pe_tup {x1} (h : PA X es t) : PE X (.Tuple es x1 pos) (tTup t) := by
  intro pins s σ H Q I hq
  refine wpAny_Tuple_spliced (thn (h pos pins s σ H _ I hq) fun us s1 ⟨xs, H1, I1, r, z, q⟩ => ⟨by rw [← r.length]; exact z, ?_⟩)
  have hf : H1 s1.heap.objs.size = none := I1.hok.fresh (Nat.le_refl _)
  refine ⟨.ref s1.heap.objs.size, upd H1 s1.heap.objs.size (.tup xs), I1.laid (t' := s1.toks) (fun b u e => Heap.get?_push_of_some _ e) (Nat.le_refl _) ?_, rfl, q _ hf⟩
  exact ⟨z, us, r, ⟨_, Heap.get?_push_size _ rfl, rfl, _, rfl⟩⟩
theorem pe_lst (h : PA X es t) : PE X (.List es pos) (tLst t) := by
  intro pins s σ H Q I hq
  refine wpAny_List_spliced (thn (h pos pins s σ H _ I hq) fun us s1 ⟨xs, H1, I1, r, z, q⟩ => ⟨by rw [← r.length]; exact z, ?_⟩)
  have hf : H1 s1.heap.objs.size = none := I1.hok.fresh (Nat.le_refl _)
  refine ⟨.ref s1.heap.objs.size, upd H1 s1.heap.objs.size (.lst xs), I1.laid (t' := s1.toks) (fun b u e => Heap.get?_push_of_some _ e) (Nat.le_refl _) ?_, rfl, q _ hf⟩
  exact ⟨z, us, 0, r, Heap.get?_push_size _ rfl⟩
end

/-! ### what a def promises -/
/-- a def's promise: the bound arguments in the parameters' order, the heap, the wanted end, the wanted exception -/
abbrev Sp := List V → Hp → VK → XK → Prop
/-- how an exception lies behind a call (file 08 gives it): the callers' frames, abstract heap and state ahead of the call, the wish, the exception, the state -/
abbrev CXT := List Env → Hp → Shared → XK → Value → Shared → Prop

/-- the state at a call -/
structure Env0 (P : Program) (w : World) (K : PySem.W.Frag) (mg : Str → Option Value) (base : Heap) (A : Around) (outer : List Env) (s : Shared) (H : Hp) : Prop where
  frames : A.frames = some outer
  mod : Mod K mg base
  bs : ∀ b o, base.get? b = some o → s.heap.get? b = some o ∧ H b = none
  bsz : base.objs.size ≤ s.heap.objs.size
  funs : s.heap.FunFrames base outer
  frf : ∀ b ∈ frs outer, H b = none
  hok : HOk P w H s.heap
  bare : AllBare s.gens
/-- a call's end -/
def CE (outer : List Env) (P : Program) (w : World) (H : Hp) (s : Shared) (Q : VK) (u : Value) (s' : Shared) : Prop :=
  ∃ v H', s'.os = s.os ∧ AllBare s'.gens ∧ Un (frs outer) [] H H' s.heap s'.heap ∧ HOk P w H' s'.heap ∧ RelV v u ∧ Q v H'
def CR (CX : CXT) (outer : List Env) (P : Program) (w : World) (H : Hp) (s : Shared) (Q : VK) (E : XK) (r : Result) (s' : Shared) : Prop :=
  match r with
  | .ok (.ret u) => CE outer P w H s Q u s'
  | .ok _ => False
  | .error e => CX outer H s E e s'
structure FnOk (P : Program) (w : World) (K : PySem.W.Frag) (mg : Str → Option Value) (base : Heap) (CX : CXT) (k : Nat) (f : Addr) (fd : FuncData) (ps : List Str) (sp : Sp) : Prop where
  len : ∀ vs H Q E, sp vs H Q E → vs.length = ps.length
  run : ∀ (A : Around) (outer : List Env) (s : Shared) (H : Hp) (args : Args) (us : List Value) (vs : List V) (Q : VK) (E : XK), Room k A → Env0 P w K mg base A outer s H → BindsTo s fd args (ps.zip us) → Vals vs us → sp vs H Q E →
    codeAny (model P w) A (.call (.ref f) args) (CR CX outer P w H s Q E) s
theorem FnOk.mono {P : Program} {w : World} {K : PySem.W.Frag} {mg : Str → Option Value} {base : Heap} {CX : CXT} {j k : Nat} {f : Addr} {fd : FuncData} {ps : List Str} {sp : Sp} (F : FnOk P w K mg base CX j f fd ps sp) (h : j ≤ k) :
    FnOk P w K mg base CX k f fd ps sp := ⟨F.len, fun A outer s H args us vs Q E hr => F.run A outer s H args us vs Q E (hr.mono h)⟩
/-- a weaker promise -/
theorem FnOk.imp {P : Program} {w : World} {K : PySem.W.Frag} {mg : Str → Option Value} {base : Heap} {CX : CXT} {k : Nat} {f : Addr} {fd : FuncData} {ps : List Str} {sp sp' : Sp} (F : FnOk P w K mg base CX k f fd ps sp)
    (h : ∀ vs H Q E, sp' vs H Q E → sp vs H Q E) : FnOk P w K mg base CX k f fd ps sp' :=
  ⟨fun vs H Q E q => F.len vs H Q E (h _ _ _ _ q), fun A outer s H args us vs Q E hr he hb hv hs => F.run A outer s H args us vs Q E hr he hb hv (h _ _ _ _ hs)⟩

theorem Env0.make {P : Program} {w : World} {K : PySem.W.Frag} {mg : Str → Option Value} {base : Heap} {A : Around} {outer : List Env} {s : Shared} {H : Hp} (e : Env0 P w K mg base A outer s H) (C : Addr) (us : List Value) (kw : List (Str × Value)) :
    Env0 P w K mg base (A.under (.builtin "type.__call__" ⟨.ref C :: us, kw⟩)) outer s H := ⟨by first | exact e.frames | (simpa [Around.under, Code.envs, Code.isFrame, pushEnvs] using e.frames), e.mod, e.bs, e.bsz, e.funs, e.frf, e.hok, e.bare⟩
theorem Env0.in1 {P : Program} {w : World} {K : PySem.W.Frag} {mg : Str → Option Value} {base : Heap} {A : Around} {outer : List Env} {s : Shared} {H : Hp} (e : Env0 P w K mg base A outer s H) :
    Env0 P w K mg base A.in1 outer s H := ⟨e.frames, e.mod, e.bs, e.bsz, e.funs, e.frf, e.hok, e.bare⟩

section
variable {X : Cx} {pins : List (Addr × Obj)} {σ : St} {H : Hp} {s s' : Shared}
/-- from a body: what a callee wants -/
theorem Inv.env0 (I : Inv X pins σ H s) : Env0 X.prog X.w X.K X.mg X.base X.A X.stack s H :=
  ⟨I.ok.frames, I.ok.mod, I.bs, Nat.le_trans I.ok.bsz I.sz, I.stack, I.stkFree, I.hok, I.bare⟩
/-- behind a call -/
theorem Inv.after {Q : VK} {u : Value} (I : Inv X pins σ H s) (h : CE X.stack X.prog X.w H s Q u s') : EP X pins σ Q u s' := by
  obtain ⟨v, H', os, bare, un, hok, r, q⟩ := h
  obtain ⟨hh, g, d, t, os'⟩ := s'
  obtain rfl : os' = s.os := os
  exact ⟨v, H', I.call (h' := hh) (g' := g) (d' := d) (t' := t) (ch := []) un hok bare (fun b z => absurd z (by simp)), r, q⟩
end

/-! ### calls -/
/-- f(..): the written arguments, then the defaults dvs; E: what is wanted of an exception -/
def tCall (sp : Sp) (dvs : List V) (E : XK) (t : TA) : TE := fun σ H Q => t σ H fun vs H1 => sp (vs ++ dvs) H1 Q E
/-- o.m(..) of an instance of the class at C -/
def tMeth (C : Addr) (m : Str) (sp : Sp) (dvs : List V) (E : XK) (ta : TE) (t : TA) : TE := fun σ H Q => ta σ H fun x H1 => ∃ a dx fs, x = .ref a ∧ H1 a = some (.ins C dx fs) ∧ fs.lookup m = none ∧
  t σ H1 fun vs H2 => sp (x :: (vs ++ dvs)) H2 Q E
/-- C(..): a new instance and its dict, then __init__ -/
def tMake (C : Addr) (sp : Sp) (dvs : List V) (E : XK) (t : TA) : TE := fun σ H Q => t σ H fun vs H1 => ∀ x dx, H1 x = none → H1 dx = none → dx ≠ x →
  sp (.ref x :: (vs ++ dvs)) (upd (upd H1 dx (.own x)) x (.ins C dx [])) (fun v H2 => v = .non ∧ Q (.ref x) H2) E

/-- how the parameters are bound: us the positional arguments, kw the keywords' values by name, ds the defaults that fill up -/
def Binds (K : PySem.W.Frag) (fd : FuncData) (ps : List Str) (ds : List Value) : Prop :=
  ∀ (s : Shared) (us : List Value), K.In s.heap → (us ++ ds).length = ps.length → BindsTo s fd ⟨us, []⟩ (ps.zip (us ++ ds))
/-- every parameter is given -/
theorem Binds.all {K : PySem.W.Frag} {fd : FuncData} {ps : List Str} (h : ∀ us : List Value, us.length = ps.length → bindArgs fd ⟨us, []⟩ = pure (ps.zip us)) : Binds K fd ps [] := fun s us _ hl => by
  rw [List.append_nil] at hl ⊢
  exact .of_eq (h us hl)

/-- an exception of a callee reaches what this body wants of exceptions -/
def Passes (CX : CXT) (X : Cx) (E : XK) : Prop := ∀ (pins : List (Addr × Obj)) (σ : St) (H : Hp) (s : Shared) (e : Value) (s' : Shared), Inv X pins σ H s → CX X.stack H s E e s' → X.xe e s'

section
variable {X : Cx} {CX : CXT} {k : Nat} {f C : Addr} {fd : FuncData} {ps : List Str} {sp : Sp} {dvs : List V} {ds : List Value} {E : XK} {x m : Str} {p pos apos : Pos} {e o : Expr} {es : List Expr} {ta : TE} {t : TA}

/-- the callee runs -/
theorem run_fn {pins : List (Addr × Obj)} {σ : St} {H : Hp} {s : Shared} {Q : VK} {us : List Value} {vs : List V} (F : FnOk X.prog X.w X.K X.mg X.base CX k f fd ps sp) (hr : Room k X.A) (hb : Binds X.K fd ps ds) (hd : Vals dvs ds) (hx : Passes CX X E)
    (I : Inv X pins σ H s) (r : Vals vs us) (h : sp (vs ++ dvs) H Q E) : wpAny (model X.prog X.w) X.A (call (.ref f) us) (EP X pins σ Q) X.xe s := by
  have r2 : Vals (vs ++ dvs) (us ++ ds) := r.append hd
  have hl : (us ++ ds).length = ps.length := by rw [← r2.length]; exact F.len _ _ _ _ h
  refine wpAny_call (codeAny_mono (F.run X.A X.stack s H ⟨us, []⟩ (us ++ ds) (vs ++ dvs) Q E hr I.env0 (hb s us I.kIn hl) r2 h) fun r s' hq => ?_)
  cases r with
  | error e => exact hx pins σ H s e s' I hq
  | ok fl =>
    cases fl with
    | ret u => exact I.after hq
    | next => exact False.elim hq
    | brk => exact False.elim hq
    | cont => exact False.elim hq

theorem pe_call (F : FnOk X.prog X.w X.K X.mg X.base CX k f fd ps sp) (hr : Room k X.A) (hg : Gl X x) (hm : X.mg x = some (.ref f)) (hk : PySem.W.keepIn X.K (.ref f) = true) (hb : Binds X.K fd ps ds) (hd : Vals dvs ds) (hx : Passes CX X E)
    (ha : PA X (e :: es) t) (hdb : (x == ("__debug__" : Str)) = false := by decide) (he : starEach (e :: es) X.env = (false, eval e X.env) :: starEach es X.env := by rfl) (hpl : (backTo pos (starEach es X.env)).any (·.1) = false := by rfl) :
    PE X (.Call (.Name x p) (e :: es) [] pos) (tCall sp dvs E t) := by
  intro pins s σ H Q I h
  refine wpAny_Call_Name_kw (ld_glob I hg hm ?_ hdb)
  refine PySem.W.callWith_K (h₀ := X.base) I.ok.mod.kin hk (thn (ha pos pins s σ H _ I h) fun us s1 ⟨vs, H1, I1, r, q⟩ => ⟨I1.kIn, ?_⟩) he hpl
  exact run_fn F hr hb hd hx I1 r q
/-- o.m(e, ..) -/
theorem pe_meth {pl : Sem Bool} (he : PE X o ta) (c : Cls X.K C) (hm : Meth X.K C m f) (F : FnOk X.prog X.w X.K X.mg X.base CX k f fd ps sp) (hr : Room k X.A) (hb : Binds X.K fd ps ds) (hd : Vals dvs ds) (hx : Passes CX X E) (ha : PA X (e :: es) t)
    (hst : starEach (e :: es) X.env = (false, eval e X.env) :: starEach es X.env := by rfl) (hpl : (backTo pos (starEach es X.env)).any (·.1) = false := by rfl)
    (ht : eval (.Call (.Attribute o m apos) (e :: es) [] pos) X.env = (do
      let ov ← eval o X.env
      standAt apos.atName
      let (f, first) ← holding [ov] (getMethod ov m pl)
      callWith pos f first (backTo pos (starEach (e :: es) X.env)) (backToKw pos (keywordEach [] X.env))) := by rfl) :
    PE X (.Call (.Attribute o m apos) (e :: es) [] pos) (tMeth C m sp dvs E ta t) := by
  intro pins s σ H Q I h
  refine PySem.W.methodCall_KW (pl := pl) (thn (he pins s σ H _ I h) fun u s1 ⟨x, H1, I1, rx, a, dx, fs, ex, ea, l, q⟩ => ?_) ht
  subst ex
  obtain rfl : u = Value.ref a := rx
  refine getmeth_ok I1 ea c hm l ?_
  refine PySem.W.callWith_K (first := [.ref a]) (h₀ := X.base) I.ok.mod.kin hm.kp (thn (ha pos pins s1 σ H1 _ I1 q) fun us s2 ⟨vs, H2, I2, r, q2⟩ => ⟨I2.kIn, ?_⟩) hst hpl
  exact run_fn (us := .ref a :: us) (vs := .ref a :: vs) F hr hb hd hx I2 (.cons rfl r) q2
/-- o.m() -/
theorem pe_meth0 {pl : Sem Bool} (he : PE X o ta) (c : Cls X.K C) (hm : Meth X.K C m f) (F : FnOk X.prog X.w X.K X.mg X.base CX k f fd ps sp) (hr : Room k X.A) (hb : Binds X.K fd ps ds) (hd : Vals dvs ds) (hx : Passes CX X E)
    (ht : eval (.Call (.Attribute o m apos) [] [] pos) X.env = (do
      let ov ← eval o X.env
      standAt apos.atName
      let (f, first) ← holding [ov] (getMethod ov m pl)
      callWith pos f first (backTo pos (starEach [] X.env)) (backToKw pos (keywordEach [] X.env))) := by rfl) :
    PE X (.Call (.Attribute o m apos) [] [] pos) (tMeth C m sp dvs E ta tNil) := by
  intro pins s σ H Q I h
  refine PySem.W.methodCall_KW (pl := pl) (thn (he pins s σ H _ I h) fun u s1 ⟨x, H1, I1, rx, a, dx, fs, ex, ea, l, q⟩ => ?_) ht
  subst ex
  obtain rfl : u = Value.ref a := rx
  refine getmeth_ok I1 ea c hm l ?_
  exact PySem.W.callWith_K0 (first := [.ref a]) I1.kIn hm.kp (run_fn (us := [.ref a]) (vs := [.ref a]) F hr hb hd hx I1 (.cons rfl .nil) q)

/-- what a class must have to be made -/
structure Mk (K : PySem.W.Frag) (C f : Addr) : Prop where
  makes : PySem.W.makesIn K C = true
  init : PySem.W.findIn K (.ref C) "__init__" = some (some (.ref f))
  fn : PySem.W.isFn K (.ref f) = true
  kp : PySem.W.keepIn K (.ref C) = true

theorem run_make {pins : List (Addr × Obj)} {σ : St} {H : Hp} {s : Shared} {Q : VK} {us : List Value} {vs : List V} (M : Mk X.K C f) (F : FnOk X.prog X.w X.K X.mg X.base CX k f fd ps sp) (hr : Room (k + 1) X.A) (hb : Binds X.K fd ps ds) (hd : Vals dvs ds)
    (hx : Passes CX X E) (I : Inv X pins σ H s) (r : Vals vs us)
    (h : ∀ x dx, H x = none → H dx = none → dx ≠ x → sp (.ref x :: (vs ++ dvs)) (upd (upd H dx (.own x)) x (.ins C dx [])) (fun v H2 => v = .non ∧ Q (.ref x) H2) E) :
    wpAny (model X.prog X.w) X.A (call (.ref C) us) (EP X pins σ Q) X.xe s := by
  have hq := h (s.heap.objs.size + 1) s.heap.objs.size (I.hok.fresh (Nat.le_succ _)) (I.hok.fresh (Nat.le_refl _)) (Nat.ne_of_lt (Nat.lt_succ_self _))
  have I2 := Inv.made (C := C) I
  have r2 : Vals (V.ref (s.heap.objs.size + 1) :: (vs ++ dvs)) (Value.ref (s.heap.objs.size + 1) :: (us ++ ds)) := .cons rfl (r.append hd)
  have hl : (Value.ref (s.heap.objs.size + 1) :: us ++ ds).length = ps.length := by
    have e := r2.length
    rw [F.len _ _ _ _ hq] at e
    exact e.symm
  refine wpAny_call (make_map (f := f) I.kIn M.makes M.init (beq_iff_eq.mp M.fn) (codeAny_mono (F.run _ X.stack _ _ ⟨Value.ref (s.heap.objs.size + 1) :: us, []⟩ (Value.ref (s.heap.objs.size + 1) :: (us ++ ds)) _ _ E (hr.make C us [])
    (I2.env0.make C us []) (hb _ (Value.ref (s.heap.objs.size + 1) :: us) I2.kIn hl) r2 hq) fun r s' hq' => ?_))
  cases r with
  | error e => exact hx pins σ _ _ e s' I2 hq'
  | ok fl =>
    cases fl with
    | ret u =>
      obtain ⟨v, H', I3, rv, ev, q3⟩ := I2.after hq'
      subst ev
      exact ⟨rv, ⟨V.ref (s.heap.objs.size + 1), H', I3, rfl, q3⟩⟩
    | next => exact False.elim hq'
    | brk => exact False.elim hq'
    | cont => exact False.elim hq'
theorem pe_make0 (M : Mk X.K C f) (F : FnOk X.prog X.w X.K X.mg X.base CX k f fd ps sp) (hr : Room (k + 1) X.A) (hg : Gl X x) (hm : X.mg x = some (.ref C)) (hb : Binds X.K fd ps ds) (hd : Vals dvs ds) (hx : Passes CX X E)
    (hdb : (x == ("__debug__" : Str)) = false := by decide) : PE X (.Call (.Name x p) [] [] pos) (tMake C sp dvs E tNil) := by
  intro pins s σ H Q I h
  refine wpAny_Call_Name_kw (ld_glob I hg hm ?_ hdb)
  exact PySem.W.callWith_K0 I.kIn M.kp (run_make (us := []) M F hr hb hd hx I .nil h)
end

/-! ### keywords -/
section
variable {X : Cx} {CX : CXT} {k : Nat} {f C : Addr} {fd : FuncData} {ps ks : List Str} {sp : Sp} {E : XK} {x m : Str} {p pos apos kpos : Pos} {e o : Expr} {es : List Expr} {kws : List Keyword} {te ta : TE} {t tk : TA} {nm : Option Str}
variable {g : List Value → List Value → List Value} {gV : List V → List V → List V}
end

/-! ### a def's body keeps its promise -/
/-- names: the parameters first -/
structure FnScope (N P : List Str) (sc : Scope) : Prop where
  kind : sc.kind = .function
  co : sc.isCoroutine = false
  gen : sc.isGenerator = false
  nd : N.Nodup
  pre : N.take P.length = P
  par : ∀ x ∈ P, sc.names.lookup x = some .local ∨ sc.names.lookup x = some .cell
  nofree : ∀ y ∈ sc.names, y.2 ≠ .free

theorem bindL_out {kindOf : Str → Option NameKind} {x : Str} : ∀ {binds : List (Str × Value)} {m : Str → Option Value}, (∀ v, (x, v) ∉ binds) → bindL kindOf binds m x = m x
  | [], _, _ => rfl
  | (n, v) :: r, m, h => by
    unfold bindL
    rw [bindL_out fun w hw => h w (List.mem_cons_of_mem _ hw)]
    split
    · have : x ≠ n := by rintro rfl; exact h v List.mem_cons_self
      simp [this]
    · rfl
theorem bindC_out {kindOf : Str → Option NameKind} {x : Str} : ∀ {binds : List (Str × Value)} {m : Str → Option Value}, (∀ v, (x, v) ∉ binds) → bindC kindOf binds m x = m x
  | [], _, _ => rfl
  | (n, v) :: r, m, h => by
    unfold bindC
    rw [bindC_out fun w hw => h w (List.mem_cons_of_mem _ hw)]
    split
    · rfl
    · have : x ≠ n := by rintro rfl; exact h v List.mem_cons_self
      simp [this]
theorem bindL_get {kindOf : Str → Option NameKind} {x : Str} {v : Value} : ∀ {P : List Str} {vs : List Value} {i : Nat} {m : Str → Option Value}, P.Nodup → P[i]? = some x → vs[i]? = some v → kindOf x = some .local →
    bindL kindOf (P.zip vs) m x = some v
  | [], _, _, _, _, h, _, _ => by simp at h
  | _ :: _, [], _, _, _, _, h, _ => by simp at h
  | p :: P, w :: vs, 0, m, nd, h1, h2, hk => by
    simp at h1 h2; subst h1; subst h2
    show bindL kindOf ((p, w) :: P.zip vs) m p = _
    unfold bindL
    rw [bindL_out fun v hv => (List.nodup_cons.mp nd).1 (List.of_mem_zip hv).1, if_pos hk]
    simp
  | p :: P, w :: vs, i + 1, m, nd, h1, h2, hk => by
    show bindL kindOf ((p, w) :: P.zip vs) m x = _
    unfold bindL
    exact bindL_get (i := i) (List.nodup_cons.mp nd).2 (by simpa using h1) (by simpa using h2) hk
theorem bindC_get {kindOf : Str → Option NameKind} {x : Str} {v : Value} : ∀ {P : List Str} {vs : List Value} {i : Nat} {m : Str → Option Value}, P.Nodup → P[i]? = some x → vs[i]? = some v → kindOf x ≠ some .local →
    bindC kindOf (P.zip vs) m x = some v
  | [], _, _, _, _, h, _, _ => by simp at h
  | _ :: _, [], _, _, _, _, h, _ => by simp at h
  | p :: P, w :: vs, 0, m, nd, h1, h2, hk => by
    simp at h1 h2; subst h1; subst h2
    show bindC kindOf ((p, w) :: P.zip vs) m p = _
    unfold bindC
    rw [bindC_out fun v hv => (List.nodup_cons.mp nd).1 (List.of_mem_zip hv).1, if_neg hk]
    simp
  | p :: P, w :: vs, i + 1, m, nd, h1, h2, hk => by
    show bindC kindOf ((p, w) :: P.zip vs) m x = _
    unfold bindC
    exact bindC_get (i := i) (List.nodup_cons.mp nd).2 (by simpa using h1) (by simpa using h2) hk

/-- the names' values at the entry -/
def start (N : List Str) (vs : List V) : St := vs.map some ++ List.replicate (N.length - vs.length) none

/-- the context of a def's body, at its entry; an exception leaves the frame, then lies as CX says -/
def cxOf (CX : CXT) (P : Program) (w : World) (K : PySem.W.Frag) (mg : Str → Option Value) (base : Heap) (N : List Str) (qual : Str) (scope : Scope) (f : Addr) (cd : Value) (A : Around) (outer : List Env) (s : Shared) (H : Hp) (E : XK) : Cx where
  prog := P
  w := w
  K := K
  mg := mg
  base := base
  A := A.deeper (envOfC qual scope s.heap.objs.size f cd)
  N := N
  s₀ := s
  H₀ := H
  env := envOfC qual scope s.heap.objs.size f cd
  outer := outer
  stack := envOfC qual scope s.heap.objs.size f cd :: outer
  ex := []
  calm := true
  fn := fun _ => true
  pn := []
  xe := fun e s' => wpAny (model P w) (A.deeper (envOfC qual scope s.heap.objs.size f cd)) (leaving (envOfC qual scope s.heap.objs.size f cd) e) (fun _ s'' => CX outer H s E e s'') (fun e' s'' => CX outer H s E e' s'') s'

theorem cell_has {sc : Scope} {n : Nat} {x : Str} (h : sc.names.lookup x = some .cell) : ∃ c, (cellsFrom n sc.names []).lookup x = some c := by
  have q := PySem.W.cellsFrom_some sc.names n [] (.inl h)
  exact Option.isSome_iff_exists.mp q

theorem inv_start {CX : CXT} {P : Program} {w : World} {K : PySem.W.Frag} {mg : Str → Option Value} {base : Heap} {N ps : List Str} {qual : Str} {scope : Scope} {f : Addr} {cd : Value} {A : Around} {outer : List Env} {s s1 : Shared} {H : Hp} {E : XK} {us : List Value} {vs : List V}
    (S : FnScope N ps scope) (hd : A.handled = none) (e0 : Env0 P w K mg base A outer s H) (hl : vs.length = ps.length) (r : Vals vs us)
    (x : InCallC s s.heap.objs.size (bindL (envOfC qual scope s.heap.objs.size f cd).kindOf (ps.zip us) fun _ => none) (cellsFrom (s.heap.objs.size + 1) scope.names []) (bindC (envOfC qual scope s.heap.objs.size f cd).kindOf (ps.zip us) fun _ => none) s1) :
    Inv (cxOf CX P w K mg base N qual scope f cd A outer s H E) [] (start N vs) H s1 := by
  have hpl : ps.length ≤ N.length := by have := congrArg List.length S.pre; rw [List.length_take] at this; omega
  obtain ⟨h1, tk, rfl, hk⟩ := x.done
  have noA : ∀ b : Addr, b ∉ (cxOf CX P w K mg base N qual scope f cd A outer s H E).ex := fun b z => absurd (show b ∈ ([] : List Addr) from z) (by simp)
  refine ⟨⟨e0.mod, S.kind, rfl, rfl, Nat.le_refl _, fun y z c h1 h2 => ?_, fun y hy => ?_, fun y c _ h => ?_, fun _ => hd, Around.frames_deeper e0.frames, .inr ⟨rfl, rfl⟩, fun b z => absurd z (noA b), e0.bs, e0.bsz, fun b _ _ => noA b, fun b z => absurd z (noA b), e0.funs, e0.frf⟩,
    rfl, e0.bare, Un.kept hk, ⟨_, x.toInCall.ns, fun i y v h1 h2 h3 => ?_⟩, fun y c h => ⟨_, x.cell y c h⟩, e0.hok.fresh (Nat.le_refl _), fun y c h => ?_, fun p hp => absurd (show p ∈ ([] : List (Addr × Obj)) from hp) (by simp), e0.hok.kept hk, ?_⟩
  · exact name_of_addr x.apart (PySem.mem_of_lookup h1) (PySem.mem_of_lookup h2)
  · have hy : scope.names.lookup y = some .cell ∨ scope.names.lookup y = some .free := hy
    rcases hy with hy | hy
    · exact cell_has hy
    · exact absurd rfl (S.nofree _ (PySem.mem_of_lookup hy))
  · exact Nat.le_of_lt (x.above y c (PySem.mem_of_lookup h))
  · have hi : i < vs.length := by
      unfold start at h2
      by_cases hi : i < vs.length
      · exact hi
      · rw [List.getElem?_append_right (by simpa using hi)] at h2
        rw [List.getElem?_replicate] at h2
        split at h2 <;> cases h2
    have ha : vs[i]? = some v := by
      unfold start at h2
      rw [List.getElem?_append_left (by simpa using hi), List.getElem?_map] at h2
      cases e : vs[i]? with
      | none => rw [e] at h2; cases h2
      | some a => rw [e] at h2; cases h2; rfl
    obtain ⟨u, hu, rv⟩ := r.get ha
    have hp : ps[i]? = some y := by
      rw [← S.pre, List.getElem?_take_of_lt (by omega)]; exact h1
    have ndP : ps.Nodup := by rw [← S.pre]; exact S.nd.sublist (List.take_sublist _ _)
    refine ⟨u, rv, ?_⟩
    rcases S.par y (List.mem_of_getElem? hp) with k | k
    · exact .inl ⟨k, bindL_get ndP hp hu k⟩
    · obtain ⟨c, e⟩ := cell_has (n := s.heap.objs.size + 1) k
      refine .inr ⟨.inl k, c, e, ?_⟩
      have q := x.cell y c e
      rw [bindC_get ndP hp hu (by show scope.names.lookup y ≠ _; rw [k]; decide)] at q
      exact q
  · exact e0.hok.fresh (Nat.le_of_lt (x.above y c (PySem.mem_of_lookup h)))
  · unfold start
    show _ = N.length
    rw [List.length_append, List.length_map, List.length_replicate]
    omega

/-- THE RULE: a def (or a method) of the text, by its body. The body's reading t is chosen for each entry; it is run at the parameters' values -/
theorem fn_of {CX : CXT} {P : Program} {w : World} {K : PySem.W.Frag} {mg : Str → Option Value} {base : Heap} {k : Nat} {f : Addr} {name qual : Str} {params : Arguments} {body : List Stmt} {scope : Scope} {dV kV doc pm cdv ct oc : Value} {an od : Option Addr}
    {osl : Array (Option Value)} {N ps : List Str} {sp : Sp} (lk : K.lookup f = some ⟨oc, od, .func (PySem.W.fnOf name qual params body scope dV kV doc pm an cdv ct), osl⟩) (hcd : PySem.W.codeIn K cdv qual = true) (S : FnScope N ps scope)
    (len : ∀ vs H Q E, sp vs H Q E → vs.length = ps.length)
    (hbody : ∀ (A : Around) (outer : List Env) (s : Shared) (H : Hp) (vs : List V) (Q : VK) (E : XK), Room k (A.deeper (envOfC qual scope s.heap.objs.size f cdv)) → sp vs H Q E →
      ∃ t, PSs (cxOf CX P w K mg base N qual scope f cdv A outer s H E) body t ∧ t { nx := fun _ H' => Q .non H', rt := Q } (start N vs) H) :
    FnOk P w K mg base CX (k + 1) f (PySem.W.fnOf name qual params body scope dV kV doc pm an cdv ct) ps sp := by
  refine ⟨len, fun A outer s H args us vs Q E hr e0 hb r hsp => ?_⟩
  have hl := len _ _ _ _ hsp
  have KX : K.In s.heap := e0.mod.kin.keeps fun b o e => (e0.bs b o e).1
  have lim : s.heap.NoLimit := e0.mod.nolimit.keeps fun b o e => (e0.bs b o e).1
  have hkind : ∀ y ∈ ps.zip us, scope.names.lookup y.1 = some .local ∨ (scope.names.lookup y.1 = some .cell ∧ ((cellsFrom (s.heap.objs.size + 1) scope.names []).lookup y.1).isSome = true) := fun ⟨n, v⟩ hy => by
    rcases S.par n (List.of_mem_zip hy).1 with q | q
    · exact .inl q
    · exact .inr ⟨q, PySem.W.cellsFrom_some _ _ _ (.inl q)⟩
  refine codeAny_call_function hr.depth (KX _ _ lk) rfl S.co S.gen rfl (PySem.W.codeRec_of KX hcd) (hb _ _ _ _ ?_)
  refine wpAny_newFunctionEnv_cells S.kind hkind fun env he s1 x => ?_
  subst he
  refine ⟨lim.keeps x.toInCall.keep, codeAny_func ?_⟩
  obtain ⟨t, ht, hq⟩ := hbody A outer s H vs Q E (hr.deeper _) hsp
  have I : Inv (cxOf CX P w K mg base N qual scope f cdv A outer s H E) [] (start N vs) H s1 := inv_start S hr.hd e0 hl r x
  refine wpAny_mono (ht [] s1 (start N vs) H _ I hq) (fun fl s' hs => ?_) fun e s' hs => hs
  have fin : ∀ {σ' : St} {H' : Hp} {v : V} {u : Value}, Inv (cxOf CX P w K mg base N qual scope f cdv A outer s H E) [] σ' H' s' → RelV v u → Q v H' → CE outer P w H s Q u s' :=
    fun {σ' H' v u} J rv q => ⟨v, H', J.os, J.bare, J.base, J.hok, rv, q⟩
  cases fl with
  | ret u =>
    obtain ⟨v, σ', H', J, rv, q⟩ := hs
    exact fin J rv q
  | next =>
    obtain ⟨σ', H', J, q⟩ := hs
    exact fin (v := V.non) (u := Value.none) J rfl q
  | brk =>
    obtain ⟨_, _, _, q⟩ := hs
    exact False.elim q
  | cont =>
    obtain ⟨_, _, _, q⟩ := hs
    exact False.elim q
end L2

namespace L2
open PySem PySem.Spec PyProof.Rows
section
variable {X : Cx} {x : Str} {p pos : Pos} {e : Expr} {es : List Expr} {t : TA} {id T : String} {r : List V → Hp → VK → Prop}

def tCB (r : List V → Hp → VK → Prop) (t : TA) : TE := fun σ H Q => t σ H fun vs H1 => r vs H1 Q
/-- f(e, ..), f a built-in function -/
theorem pe_callB (hc : CallR X (.builtin id) r) (hg : Gl X x) (hm : X.mg x = none) (hv : bootBuiltins x = some (.builtin id)) (ha : PA X (e :: es) t) (hn : x ≠ "__name__" := by decide) (hdb : (x == ("__debug__" : Str)) = false := by decide)
    (he : starEach (e :: es) X.env = (false, eval e X.env) :: starEach es X.env := by rfl) (hpl : (backTo pos (starEach es X.env)).any (·.1) = false := by rfl) : PE X (.Call (.Name x p) (e :: es) [] pos) (tCB r t) := by
  intro pins s σ H Q I h
  refine wpAny_Call_Name_kw (ld_blt I hg hm hv ?_ hn hdb)
  exact PyProof.Rows.callWith_builtin1 (thn (ha pos pins s σ H _ I h) fun us s1 ⟨vs, H1, I1, r1, q1⟩ => hc pins s1 σ H1 vs us Q I1 r1 q1) he hpl
/-- T(e, ..), T a built-in type -/
theorem pe_callTy (hc : CallR X (.type T) r) (hg : Gl X x) (hm : X.mg x = none) (hv : bootBuiltins x = some (.type T)) (ha : PA X (e :: es) t) (hn : x ≠ "__name__" := by decide) (hdb : (x == ("__debug__" : Str)) = false := by decide)
    (he : starEach (e :: es) X.env = (false, eval e X.env) :: starEach es X.env := by rfl) (hpl : (backTo pos (starEach es X.env)).any (·.1) = false := by rfl) : PE X (.Call (.Name x p) (e :: es) [] pos) (tCB r t) := by
  intro pins s σ H Q I h
  refine wpAny_Call_Name_kw (ld_blt I hg hm hv ?_ hn hdb)
  exact PyProof.Rows.callWith_type1 (thn (ha pos pins s σ H _ I h) fun us s1 ⟨vs, H1, I1, r1, q1⟩ => hc pins s1 σ H1 vs us Q I1 r1 q1) he hpl
end
end L2

namespace HT
open PySem PyProof.Rows

section
open PySem.SeqAt
open PySem.AutoSeq1 (wpAny_loadPart')
open PySem.MeetsSeq PySem.MeetsSeq2 PySem.MeetsSeq3

end

section
variable {prog : Program} {w : World} {A : Around} {E : Value → Shared → Prop} {s : Shared}

/-! ### t[a:b], not the whole -/
/-- a slice's bound as a place among n (d where it is left out) -/
def sIx (n d : Nat) : Option Int → Nat
  | none => d
  | some v => if v < 0 then (v + (n : Int)).toNat else min v.toNat n
theorem sIx_none (n d : Nat) : sIx n d none = d := rfl
theorem sIx_nat (n d k : Nat) : sIx n d (some (k : Int)) = min k n := by
  show (if (k : Int) < 0 then ((k : Int) + (n : Int)).toNat else min (k : Int).toNat n) = min k n
  rw [if_neg (by omega), Int.toNat_natCast]
end
end HT

namespace L2
open PySem PySem.Spec PyProof.Rows

/-! ### the parts of a slice -/
abbrev TO := St → Hp → (Option Int → Hp → Prop) → Prop
/-- a slice's part (left out, or an int) -/
def PO (X : Cx) (e : Option Expr) (t : TO) : Prop :=
  ∀ (pins : List (Addr × Obj)) (s : Shared) (σ : St) (H : Hp) (Q : Option Int → Hp → Prop), Inv X pins σ H s → t σ H Q →
    wpAny (model X.prog X.w) X.A (evalPart e X.env) (fun u s' => ∃ o H', Inv X pins σ H' s' ∧ IsPart u o ∧ Q o H') X.xe s
def tNoPart : TO := fun _ H Q => Q none H
def tPart (t : TE) : TO := fun σ H Q => t σ H fun x H1 => ∃ i, x = .int i ∧ Q (some i) H1

section
variable {X : Cx} {e : Expr} {te : TE} {lo hi : Option Expr} {tl th : TO} {pos p2 : Pos}

theorem po_none : PO X none tNoPart := by
  intro pins s σ H Q I h
  rw [evalPart_none]
  exact wpAny_pure ⟨none, H, I, .none, h⟩
theorem po_some (h : PE X e te) : PO X (some e) (tPart te) := by
  intro pins s σ H Q I hw
  rw [evalPart_some]
  refine thn (h pins s σ H _ I hw) fun u s1 ⟨x, H1, I1, r1, q1⟩ => ?_
  obtain ⟨i, rfl, q⟩ := q1
  obtain ⟨t, rfl⟩ := r1
  exact ⟨some i, H1, I1, .int i t, q⟩

/-- what a slice of a value is, by values: the slice object stands at sl -/
def SlR (X : Cx) (r : V → Option Int → Option Int → Hp → VK → Prop) : Prop :=
  ∀ (pins : List (Addr × Obj)) (s : Shared) (σ : St) (H : Hp) (x : V) (v vl vu : Value) (lo hi : Option Int) (sl : Addr) (Q : VK), Inv X pins σ H s → RelV x v → s.heap.IsSliceOf sl vl vu .none → IsPart vl lo → IsPart vu hi → r x lo hi H Q →
    ∃ T id, typeLookup (.type T) "__getitem__" = pure (some (.builtin id)) ∧ s.TypeIs v T ∧ wpAny (model X.prog X.w) X.A (getItem v (.ref sl)) (EP X pins σ Q) X.xe s
theorem SlR.or {r r' : V → Option Int → Option Int → Hp → VK → Prop} (h : SlR X r) (h' : SlR X r') : SlR X (fun x lo hi H Q => r x lo hi H Q ∨ r' x lo hi H Q) := by
  intro pins s σ H x v vl vu lo hi sl Q I rx hs pl pu q
  rcases q with q | q
  · exact h pins s σ H x v vl vu lo hi sl Q I rx hs pl pu q
  · exact h' pins s σ H x v vl vu lo hi sl Q I rx hs pl pu q
def tSl (r : V → Option Int → Option Int → Hp → VK → Prop) (te : TE) (tl th : TO) : TE := fun σ H Q => te σ H fun x H1 => tl σ H1 fun l H2 => th σ H2 fun u H3 => r x l u H3 Q
/-- a[lo:hi], any a -/
theorem pe_slice {r : V → Option Int → Option Int → Hp → VK → Prop} (hr : SlR X r) (he : PE X e te) (hl : PO X lo tl) (hu : PO X hi th) : PE X (.Subscript e (.Slice lo hi none p2) pos) (tSl r te tl th) := by
  intro pins s σ H Q I h
  refine Subscript_ (thn (he pins s σ H _ I h) fun v s1 ⟨x, H1, I1, r1, q1⟩ => ?_)
  refine wpAny_Slice (thn (hl pins s1 σ H1 _ I1 q1) fun vl s2 ⟨l, H2, I2, pl, q2⟩ => thn (hu pins s2 σ H2 _ I2 q2) fun vu s3 ⟨u, H3, I3, pu, q3⟩ => ?_)
  rw [evalPart_none]
  refine wpAny_pure ?_
  have I4 : Inv X pins σ H3 { s3 with heap := s3.heap.push { cls := .type "slice", data := .fields #[vl, vu, .none] } } := I3.kept (t' := s3.toks) fun b ob q => Heap.get?_push_of_some _ q
  obtain ⟨T, id, hT, ht, hg⟩ := hr pins { s3 with heap := s3.heap.push { cls := .type "slice", data := .fields #[vl, vu, .none] } } σ H3 x v vl vu l u s3.heap.objs.size Q I4 r1 (Heap.IsSliceOf.new ..) pl pu q3
  show wpAny (model X.prog X.w) X.A (subscriptTail e (.Slice lo hi none p2) v (.ref s3.heap.objs.size)) (EP X pins σ Q) X.xe { s3 with heap := s3.heap.push { cls := .type "slice", data := .fields #[vl, vu, .none] } }
  exact tail_any (ops := [.ref s3.heap.objs.size, v]) ht hT hg (by with_unfolding_all rfl)

/-- the items of xs[lo:hi] -/
def cutV (xs : List V) (lo hi : Option Int) : List V := (xs.drop (HT.sIx xs.length 0 lo)).take (HT.sIx xs.length xs.length hi - HT.sIx xs.length 0 lo)
theorem cutV_length (xs : List V) (lo hi : Option Int) : (cutV xs lo hi).length ≤ xs.length := by
  unfold cutV
  rw [List.length_take, List.length_drop]
  omega
/-! ### t < u, t + u -/
end
end L2

namespace L2
open PySem PySem.Spec PyProof.Rows

/-! ### places -/
/-- the place that an index of any sign means -/
def ixN (n : Nat) (i : Int) : Option Nat := if 0 ≤ i then (if i < n then some i.toNat else none) else if -(n : Int) ≤ i then some (i + n).toNat else none
def atI {α : Type} (xs : List α) (i : Int) : Option α := (ixN xs.length i).bind fun j => xs[j]?
theorem ixN_seq {n : Nat} {i : Int} {j : Nat} (h : ixN n i = some j) : seqIndex? i n = some j ∧ j < n ∧ -(n : Int) ≤ i ∧ i < n := by
  unfold ixN at h
  by_cases h0 : 0 ≤ i
  · rw [if_pos h0] at h
    by_cases h1 : i < n
    · rw [if_pos h1] at h
      have e : i.toNat = j := Option.some.inj h
      exact ⟨by rw [seqIndex_of h0 h1, e], by omega, by omega, h1⟩
    · rw [if_neg h1] at h; cases h
  · rw [if_neg h0] at h
    by_cases h1 : -(n : Int) ≤ i
    · rw [if_pos h1] at h
      have e : (i + n).toNat = j := Option.some.inj h
      exact ⟨by rw [seqIndex_neg (by omega) h1, e], by omega, h1, by omega⟩
    · rw [if_neg h1] at h; cases h
theorem atI_get {α : Type} {xs : List α} {i : Int} {v : α} (h : atI xs i = some v) : ∃ j, seqIndex? i xs.length = some j ∧ xs[j]? = some v ∧ j < xs.length ∧ -(xs.length : Int) ≤ i ∧ i < xs.length := by
  unfold atI at h
  cases e : ixN xs.length i with
  | none => rw [e] at h; cases h
  | some j =>
    rw [e] at h
    obtain ⟨h1, h2, h3, h4⟩ := ixN_seq e
    exact ⟨j, h1, h, h2, h3, h4⟩
theorem atI_nat {α : Type} {xs : List α} {j : Nat} {v : α} (h : xs[j]? = some v) : atI xs (j : Int) = some v := by
  have hj : j < xs.length := (List.getElem?_eq_some_iff.mp h).1
  have e : ixN xs.length (j : Int) = some j := by
    unfold ixN
    rw [if_pos (by omega), if_pos (by omega)]; simp
  unfold atI; rw [e]; exact h
theorem atI_last {α : Type} (xs : List α) (v : α) : atI (xs ++ [v]) (-1) = some v := by
  have hl : (xs ++ [v]).length = xs.length + 1 := by simp
  have e : ixN (xs ++ [v]).length (-1) = some xs.length := by
    unfold ixN
    rw [hl, if_neg (by decide), if_pos (by omega)]
    congr 1
    omega
  unfold atI
  rw [e]
  show (xs ++ [v])[xs.length]? = some v
  simp

/-! ### what may be subscripted -/
/-- what stands as an index of a plain subscript -/
def PlainIx (b : Expr) : Prop := ∀ o i, subscripted b false o i = operate [o, i] (getItem o i)
/-- a subscript by values -/
def IxR (X : Cx) (r : R2) : Prop :=
  ∀ (value slice : Expr) (pins : List (Addr × Obj)) (s : Shared) (σ : St) (H : Hp) (x y : V) (v u : Value) (Q : VK), Inv X pins σ H s → RelV x v → RelV y u → r x y H Q →
    subscripted slice false v u = operate [v, u] (getItem v u) → wpAny (model X.prog X.w) X.A (subscriptTail value slice v u) (EP X pins σ Q) X.xe s
/-- a call of a builtin's method by values: the receiver, the arguments -/
def MtR (X : Cx) (id : String) (r : V → List V → Hp → VK → Prop) : Prop :=
  ∀ (pins : List (Addr × Obj)) (s : Shared) (σ : St) (H : Hp) (x : V) (xs : List V) (v : Value) (us : List Value) (Q : VK), Inv X pins σ H s → RelV x v → Vals xs us → r x xs H Q →
    wpAny (model X.prog X.w) X.A (call (.builtin id) (v :: us)) (EP X pins σ Q) X.xe s
section
variable {X : Cx} {a b : Expr} {ta tb : TE} {pos : Pos}
theorem IxR.or {r r' : R2} (h : IxR X r) (h' : IxR X r') : IxR X (fun x y H Q => r x y H Q ∨ r' x y H Q) := by
  intro value slice pins s σ H x y v u Q I rx ry q hs
  rcases q with q | q
  · exact h value slice pins s σ H x y v u Q I rx ry q hs
  · exact h' value slice pins s σ H x y v u Q I rx ry q hs
theorem MtR.or {id : String} {r r' : V → List V → Hp → VK → Prop} (h : MtR X id r) (h' : MtR X id r') : MtR X id (fun x xs H Q => r x xs H Q ∨ r' x xs H Q) := by
  intro pins s σ H x xs v us Q I rx rs q
  rcases q with q | q
  · exact h pins s σ H x xs v us Q I rx rs q
  · exact h' pins s σ H x xs v us Q I rx rs q
/-- a[b] -/
theorem pe_ix {r : R2} (hr : IxR X r) (ha : PE X a ta) (hb : PE X b tb) (hs : PlainIx b) : PE X (.Subscript a b pos) (tOp r ta tb) := by
  intro pins s σ H Q I h
  exact Subscript_ (binT ha hb I h fun v u s2 x y H2 I2 rx ry q => hr a b pins s2 σ H2 x y v u Q I2 rx ry q (hs _ _))

def rIxL (K : PySem.W.Frag) : R2 := fun x y H Q => ∃ p xs i v, x = .ref p ∧ y = .int i ∧ SqL K H p xs ∧ atI xs i = some v ∧ Q v H
def rIxT (K : PySem.W.Frag) : R2 := fun x y H Q => ∃ p xs i v, x = .ref p ∧ y = .int i ∧ SqT K H p xs ∧ atI xs i = some v ∧ Q v H
def rIxS : R2 := fun x y H Q => ∃ z i c, x = .str z ∧ y = .int i ∧ z.length ≤ sizeLine ∧ atI z.cps.toList i = some c ∧ Q (.str ⟨#[c]⟩) H
theorem ix_list : IxR X (rIxL X.K) := by
  intro value slice pins s σ H x y v u Q I rx ry h hs
  obtain ⟨p, xs, i, z, rfl, rfl, hq, he, q⟩ := h
  cases rx
  obtain ⟨t, rfl⟩ := ry
  obtain ⟨its, r, pl, hz⟩ := I.list hq
  obtain ⟨j, h1, h2, h3, h4, h5⟩ := atI_get he
  obtain ⟨w, ew, rw'⟩ := r.get h2
  have hl := r.length
  have hn := line63
  have fin : EP X pins σ Q w s := ⟨z, H, I, rw', q⟩
  by_cases h0 : 0 ≤ i
  · have hj : i.toNat = j := by
      rw [seqIndex_of h0 h5] at h1
      exact Option.some.inj h1
    exact item_listR pl.isList h0 (by omega) (by rw [hj]; simpa using ew) fin hs
  · have hj : (i + (its.toArray.size : Int)).toNat = j := by
      rw [seqIndex_neg (by omega) h4] at h1
      rw [List.size_toArray, ← hl]
      exact Option.some.inj h1
    exact subscriptTail_builtinR (x := w) pl.isList.typeIs slot_list_getitem.lookup
      (wpAny_getItem_list_neg (Q := fun r s' => r = w ∧ EP X pins σ Q r s') pl.isList (by omega) (by rw [List.size_toArray] <;> omega) (by omega) (by rw [hj]; simpa using ew) ⟨rfl, fin⟩) hs
theorem ix_tup : IxR X (rIxT X.K) := by
  intro value slice pins s σ H x y v u Q I rx ry h hs
  obtain ⟨p, xs, i, z, rfl, rfl, hq, he, q⟩ := h
  cases rx
  obtain ⟨t, rfl⟩ := ry
  obtain ⟨its, r, pl, hz⟩ := I.tuple hq
  obtain ⟨j, h1, h2, h3, h4, h5⟩ := atI_get he
  obtain ⟨w, ew, rw'⟩ := r.get h2
  have hl := r.length
  have hn := line63
  have fin : EP X pins σ Q w s := ⟨z, H, I, rw', q⟩
  exact subscriptTail_builtinR (x := w) pl.typeIs slot_tuple_getitem.lookup
    (getItem_tuple (j := j) (Q := fun r s' => r = w ∧ EP X pins σ Q r s') pl (by omega) (by omega) (by rw [List.size_toArray, ← hl]; exact h1) (by simpa using ew) ⟨rfl, fin⟩) hs
theorem ix_str : IxR X rIxS := by
  intro value slice pins s σ H x y v u Q I rx ry h hs
  obtain ⟨z, i, c, rfl, rfl, hz, he, q⟩ := h
  obtain ⟨t, rfl⟩ := rx
  obtain ⟨t', rfl⟩ := ry
  obtain ⟨j, h1, h2, h3, h4, h5⟩ := atI_get he
  have hl : z.cps.toList.length = z.length := by simp [Str.length]
  rw [hl] at h1 h4 h5
  have hn := line63
  exact tail_any (typeIs_str s z t) slot_str_getitem.lookup (getItem_str (c := c) (by
    have e1 : decide (i < -(2 ^ 63 : Int)) = false := decide_eq_false (by omega)
    have e2 : decide (i ≥ 2 ^ 63) = false := decide_eq_false (by omega)
    rw [e1, e2, Bool.or_false]) (by rw [h1]; simpa using h2) ⟨.str ⟨#[c]⟩, H, I.tok _, ⟨_, rfl⟩, q⟩) hs
/-! ### xs[i] = v, any sign -/
theorem Inv.lst {pins : List (Addr × Obj)} {σ : St} {H : Hp} {s : Shared} {p : Addr} {xs : List V} (I : Inv X pins σ H s) (h : H p = some (.lst xs)) :
    ∃ (its : List Value) (n : Nat), Vals xs its ∧ s.heap.get? p = some { cls := .type "list", data := .seq its.toArray n } ∧ xs.length ≤ sizeLine := by
  obtain ⟨z, its, n, r, e⟩ := I.hok p _ h
  exact ⟨its, n, r, e, z⟩
/-! ### slices -/
theorem slice_bounds (lo hi : Option Int) (n : Nat) : (sliceBounds lo hi none n).1 = ((HT.sIx n 0 lo : Nat) : Int) ∧ (sliceBounds lo hi none n).2.1 = ((HT.sIx n n hi : Nat) : Int) ∧ (sliceBounds lo hi none n).2.2 = 1 := by
  refine ⟨?_, ?_, rfl⟩
  · cases lo with
    | none => simp [sliceBounds, HT.sIx]
    | some i =>
      simp only [sliceBounds, HT.sIx, Option.getD_none, show (1 : Int) > 0 by decide, if_true]
      by_cases h : i < 0
      · simp only [h, if_true] <;> omega
      · simp only [h, if_false] <;> omega
  · cases hi with
    | none => simp [sliceBounds, HT.sIx]
    | some i =>
      simp only [sliceBounds, HT.sIx, Option.getD_none, show (1 : Int) > 0 by decide, if_true]
      by_cases h : i < 0
      · simp only [h, if_true] <;> omega
      · simp only [h, if_false] <;> omega
theorem slicePick_cut (its : List Value) (lo hi : Option Int) : slicePick its.toArray lo hi none = ((its.drop (HT.sIx its.length 0 lo)).take (HT.sIx its.length its.length hi - HT.sIx its.length 0 lo)).toArray := by
  obtain ⟨h1, h2, h3⟩ := slice_bounds lo hi its.toArray.size
  unfold slicePick
  rw [h1, h2, h3]
  simp only [sliceRange_one, pick_run, List.size_toArray] <;> rfl
/-- xs[lo:hi] of a list: a new list -/
def rSlL (K : PySem.W.Frag) : V → Option Int → Option Int → Hp → VK → Prop := fun x lo hi H Q => ∃ a xs, x = .ref a ∧ SqL K H a xs ∧ ∀ p, H p = none → Q (.ref p) (upd H p (.lst (cutV xs lo hi)))
theorem sl_list : SlR X (rSlL X.K) := by
  intro pins s σ H x v vl vu lo hi sl Q I rx hs pl pu h
  obtain ⟨a, xs, rfl, hx, q⟩ := h
  cases rx
  obtain ⟨its, r, ht, hz⟩ := I.list hx
  have hlen := r.length
  refine ⟨"list", _, slot_list_getitem.lookup, ht.isList.typeIs, ?_⟩
  refine wpAny_getItem_list_slice ht.isList hs pl pu .none (by simp) ?_ (by rw [List.size_toArray] <;> omega)
  rw [slicePick_cut, ← hlen]
  refine ⟨.ref s.heap.objs.size, _, I.laid (t' := s.toks) (o := .lst (cutV xs lo hi)) (fun b ob q => Heap.get?_push_of_some _ q) (Nat.le_refl _) ?_, rfl, q _ (I.hok.fresh (Nat.le_refl _))⟩
  exact ⟨Nat.le_trans (cutV_length xs lo hi) hz, _, 0, (r.drop (HT.sIx xs.length 0 lo)).take (HT.sIx xs.length xs.length hi - HT.sIx xs.length 0 lo), Heap.get?_push_size _ rfl⟩

/-! ### in, not in: flat items -/
/-! ### len, list(x), tuple(x) of any list or tuple that is read -/
theorem call_len_seq : CallR X (.builtin "len") (fun xs H Q => ∃ p ys, xs = [.ref p] ∧ (SqL X.K H p ys ∨ SqT X.K H p ys) ∧ Q (.int ys.length) H) := by
  intro pins s σ H xs us Q I r h
  obtain ⟨p, ys, rfl, hq, q⟩ := h
  obtain ⟨u, rfl, rx⟩ := vals1 r
  cases rx
  have hn := line63
  rcases hq with hq | hq
  · obtain ⟨its, r', pl, hz⟩ := I.list hq
    have hlen := r'.length
    exact Calls.call_len_list pl.isList (by simp only [List.size_toArray] <;> omega) ⟨.int ys.length, H, I.tok _, ⟨s.toks + 1, by rw [List.size_toArray, hlen]⟩, q⟩
  · obtain ⟨its, r', pl, hz⟩ := I.tuple hq
    have hlen := r'.length
    exact len_tuple pl (by simp only [List.size_toArray] <;> omega) ⟨.int ys.length, H, I.tok _, ⟨s.toks + 1, by rw [List.size_toArray, hlen]⟩, q⟩
theorem call_len_str : CallR X (.builtin "len") (fun xs H Q => ∃ z, xs = [.str z] ∧ z.length ≤ sizeLine ∧ Q (.int z.length) H) := by
  intro pins s σ H xs us Q I r h
  obtain ⟨z, rfl, hz, q⟩ := h
  obtain ⟨u, rfl, t, rfl⟩ := vals1 r
  have hn := line63
  exact len_str (by omega) ⟨.int z.length, H, I.tok _, ⟨_, rfl⟩, q⟩
theorem CallR.or {f : Value} {r r' : List V → Hp → VK → Prop} (h : CallR X f r) (h' : CallR X f r') : CallR X f (fun xs H Q => r xs H Q ∨ r' xs H Q) := by
  intro pins s σ H xs us Q I rs q
  rcases q with q | q
  · exact h pins s σ H xs us Q I rs q
  · exact h' pins s σ H xs us Q I rs q
theorem call_list_of : CallR X (.type "list") (fun xs H Q => ∃ p ys, xs = [.ref p] ∧ (SqL X.K H p ys ∨ SqT X.K H p ys) ∧ ∀ l, H l = none → Q (.ref l) (upd H l (.lst ys))) := by
  intro pins s σ H xs us Q I r h
  obtain ⟨p, ys, rfl, hq, q⟩ := h
  obtain ⟨u, rfl, rx⟩ := vals1 r
  cases rx
  have fin : ∀ (its : List Value), Vals ys its → ys.length ≤ sizeLine → ∀ (h' : Heap) (c' : Nat), (∀ b o', s.heap.get? b = some o' → h'.get? b = some o') →
      h'.get? s.heap.objs.size = some { cls := .type "list", dict := none, data := .seq its.toArray c', slots := #[] } → EP X pins σ Q (.ref s.heap.objs.size) { s with heap := h' } := fun its r' hz h' c' kp e =>
    ⟨.ref s.heap.objs.size, _, I.laid (t' := s.toks) kp (Nat.le_refl _) (show ObjOk X.prog X.w _ h' _ (.lst ys) from ⟨hz, its, c', r', e⟩), rfl, q _ (I.hok.fresh (Nat.le_refl _))⟩
  rcases hq with hq | hq
  · obtain ⟨its, r', pl, hz⟩ := I.list hq
    have hlen := r'.length
    obtain ⟨o, ho, hc, n, hd⟩ := pl.isList
    exact call_list_seq p (.inl rfl) ho hc hd (fun h' c' kp e => fin its r' hz h' c' kp e) (by simp only [List.size_toArray] <;> omega)
  · obtain ⟨its, r', pl, hz⟩ := I.tuple hq
    have hlen := r'.length
    obtain ⟨o, ho, hc, n, hd⟩ := pl
    exact call_list_seq p (.inr rfl) ho hc hd (fun h' c' kp e => fin its r' hz h' c' kp e) (by simp only [List.size_toArray] <;> omega)
/-! ### the call of a builtin's method: o.m(..) -/
/-- the value is of that builtin type -/
def tyV (K : PySem.W.Frag) (T : String) (x : V) (H : Hp) : Prop := match x with
  | .str _ => T = "str"
  | .int _ => T = "int"
  | .ref p => (T = "list" ∧ ∃ xs, SqL K H p xs) ∨ (T = "tuple" ∧ ∃ o, K.lookup p = some o ∧ o.cls = .type "tuple" ∧ o.dict = none) ∨
      (T = "dict" ∧ ((∃ kvs, H p = some (.dK kvs)) ∨ ∃ kvs, H p = some (.dT kvs))) ∨ (T = "set" ∧ ∃ S n, H p = some (.set S n))
  | _ => False
theorem tyV_is {pins : List (Addr × Obj)} {σ : St} {H : Hp} {s : Shared} {T : String} {x : V} {v : Value} (I : Inv X pins σ H s) (r : RelV x v) (ty : tyV X.K T x H) :
    s.TypeIs v T ∧ ∀ a, v = .ref a → ∃ ob, s.heap.get? a = some ob ∧ ob.dict = none := by
  cases x with
  | str z =>
    obtain ⟨t, rfl⟩ := r
    cases (show T = "str" from ty)
    exact ⟨typeIs_str s z t, fun _ e => nomatch e⟩
  | int i =>
    obtain ⟨t, rfl⟩ := r
    cases (show T = "int" from ty)
    exact ⟨typeIs_int s i t, fun _ e => nomatch e⟩
  | ref p =>
    cases r
    rcases ty with ⟨rfl, xs, hq⟩ | ⟨rfl, o, hk, hc, hd⟩ | ⟨rfl, hk⟩ | ⟨rfl, S, n, hk⟩
    · obtain ⟨its, _, pl, _⟩ := I.list hq
      refine ⟨pl.isList.typeIs, fun a e => ?_⟩
      cases e
      obtain ⟨o, n, e, c, hd, _⟩ := pl
      exact ⟨o, e, hd⟩
    · refine ⟨⟨o, I.kIn p o hk, hc⟩, fun a e => ?_⟩
      cases e
      exact ⟨o, I.kIn _ o hk, hd⟩
    · have z : ∃ o, s.heap.get? p = some o ∧ o.ExactDict := by
        rcases hk with ⟨kvs, hk⟩ | ⟨kvs, hk⟩
        · obtain ⟨_, _, _, _, o, _, _, e, ex, _⟩ := I.hok p _ hk
          exact ⟨o, e, ex⟩
        · obtain ⟨_, _, _, _, o, _, _, e, ex, _⟩ := I.hok p _ hk
          exact ⟨o, e, ex⟩
      obtain ⟨o, e, ex⟩ := z
      refine ⟨⟨o, e, ex.1⟩, fun a e2 => ?_⟩
      cases e2
      exact ⟨o, e, ex.2.1⟩
    · obtain ⟨o, _, _, _, e, ex, _⟩ := I.hok p _ hk
      refine ⟨⟨o, e, ex.1⟩, fun a e2 => ?_⟩
      cases e2
      exact ⟨o, e, ex.2.1⟩
  | _ => exact False.elim ty
def tBM (K : PySem.W.Frag) (T : String) (r : V → List V → Hp → VK → Prop) (to : TE) (t : TA) : TE := fun σ H Q => to σ H fun x H1 => tyV K T x H1 ∧ t σ H1 fun xs H2 => r x xs H2 Q
variable {o e : Expr} {es : List Expr} {to : TE} {t : TA} {name : Str} {apos cpos : Pos} {T id : String} {r : V → List V → Hp → VK → Prop}
theorem pe_bm (pa : PlainAttrs T) (slot : Slot T name id) (hty : typeOf (.builtin id) = pure (.type "method_descriptor")) (hm : MtR X id r) (ho : PE X o to) (ha : PA X (e :: es) t)
    (hbase : attributeBase o name X.env (eval o X.env) = eval o X.env := by rfl)
    (hfew : ((backTo cpos (starEach (e :: es) X.env)).all (fun x => !x.1) && (backToKw cpos (keywordEach [] X.env)).all (fun x => x.1.isSome)
      && decide ((e :: es).length + ([] : List Keyword).length + (if ([] : List Keyword).isEmpty then 0 else 1) < 30)) = true := by rfl)
    (hline : (apos.endLine == cpos.line) = true := by rfl) (hs : starEach (e :: es) X.env = (false, eval e X.env) :: starEach es X.env := by rfl) (hplain : (backTo cpos (starEach es X.env)).any (·.1) = false := by rfl) :
    PE X (.Call (.Attribute o name apos) (e :: es) [] cpos) (tBM X.K T r to t) := by
  intro pins s σ H Q I h
  refine wpAny_Call_method_late hbase hfew hline rfl (thn (ho pins s σ H _ I h) fun v s1 ⟨x, H1, I1, r1, ty, q1⟩ => ?_)
  obtain ⟨h1, h2⟩ := tyV_is I1 r1 ty
  refine ⟨T, id, pa, slot, hty, h1, h2, ?_⟩
  have hA := ha cpos pins s1 σ H1 _ I1 q1
  rw [hs] at hA ⊢
  refine Calls.callWith_builtin (by show (false || (backTo cpos (starEach es X.env)).any (·.1)) = false; rw [hplain] <;> rfl) (Calls.evalArgs_plain ?_)
  exact thn hA fun us s2 ⟨vs, H2, I2, r2, q2⟩ => hm pins s2 σ H2 x vs v us Q I2 r1 r2 q2
end
end L2

namespace L2
open PySem PySem.Spec PyProof.Rows

def MtM (X : Cx) (id : String) (r : V → List V → Hp → VK → Prop) : Prop :=
  ∀ (pins : List (Addr × Obj)) (s : Shared) (σ : St) (H : Hp) (x : V) (xs : List V) (v : Value) (us : List Value) (Q : VK), Inv X pins σ H s → RelV x v → Vals xs us → r x xs H Q →
    wpAny (model X.prog X.w) X.A (call (.builtin id) (v :: us)) (EP X pins σ Q) X.xe s

/-! ### lists of values -/
theorem Vals.one : ∀ {x : V} {us : List Value}, Vals [x] us → ∃ u, us = [u] ∧ RelV x u
  | _, _, .cons r .nil => ⟨_, rfl, r⟩
theorem Vals.two : ∀ {x y : V} {us : List Value}, Vals [x, y] us → ∃ u v, us = [u, v] ∧ RelV x u ∧ RelV y v
  | _, _, _, .cons r (.cons q .nil) => ⟨_, _, rfl, r, q⟩
theorem Vals.zero : ∀ {us : List Value}, Vals [] us → us = []
  | _, .nil => rfl
theorem Vals.dropLast {xs : List V} {us : List Value} (h : Vals xs us) : Vals xs.dropLast us.dropLast := by
  induction h with
  | nil => exact .nil
  | cons r t ih =>
    cases t with
    | nil => exact .nil
    | cons q t' => exact .cons r ih
theorem Vals.reverse {xs : List V} {us : List Value} (h : Vals xs us) : Vals xs.reverse us.reverse := by
  induction h with
  | nil => exact .nil
  | cons r t ih => rw [List.reverse_cons, List.reverse_cons]; exact Vals.append ih (.cons r .nil)
section
variable {X : Cx} {pins : List (Addr × Obj)} {σ : St} {H : Hp} {s : Shared} {l b : Addr} {xs ys zs : List V}

/-! ### the two steps: a tracked list is rewritten, a new list is laid -/
theorem Inv.lset {its its' : List Value} {n : Nat} {f : Array Value → Array Value} {t' : Nat} (I : Inv X pins σ H s) (hH : H l = some (.lst xs))
    (e : s.heap.get? l = some { cls := .type "list", data := .seq its.toArray n }) (hf : f its.toArray = its'.toArray) (hv : Vals ys its') (hz : ys.length ≤ sizeLine) :
    Inv X pins σ (upd H l (.lst ys)) { s with heap := s.heap.update l (Obj.mapSeq f), toks := t' } := by
  have q := PySem.IsL.update e f
  rw [hf] at q
  refine I.write (x := l) (e := l) (by rw [hH]; exact trivial) (.inl rfl) (fun b' u hb hu => (Heap.get?_update_other s.heap (Obj.mapSeq f) (Ne.symm hb)).trans hu) ⟨_, q⟩ ?_
  exact ⟨hz, its', _, hv, q⟩
theorem Inv.lnew {its : List Value} {t' : Nat} (I : Inv X pins σ H s) (hv : Vals ys its) (hz : ys.length ≤ sizeLine) :
    Inv X pins σ (upd H s.heap.objs.size (.lst ys)) { s with heap := s.heap.push { cls := .type "list", data := .seq its.toArray }, toks := t' } :=
  I.laid (fun _ _ q => Heap.get?_push_of_some _ q) (Nat.le_refl _) ⟨hz, its, 0, hv, Heap.get?_push_size _ rfl⟩
theorem Inv.fresh (I : Inv X pins σ H s) : H s.heap.objs.size = none := I.hok.fresh (Nat.le_refl _)
theorem Inv.lstM (I : Inv X pins σ H s) (hH : H l = some (.lst xs)) : xs.length ≤ sizeLine ∧ ∃ (its : List Value) (n : Nat), Vals xs its ∧ xs.length = its.length ∧ s.heap.get? l = some { cls := .type "list", data := .seq its.toArray n } := by
  obtain ⟨z, its, n, r, e⟩ := I.hok l _ hH
  exact ⟨z, its, n, r, r.length, e⟩

theorem notLongL {n : Nat} (h : n ≤ sizeLine) : Builtin.List.listTooLong n = false := by
  unfold Builtin.List.listTooLong
  exact decide_eq_false (by omega)
end

section
variable {X : Cx}

/-! ### methods -/
def rAppend : V → List V → Hp → VK → Prop := fun x vs H Q => ∃ l xs y, x = .ref l ∧ vs = [y] ∧ H l = some (.lst xs) ∧ xs.length < sizeLine ∧ Q .non (upd H l (.lst (xs ++ [y])))
theorem mt_append : MtM X "list.append" rAppend := by
  intro pins s σ H x vs v us Q I rx rv h
  obtain ⟨l, xs, y, rfl, rfl, hH, hz, q⟩ := h
  cases rx
  obtain ⟨u, rfl, ru⟩ := rv.one
  obtain ⟨z, its, n, r, hl, e⟩ := I.lstM hH
  refine call_meets F.slot_list_append ⟨_, e, rfl⟩ F.entry_list_append (F.args_list_append_2 _ _) (PySem.list_append l its.toArray n u (by rw [List.size_toArray]; omega)) ⟨e, ?_⟩
  refine ⟨.non, _, I.lset (its' := its ++ [u]) hH e (by simp) (r.append (.cons ru .nil)) ?_, rfl, q⟩
  rw [List.length_append, List.length_singleton]
  omega

def rExtend : V → List V → Hp → VK → Prop := fun x vs H Q => ∃ l b xs zs, x = .ref l ∧ vs = [.ref b] ∧ H l = some (.lst xs) ∧ H b = some (.lst zs) ∧ xs.length + zs.length ≤ sizeLine ∧ Q .non (upd H l (.lst (xs ++ zs)))
theorem mt_extend : MtM X "list.extend" rExtend := by
  intro pins s σ H x vs v us Q I rx rv h
  obtain ⟨l, b, xs, zs, rfl, rfl, hH, hB, hz, q⟩ := h
  cases rx
  obtain ⟨u, rfl, ru⟩ := rv.one
  cases ru
  obtain ⟨z, its, n, r, hl, e⟩ := I.lstM hH
  obtain ⟨z2, its2, n2, r2, hl2, e2⟩ := I.lstM hB
  have hsz : its.toArray.size + its2.toArray.size ≤ sizeLine := by rw [List.size_toArray, List.size_toArray]; omega
  have hlong : ¬ (!its.toArray.isEmpty && Builtin.List.listTooLong (its.toArray.size + its2.toArray.size)) = true := by
    rw [notLongL hsz, Bool.and_false]
    exact Bool.false_ne_true
  refine call_meets F.slot_list_extend ⟨_, e, rfl⟩ F.entry_list_extend (F.args_list_extend_2 _ _)
    (AutoSeq1.list_extend_list_list_0 l its.toArray n b its2.toArray n2 hlong (by rw [List.size_toArray]; omega) (by omega)) ⟨e, e2, ?_⟩
  refine ⟨.non, _, I.lset (its' := its ++ its2) hH e (by simp) (r.append r2) ?_, rfl, q⟩
  rw [List.length_append]
  omega

/-! ### list + list, list += list, list * int -/
def rCat : R2 := fun x y H Q => ∃ l b xs zs, x = .ref l ∧ y = .ref b ∧ H l = some (.lst xs) ∧ H b = some (.lst zs) ∧ xs.length + zs.length ≤ sizeLine ∧ ∀ p, H p = none → Q (.ref p) (upd H p (.lst (xs ++ zs)))
theorem op_cat : OpR X (binaryOp .Add) rCat := by
  intro pins s σ H x y v u Q I rx ry h
  obtain ⟨l, b, xs, zs, rfl, rfl, hH, hB, hz, q⟩ := h
  cases rx
  cases ry
  obtain ⟨z, its, n, r, hl, e⟩ := I.lstM hH
  obtain ⟨z2, its2, n2, r2, hl2, e2⟩ := I.lstM hB
  refine PySem.P.add_list e e2 ?_ (by rw [List.size_toArray, List.size_toArray]; omega)
  have ea : its.toArray ++ its2.toArray = (its ++ its2).toArray := by simp
  rw [ea]
  exact ⟨.ref _, _, I.lnew (t' := s.toks) (r.append r2) (by rw [List.length_append]; omega), rfl, q _ I.fresh⟩
/-! ### del xs[i] -/
end

/-! ### xs[a:b] = ys -/
section
variable {prog : Program} {w : World} {A : Around} {E : Value → Shared → Prop} {s : Shared}
end

section
variable {X : Cx}
end
end L2

namespace L2
open PySem PySem.Spec PyProof.Rows

/-! ### lists of pairs as tables -/
section
variable {κ : Type} [DecidableEq κ]
def valV (kvs : List (κ × V)) (k : κ) : Option V := (kvs.find? fun kv => decide (kv.1 = k)).map (·.2)
/-- in its place, or at the end -/
def putK (kvs : List (κ × V)) (k : κ) (v : V) : List (κ × V) :=
  if (kvs.any fun kv => decide (kv.1 = k)) = true then kvs.map (fun kv => if kv.1 = k then (kv.1, v) else kv) else kvs ++ [(k, v)]
def dropK (kvs : List (κ × V)) (k : κ) : List (κ × V) := kvs.filter fun kv => decide (kv.1 ≠ k)

theorem valV_pos {p : κ × V} {r : List (κ × V)} {k : κ} (e : p.1 = k) : valV (p :: r) k = some p.2 := by simp [valV, List.find?_cons, e]
theorem valV_neg {p : κ × V} {r : List (κ × V)} {k : κ} (e : ¬ p.1 = k) : valV (p :: r) k = valV r k := by simp [valV, List.find?_cons, e]
theorem valV_any (k : κ) : ∀ kvs : List (κ × V), (kvs.any fun kv => decide (kv.1 = k)) = (valV kvs k).isSome
  | [] => rfl
  | p :: r => by
    rw [List.any_cons]
    by_cases e : p.1 = k
    · simp only [valV_pos e, decide_eq_true e, Bool.true_or, Option.isSome_some]
    · rw [valV_neg e, decide_eq_false e, Bool.false_or]; exact valV_any k r
theorem RelO.isSome_eq {o : Option V} {u : Option Value} (r : RelO o u) : o.isSome = u.isSome := by
  cases o with
  | none => cases u with
    | none => rfl
    | some _ => exact (show False from r).elim
  | some _ => cases u with
    | none => exact (show False from r).elim
    | some _ => rfl
theorem RelO.getD {o : Option V} {u : Option Value} {d : V} {d' : Value} (r : RelO o u) (rd : RelV d d') : RelV (o.getD d) (u.getD d') := by
  cases o with
  | none => cases u with
    | none => exact rd
    | some _ => exact (show False from r).elim
  | some _ => cases u with
    | none => exact (show False from r).elim
    | some _ => exact r

/-- raw tables of the same keys -/
theorem KV.val {kvs : List (κ × V)} {vs : List (κ × Value)} (r : KV kvs vs) (k : κ) : RelO (valV kvs k) (valueAt vs k) := by
  unfold KV at r
  induction r with
  | nil => exact True.intro
  | @cons p q ps qs h t ih =>
    obtain ⟨h1, h2⟩ := h
    by_cases e : p.1 = k
    · have e' : q.1 = k := h1.symm.trans e
      have b : valueAt (q :: qs) k = some q.2 := by simp [valueAt, List.find?_cons, e']
      rw [valV_pos e, b]; exact h2
    · have e' : ¬ q.1 = k := fun z => e (h1.trans z)
      have b : valueAt (q :: qs) k = valueAt qs k := by simp [valueAt, List.find?_cons, e']
      rw [valV_neg e, b]; exact ih
theorem KV.any {kvs : List (κ × V)} {vs : List (κ × Value)} (r : KV kvs vs) (k : κ) : (kvs.any fun kv => decide (kv.1 = k)) = vs.any fun kv => decide (kv.1 = k) := by
  unfold KV at r
  induction r with
  | nil => rfl
  | cons h t ih => rw [List.any_cons, List.any_cons, ih, h.1]
theorem KV.repl {kvs : List (κ × V)} {vs : List (κ × Value)} (r : KV kvs vs) (k : κ) {y : V} {u : Value} (ry : RelV y u) :
    KV (kvs.map fun kv => if kv.1 = k then (kv.1, y) else kv) (vs.map fun kv => if kv.1 = k then (kv.1, u) else kv) := by
  unfold KV at r ⊢
  induction r with
  | nil => exact .nil
  | @cons p q ps qs h t ih =>
    rw [List.map_cons, List.map_cons]
    refine .cons ?_ ih
    obtain ⟨h1, h2⟩ := h
    by_cases e : p.1 = k
    · rw [if_pos e, if_pos (h1.symm.trans e)]; exact ⟨h1, ry⟩
    · rw [if_neg e, if_neg (fun z => e (h1.trans z))]; exact ⟨h1, h2⟩
theorem KV.put {kvs : List (κ × V)} {vs : List (κ × Value)} (r : KV kvs vs) (k : κ) {y : V} {u : Value} (ry : RelV y u) : KV (putK kvs k y) (stored vs k u) := by
  unfold putK stored
  rw [r.any k]
  by_cases e : (vs.any fun kv => decide (kv.1 = k)) = true
  · rw [if_pos e, if_pos e]; exact r.repl k ry
  · rw [if_neg e, if_neg e]; exact Paired.snoc r ⟨rfl, ry⟩
theorem KV.drop {kvs : List (κ × V)} {vs : List (κ × Value)} (r : KV kvs vs) (k : κ) : KV (dropK kvs k) (without vs k) := by
  unfold KV at r ⊢
  unfold dropK without
  induction r with
  | nil => exact .nil
  | @cons p q ps qs h t ih =>
    obtain ⟨h1, h2⟩ := h
    rw [List.filter_cons, List.filter_cons]
    by_cases e : p.1 = k
    · have a : ¬ decide (p.1 ≠ k) = true := by simp [e]
      have b : ¬ decide (q.1 ≠ k) = true := by simp [h1.symm.trans e]
      rw [if_neg a, if_neg b]; exact ih
    · have e' : ¬ q.1 = k := fun z => e (h1.trans z)
      have a : decide (p.1 ≠ k) = true := by simp [e]
      have b : decide (q.1 ≠ k) = true := by simp [e']
      rw [if_pos a, if_pos b]; exact .cons ⟨h1, h2⟩ ih
theorem KV.keys {kvs : List (κ × V)} {vs : List (κ × Value)} (r : KV kvs vs) : kvs.map (·.1) = vs.map (·.1) := by
  unfold KV at r
  induction r with
  | nil => rfl
  | cons h t ih => rw [List.map_cons, List.map_cons, ih, h.1]
theorem KV.length {kvs : List (κ × V)} {vs : List (κ × Value)} (r : KV kvs vs) : kvs.length = vs.length := Paired.length r
end


/-! ### a tracked dict, its keys ints and texts or tuples of these -/
/-- raw entries of a dict with tuple keys -/
abbrev KT (H : Hp) : List (List Key × V) → List (List Key × Addr × Value) → Prop := Paired fun p q => p.1 = q.1 ∧ H q.2.1 = some (.tup (p.1.map kV)) ∧ RelV p.2 q.2.2
theorem KT.val {H : Hp} {kvs : List (List Key × V)} {xs : List (List Key × Addr × Value)} (r : KT H kvs xs) (k : List Key) : RelO (valV kvs k) ((atKey xs k).map (·.2)) := by
  induction r with
  | nil => exact True.intro
  | @cons p q ps qs h t ih =>
    obtain ⟨h1, _, h2⟩ := h
    by_cases e : p.1 = k
    · have e' : q.1 = k := h1.symm.trans e
      have b : atKey (q :: qs) k = some q.2 := by simp [atKey, List.find?_cons, e']
      rw [valV_pos e, b]; exact h2
    · have e' : ¬ q.1 = k := fun z => e (h1.trans z)
      have b : atKey (q :: qs) k = atKey qs k := by simp [atKey, List.find?_cons, e']
      rw [valV_neg e, b]; exact ih
theorem KT.repl {H : Hp} {kvs : List (List Key × V)} {xs : List (List Key × Addr × Value)} (r : KT H kvs xs) (k : List Key) {y : V} {u : Value} (ry : RelV y u) :
    KT H (kvs.map fun kv => if kv.1 = k then (kv.1, y) else kv) (xs.map (putAt k u)) := by
  induction r with
  | nil => exact .nil
  | @cons p q ps qs h t ih =>
    rw [List.map_cons, List.map_cons]
    refine .cons ?_ ih
    obtain ⟨h1, h2, h3⟩ := h
    unfold putAt
    by_cases e : p.1 = k
    · rw [if_pos e, if_pos (h1.symm.trans e)]; exact ⟨h1, h2, ry⟩
    · rw [if_neg e, if_neg (fun z => e (h1.trans z))]; exact ⟨h1, h2, h3⟩
theorem KT.put {H : Hp} {kvs : List (List Key × V)} {xs : List (List Key × Addr × Value)} (r : KT H kvs xs) (k : List Key) {b : Addr} {y : V} {u : Value} (hb : H b = some (.tup (k.map kV))) (ry : RelV y u) :
    KT H (putK kvs k y) (storedH xs k b u) := by
  have e : (kvs.any fun kv => decide (kv.1 = k)) = (atKey xs k).isSome := by
    rw [valV_any, (r.val k).isSome_eq, Option.isSome_map]
  unfold putK storedH
  rw [e]
  by_cases q : (atKey xs k).isSome = true
  · rw [if_pos q, if_pos q]; exact r.repl k ry
  · rw [if_neg q, if_neg q]; exact Paired.snoc r ⟨rfl, hb, ry⟩
theorem KT.keeps {H H' : Hp} {kvs : List (List Key × V)} {xs : List (List Key × Addr × Value)} (r : KT H kvs xs) (ht : ∀ b ys, H b = some (.tup ys) → H' b = some (.tup ys)) : KT H' kvs xs :=
  Paired.mapP r fun _ _ z => ⟨z.1, ht _ _ z.2.1, z.2.2⟩

section
variable {P : Program} {w : World} {H : Hp} {h : Heap} {a : Addr}
end

/-- what the dict at a holds at the key y -/
def DGet (H : Hp) (a : Addr) (y : V) (r : Option V) : Prop :=
  (∃ kvs k, Rd H a (.dK kvs) ∧ y = kV k ∧ r = valV kvs k) ∨ ∃ kvs k b, Rd H a (.dT kvs) ∧ y = .ref b ∧ H b = some (.tup (k.map kV)) ∧ r = valV kvs k
/-- the heap behind a[y] = v -/
def DPut (H : Hp) (a : Addr) (y v : V) (H' : Hp) : Prop :=
  (∃ kvs k, H a = some (.dK kvs) ∧ y = kV k ∧ kvs.length < sizeLine ∧ H' = upd H a (.dK (putK kvs k v))) ∨
  ∃ kvs k b, H a = some (.dT kvs) ∧ y = .ref b ∧ H b = some (.tup (k.map kV)) ∧ kvs.length < sizeLine ∧ H' = upd H a (.dT (putK kvs k v))
theorem DGet.k {H : Hp} {a : Addr} {kvs : List (Key × V)} {k : Key} (e : H a = some (.dK kvs)) : DGet H a (kV k) (valV kvs k) := .inl ⟨kvs, k, .inl e, rfl, rfl⟩
theorem DGet.t {H : Hp} {a b : Addr} {kvs : List (List Key × V)} {k : List Key} (e : H a = some (.dT kvs)) (eb : H b = some (.tup (k.map kV))) : DGet H a (.ref b) (valV kvs k) := .inr ⟨kvs, k, b, .inl e, rfl, eb, rfl⟩
theorem DPut.k {H : Hp} {a : Addr} {kvs : List (Key × V)} {k : Key} {v : V} (e : H a = some (.dK kvs)) (hl : kvs.length < sizeLine) : DPut H a (kV k) v (upd H a (.dK (putK kvs k v))) := .inl ⟨kvs, k, e, rfl, hl, rfl⟩
theorem DPut.t {H : Hp} {a b : Addr} {kvs : List (List Key × V)} {k : List Key} {v : V} (e : H a = some (.dT kvs)) (eb : H b = some (.tup (k.map kV))) (hl : kvs.length < sizeLine) :
    DPut H a (.ref b) v (upd H a (.dT (putK kvs k v))) := .inr ⟨kvs, k, b, e, rfl, eb, hl, rfl⟩


section
variable {X : Cx} {pins : List (Addr × Obj)} {σ : St} {H : Hp} {s : Shared} {a : Addr} {y v : V} {u r : Value} {o : Option V} {A : Around} {E : Value → Shared → Prop}

end

section
variable {X : Cx} {pins : List (Addr × Obj)} {σ : St} {H : Hp} {s : Shared} {a : Addr} {kvs : List (Key × V)} {k : Key} {u : Value} {A : Around} {E : Value → Shared → Prop}
end


/-! ### readings and rules -/
section
variable {X : Cx} {o i e value : Expr} {pos pos' tpos : Pos} {td ty tv : TE}
end


/-! ### displays -/
section
variable {X : Cx} {pos : Pos}
end

/-! ### methods -/
section
variable {X : Cx} {pins : List (Addr × Obj)} {σ : St} {H : Hp} {s : Shared} {a : Addr} {y d : V} {u r : Value} {o : Option V} {A : Around} {E : Value → Shared → Prop}
end

section
variable {X : Cx} {o e f : Expr} {apos cpos : Pos} {td ty tx : TE}
end

/-! ### dict(d): a copy -/
section
variable {X : Cx} {pins : List (Addr × Obj)} {σ : St} {H : Hp} {s : Shared} {a : Addr} {kvs : List (Key × V)} {A : Around} {E : Value → Shared → Prop}
end


section
variable {X : Cx} {pins : List (Addr × Obj)} {σ : St} {H : Hp} {s : Shared} {a : Addr} {y : V} {u : Value} {A : Around} {E : Value → Shared → Prop}
end
end L2

namespace Att
open PySem PySem.W PySem.Calls PyProof.Rows

/-! ### the script -/
theorem ints_of_wellAll {P : Params} {h : Heap} : ∀ (ns : List Int) (vs : List Value), WellAll P h vs (ns.map WData.int) → IntsAre vs ns := by
  intro ns
  induction ns with
  | nil =>
    intro vs w
    rw [List.map_nil] at w
    cases w
    exact .nil
  | cons n ns ih =>
    intro vs w
    rw [List.map_cons] at w
    cases w with
    | cons a b =>
      cases a
      exact .cons _ _ (ih _ b)

theorem script_of {l : OpenLaw} {n : Nat} (hn : l.most = some n) {P : Params} {h : Heap} {args : List WData} {vals : List Value}
    (hpre : l.row.toRowW.claim.pre args = true) (hwl : WellAll P h vals args) :
    ∃ a vs ns, vals = [Value.ref a] ∧ args = [WData.list (ns.map WData.int)] ∧ h.get? a = some { cls := .type "list", data := .seq vs.toArray } ∧ IntsAre vs ns ∧ ns.length ≤ n := by
  have hsh : WShape.hasAll [] args [.list .int] = true := (pre_splitW hpre).1
  have hc : l.pre.holds [] { args := args } = true := (pre_splitW hpre).2
  obtain ⟨d, r, rfl, h1, h2⟩ := hasAllW_cons hsh
  obtain rfl := hasAllW_nil h2
  obtain ⟨xs, rfl, h3⟩ := hasW_list h1
  obtain ⟨ns, rfl⟩ := items_int h3
  have hlen : ns.length ≤ n := by
    unfold OpenLaw.pre at hc
    have h4 : (WTm.not (.lt (.lit (.int (n : Int))) (.len (.arg 0)))).holds [] { args := [.list (ns.map .int)] } = true := by
      have h4 := (holds_andW hc).1
      rw [hn] at h4
      exact h4
    have h5 := condW_of h4 (w_not (w_lt w_lit (w_len_list (w_arg rfl))))
    rw [List.length_map] at h5
    refine Nat.le_of_not_lt fun q => ?_
    have q' : (n : Int) < ((ns.length : Nat) : Int) := by omega
    first
      | (rw [decide_eq_true q'] at h5; exact absurd h5 (by decide))
      | (simp at h5; omega)
  cases hwl with
  | cons w1 w2 =>
    cases w2
    cases w1 with
    | list ho hall => exact ⟨_, _, ns, rfl, rfl, ho, ints_of_wellAll ns _ hall, hlen⟩

theorem post_true (l : OpenLaw) (args : List WData) : l.row.toRowW.claim.post args (.bool true) args = true :=
  postW_of (r := l.row.toRowW) (X := (true == true))
    (show WShape.has [] (.bool true) .bool = true by first | rfl | decide | simp [WShape.has, WShape.arms, WShape.armsAll])
    (show (WTm.eq .res (.lit (.bool true))).value [] { args := args, res := some (.bool true), after := args } = some (.bool (true == true)) from w_eq_bool (w_res rfl) w_lit) rfl

/-! ### the attachment: holds_open's last premise (the goal 'hc' behind k_head) from a wpAny of the law's body -/
/-- the same from a codeAny of the CALL (for a layer whose function contracts speak of calls) -/
theorem attach_call {l : OpenLaw} {n : Nat} {q : Program} {loose : List Str} {XP : (Str → Option Value) → Heap → Prop} {YP : World → Heap → Prop} {d : DefRec}
    (hn : l.most = some n) (hdf : d.params.defaults = [])
    (call : ∀ (w : World) (s₀ s₁ : Shared) (mg mb : Str → Option Value) (fa : Addr) (o : Obj) (pm cd doc : Value) (a : Addr) (vs : List Value) (ns : List Int),
      Ground q loose [] XP w s₀ mg mb s₁.heap → YP w s₁.heap →
      s₁.heap.get? fa = some o → o.data = .func (docDef d.name d.params d.body d.scope pm cd doc) → s₁.heap.CodeRec cd d.name → mg d.name = some (.ref fa) →
      s₁.heap.get? a = some { cls := .type "list", data := .seq vs.toArray } → IntsAre vs ns → ns.length ≤ n → s₁.gens = #[] →
      codeAny (model l.prog w) callerA (.call (.ref fa) ⟨[.ref a], []⟩) (fun r s' => r = .ok (.ret (.bool true)) ∧ OldK s₁.heap s'.heap ∧ s'.os = s₁.os ∧ AllBare s'.gens) s₁) :
    WalkO q loose XP YP l.row.toRowW d [] (fun f vs => PySem.call f vs) := by
  intro w s₀ s₁ mg mb G Y fa o pm cd doc dV kV ho hd hcd hD hmg hg args vals as hpre hlay hrd hwl hlo
  obtain rfl : dV = .none := Dflts.none hD hdf
  obtain rfl : kV = .none := Dflts.noKw hD
  obtain ⟨a, vs, ns, rfl, rfl, hobj, hints, hlen⟩ := script_of hn hpre hwl
  refine enter_call (codeAny_mono (call w s₀ s₁ mg mb fa o pm cd doc a vs ns G Y ho (fd_plain hd) hcd hmg hobj hints hlen hg) fun r s' hq => ?_)
  obtain ⟨rfl, h2, h3, h4⟩ := hq
  exact ⟨.inl ⟨.bool true, .bool true, [], rfl, fun _ => rfl, .bool true, post_true l _, fun _ => ⟨List.Pairwise.nil, fun _ hm => (nomatch hm)⟩⟩, h2, h3, h4⟩

/-! ### rules over ANY heap (no ledger) from facts about the written part K: the library's own take a ledger (News) for what they write -/
section
variable {prog : Program} {w : World} {A : Around} {E : Value → Shared → Prop} {s : Shared} {K : Frag}

/-! the whole heap as the ledger: makes every rule that writes through a ledger a rule over any heap -/
def ledger (h : Heap) (L d : Addr) : List (Addr × Obj) := (List.range h.objs.size).filterMap fun a => if a = L ∨ a = d then none else (h.get? a).map fun o => (a, o)
end
end Att

namespace L2
open PySem PySem.Spec PyProof.Rows

theorem vals_ints : ∀ {vs : List Value} {ns : List Int}, IntsAre vs ns → Vals (ns.map V.int) vs
  | _, _, .nil => .nil
  | _, _, .cons n t h => .cons ⟨t, rfl⟩ (vals_ints h)

/-- nothing is tracked but the script, known to the object (or it is an object of the module) -/
def Only (H : Hp) : Prop := ∀ b, H b = none ∨ ∃ o xs, H b = some (.frz o (.lst xs))

/-- THE HEAD: the law's promise, at the heap behind the top. F, the promise of the law's def, may use that base is part of the heap (so K.In base, base.Ns mainGlobals mg stand in Mod) -/
theorem law_call {P : Program} {w : World} {K : PySem.W.Frag} {mg mb : Str → Option Value} {CX : CXT} {k : Nat} {fa a : Addr} {fd : FuncData} {x : Str} {sp : Sp} {s₁ : Shared} {vs : List Value} {ns : List Int}
    (KX : K.In s₁.heap) (hns : s₁.heap.Ns mainGlobals mg) (hb : s₁.heap.Ns builtinsNs mb) (hbb : ∀ x : Str, x ≠ "__name__" → mb x = bootBuiltins x) (hlim : s₁.heap.NoLimit) (hg : s₁.gens = #[])
    (ha : s₁.heap.get? a = some { cls := .type "list", data := .seq vs.toArray }) (hi : IntsAre vs ns) (hl : ns.length ≤ sizeLine) (hr : Room k callerA)
    (F : ∀ base : Heap, K.In base → base.Ns mainGlobals mg → FnOk P w K mg base CX k fa fd [x] sp) (hbind : ∀ (s : Shared) (u : Value), BindsTo s fd ⟨[u], []⟩ [(x, u)])
    (hsp : ∀ H : Hp, Only H → SqL K H a (ns.map V.int) → sp [.ref a] H (fun v _ => v = .bl true) fun _ _ _ => False)
    (hCX : ∀ H e s', CX [] H s₁ (fun _ _ _ => False) e s' → False) :
    codeAny (model P w) callerA (.call (.ref fa) ⟨[.ref a], []⟩) (fun r s' => r = .ok (.ret (.bool true)) ∧ OldK s₁.heap s'.heap ∧ s'.os = s₁.os ∧ AllBare s'.gens) s₁ := by
  have rv := vals_ints hi
  have lenV := hi.length
  -- from an abstract heap in which nothing but the script may be tracked
  have core : ∀ H : Hp, Only H → SqL K H a (ns.map V.int) → HOk P w H s₁.heap → (∀ b, H b ≠ none → b = a) → (H a ≠ none → K.lookup a = none) →
      codeAny (model P w) callerA (.call (.ref fa) ⟨[.ref a], []⟩) (fun r s' => r = .ok (.ret (.bool true)) ∧ OldK s₁.heap s'.heap ∧ s'.os = s₁.os ∧ AllBare s'.gens) s₁ := by
    intro H hO hS hok hA hK
    have base_of : ∀ {b : Addr} {o : Obj}, s₁.heap.get? b = some o → H b = none → (hidT s₁.heap H).get? b = some o := fun e n => hidT_get e n
    have noA : ∀ {b : Addr} {o : Obj} {es : Array DictEntry} {ep : Nat}, s₁.heap.get? b = some o → o.data = .dict es ep → H b = none := fun {b o es ep} e d => by
      cases q : H b with
      | none => rfl
      | some u =>
        have e' : b = a := hA b (by rw [q]; simp)
        subst e'
        rw [ha] at e; cases e
        have d' : Data.seq vs.toArray _ = Data.dict es ep := d
        cases d'
    have nsK : ∀ {b : Addr} {m : Str → Option Value}, s₁.heap.Ns b m → (hidT s₁.heap H).Ns b m := fun {b m} ⟨o, es, ep, e, d, r⟩ => ⟨o, es, ep, base_of e (noA e d), d, r⟩
    have hKb : K.In (hidT s₁.heap H) := fun b o e => base_of (KX b o e) (by
      cases q : H b with
      | none => rfl
      | some u =>
        have e' : b = a := hA b (by rw [q]; simp)
        subst e'
        rw [hK (by rw [q]; simp)] at e; cases e)
    have hM : Mod K mg (hidT s₁.heap H) := ⟨hKb, nsK hns, ⟨mb, nsK hb, hbb⟩, let ⟨mc, h1, h2⟩ := hlim; ⟨mc, nsK h1, h2⟩⟩
    have e0 : Env0 P w K mg (hidT s₁.heap H) callerA [] s₁ H := ⟨rfl, hM, fun b o e => of_hidT e, Nat.le_of_eq (hidT_size _ _), trivial, fun b hb => absurd (show b ∈ ([] : List Addr) from hb) (by simp), hok, .of_eq hg⟩
    refine codeAny_mono ((F _ hKb (nsK hns)).run callerA [] s₁ H ⟨[.ref a], []⟩ [.ref a] [.ref a] _ _ hr e0 (hbind s₁ (.ref a)) (.cons rfl .nil) (hsp H hO hS)) fun r s' h => ?_
    cases r with
    | error e => exact (hCX H e s' h).elim
    | ok fl =>
      cases fl with
      | next => exact False.elim h
      | brk => exact False.elim h
      | cont => exact False.elim h
      | ret u =>
        obtain ⟨v, H', os, bare, un, hok', r', q⟩ := h
        have q' : v = .bl true := q
        subst q'
        obtain rfl : u = Value.bool true := r'
        refine ⟨rfl, OldK.of_keep fun b o e => ?_, os, bare⟩
        cases q : H b with
        | none => exact un.keep b o e q (by intro z; exact absurd (show b ∈ ([] : List Addr) from z) (by simp)) (by simp)
        | some u =>
          rcases hO b with z | ⟨ob, xs, z⟩
          · rw [q] at z; cases z
          · have z2 := un.frzs b ob _ z
            obtain ⟨e1, _⟩ := hok b _ z
            obtain ⟨e2, _⟩ := hok' b _ z2
            rw [e] at e1; cases e1
            exact e2
  cases hk : K.lookup a with
  | some o =>
    -- the script is one of the module's own objects
    have e := KX a o hk
    rw [ha] at e
    cases e
    refine core (fun _ => none) (fun _ => .inl rfl) (.inr ⟨_, vs.toArray, _, hk, rfl, rfl, rfl, by rw [List.size_toArray, lenV]; exact hl, by simpa using rv⟩) (fun b u z => by have z' : (none : Option HO) = some u := z; cases z') (fun b z => absurd rfl z) fun z => absurd rfl z
  | none =>
    refine core (fun b => if b = a then some (.frz { cls := .type "list", data := .seq vs.toArray } (.lst (ns.map V.int))) else none) (fun b => ?_) (.inl (.inr ⟨{ cls := .type "list", data := .seq vs.toArray }, if_pos rfl⟩)) (fun b u z => ?_) (fun b z => ?_) fun _ => hk
    · by_cases hb : b = a
      · exact .inr ⟨_, _, if_pos hb⟩
      · exact .inl (if_neg hb)
    · by_cases hb : b = a
      · have z' := (if_pos hb).symm.trans z
        cases z'
        subst hb
        exact ⟨ha, by rw [List.length_map]; exact hl, vs, _, rv, ha⟩
      · have z' := (if_neg hb).symm.trans z
        cases z'
    · by_cases hb : b = a
      · exact hb
      · exact absurd (if_neg hb) z
end L2

namespace L2
open PySem PySem.Spec PyProof.Rows

/-- the goal that k_head leaves (case hc), from the law's promise. F gives the function object fd (K's own) once, then the promise over every base -/
theorem walk_of {l : PySem.W.OpenLaw} {n k : Nat} {q : Program} {loose : List Str} {XP : (Str → Option Value) → Heap → Prop} {YP : World → Heap → Prop} {d : DefRec} {K : Params → PySem.W.Frag} {CX : World → CXT} {sp : World → Sp} {x : Str}
    (hn : l.most = some n) (hn2 : n ≤ sizeLine) (hdf : d.params.defaults = []) (hr : Room k callerA)
    (hY : ∀ (w : World) (h : Heap), YP w h → (K w.params).In h)
    (F : ∀ (w : World) (mg : Str → Option Value) (fa : Addr) (h : Heap), (K w.params).In h → h.Ns mainGlobals mg → mg d.name = some (.ref fa) →
      ∃ fd : FuncData, (∀ (s : Shared) (u : Value), BindsTo s fd ⟨[u], []⟩ [(x, u)]) ∧
        ∀ base : Heap, (K w.params).In base → base.Ns mainGlobals mg → FnOk l.prog w (K w.params) mg base (CX w) k fa fd [x] (sp w))
    (hsp : ∀ (w : World) (H : Hp) (a : Addr) (ns : List Int), ns.length ≤ n → Only H → SqL (K w.params) H a (ns.map V.int) → sp w [.ref a] H (fun v _ => v = .bl true) fun _ _ _ => False)
    (hCX : ∀ (w : World) (H : Hp) (s : Shared) (e : Value) (s' : Shared), CX w [] H s (fun _ _ _ => False) e s' → False) :
    PySem.W.WalkO q loose XP YP l.row.toRowW d [] (fun f vs => PySem.call f vs) := by
  refine Att.attach_call hn hdf fun w s₀ s₁ mg mb fa o pm cd doc a vs ns G Y ho hd hcd hmg hobj hints hlen hg => ?_
  have KX := hY w _ Y
  obtain ⟨fd, hb, hF⟩ := F w mg fa _ KX G.T.g hmg
  exact law_call KX G.T.g G.T.b G.T.builtins G.T.nolimit hg hobj hints (Nat.le_trans hlen hn2) hr hF hb (fun H hO hS => hsp w H a ns hlen hO hS) fun H e s' => hCX w H s₁ e s'
end L2


/-! SHORT WORDS over the layer: a def of the text, its body, what a loop and a test want. -/
namespace L2
open PySem PySem.Spec PyProof.Rows

/-! ### the text by places -/
/-- the j-th statement of a class's body -/
def inClass (s : Stmt) (j : Nat) : Stmt := match s with
  | .ClassDef _ _ _ body _ _ _ _ _ _ _ => body.getD j (.Pass ⟨0, 0, 0, 0⟩)
  | _ => .Pass ⟨0, 0, 0, 0⟩
def defArgs (s : Stmt) : Arguments := match s with
  | .FunctionDef _ a _ _ _ _ _ _ _ _ => a
  | _ => { posonlyargs := [], args := [], vararg := none, kwonlyargs := [], kw_defaults := [], kwarg := none, defaults := [] }
def defBody (s : Stmt) : List Stmt := match s with
  | .FunctionDef _ _ b _ _ _ _ _ _ _ => b
  | _ => []
def defScope (s : Stmt) : Scope := match s with
  | .FunctionDef _ _ _ _ _ _ sc _ _ _ => sc
  | _ => { kind := .function, names := [], isGenerator := false, isCoroutine := false }

/-! ### no exception leaves a def -/
abbrev CX0 : CXT := fun _ _ _ _ _ _ => False
abbrev E0 : XK := fun _ _ _ => False
theorem pass0 {X : Cx} : Passes CX0 X E0 := fun _ _ _ _ _ _ _ h => h.elim

/-! ### a def (or method) of the text as it stands behind the top -/
structure Fun (K : PySem.W.Frag) (x qual : Str) (st : Stmt) (f : Addr) (fd : FuncData) : Prop where
  ex : ∃ (oc : Value) (od : Option Addr) (kV doc pm : Value) (an : Option Addr) (cdv ct : Value) (osl : Array (Option Value)),
    fd = PySem.W.fnOf x qual (defArgs st) (defBody st) (defScope st) .none kV doc pm an cdv ct ∧ K.lookup f = some ⟨oc, od, .func fd, osl⟩ ∧ PySem.W.codeIn K cdv qual = true
  kp : PySem.W.keepIn K (.ref f) = true
section
variable {P : Program} {w : World} {K : PySem.W.Frag} {mg : Str → Option Value} {base : Heap}
/-- THE RULE for a def: its body as a term of rules, and the reading of that term -/
theorem Fun.ok {x qual : Str} {st : Stmt} {f : Addr} {fd : FuncData} {N ps : List Str} {k : Nat} {sp : Sp} (F : Fun K x qual st f fd) (S : FnScope N ps (defScope st)) (len : ∀ vs H Q E, sp vs H Q E → vs.length = ps.length)
    (hbody : ∀ (cdv : Value) (A : Around) (outer : List Env) (s : Shared) (H : Hp) (vs : List V) (Q : VK) (E : XK), Room k (A.deeper (envOfC qual (defScope st) s.heap.objs.size f cdv)) → sp vs H Q E →
      ∃ t, PSs (cxOf CX0 P w K mg base N qual (defScope st) f cdv A outer s H E).nox (defBody st) t ∧ t { nx := fun _ H' => Q .non H', rt := Q } (start N vs) H) : FnOk P w K mg base CX0 (k + 1) f fd ps sp := by
  obtain ⟨oc, od, kV, doc, pm, an, cdv, ct, osl, rfl, lk, hcd⟩ := F.ex
  refine fn_of lk hcd S len fun A outer s H vs Q E hr hsp => ?_
  obtain ⟨t, h, q⟩ := hbody cdv A outer s H vs Q E hr hsp
  exact ⟨t, h.nox, q⟩
/-- how its arguments bind (no defaults): h is «fun _ _ _ _ _ _ us hl => match us, hl with | [_, _], _ => rfl», one _ a parameter -/
theorem Fun.binds {x qual : Str} {st : Stmt} {f : Addr} {fd : FuncData} {ps : List Str} (F : Fun K x qual st f fd)
    (h : ∀ (kV doc pm : Value) (an : Option Addr) (cdv ct : Value) (us : List Value), us.length = ps.length → bindArgs (PySem.W.fnOf x qual (defArgs st) (defBody st) (defScope st) .none kV doc pm an cdv ct) ⟨us, []⟩ = pure (ps.zip us)) : Binds K fd ps [] := by
  obtain ⟨oc, od, kV, doc, pm, an, cdv, ct, osl, rfl, lk, hcd⟩ := F.ex
  exact .all (h kV doc pm an cdv ct)
theorem fun_mk {x qual : Str} {st : Stmt} {f : Addr} {oc : Value} {od an : Option Addr} {osl : Array (Option Value)} {kV doc pm cdv ct : Value} (l : K.lookup f = some ⟨oc, od, .func (PySem.W.fnOf x qual (defArgs st) (defBody st) (defScope st) .none kV doc pm an cdv ct), osl⟩)
    (c : PySem.W.codeIn K cdv qual = true) (k : PySem.W.keepIn K (.ref f) = true) : Fun K x qual st f (PySem.W.fnOf x qual (defArgs st) (defBody st) (defScope st) .none kV doc pm an cdv ct) := ⟨⟨oc, od, kV, doc, pm, an, cdv, ct, osl, rfl, l, c⟩, k⟩
end
/-! ### expressions in short: the name that stands in the i-th slot -/
section
variable {X : Cx}
theorem pv (i : Nat) {x : Str} {pos : Pos} (hN : X.N[i]? = some x := by rfl) (hv : Vis X.env.scope x := by first | exact Or.inl rfl | exact Or.inr (Or.inl rfl) | exact Or.inr (Or.inr rfl)) (hd : (x == ("__debug__" : Str)) = false := by decide)
    (hcd : (x == ("__classdict__" : Str)) = false := by decide) : PE X (.Name x pos) (tVar i) := pe_var hN hv hd hcd
end

/-! ### tests -/
theorem iteF {A B : Prop} (h : B) : if false = true then A else B := by
  rw [if_neg Bool.false_ne_true]
  exact h
theorem iteT {A B : Prop} (h : A) : if true = true then A else B := by
  rw [if_pos rfl]
  exact h
theorem ite2 {c A B : Prop} [Decidable c] (h1 : c → A) (h2 : ¬ c → B) : if c then A else B := by
  by_cases h : c
  · rw [if_pos h]
    exact h1 h
  · rw [if_neg h]
    exact h2 h
/-! ### heaps -/
/-- all that was tracked is as it was -/
def Same (H H' : Hp) : Prop := ∀ b o, H b = some o → H' b = some o
theorem Same.refl (H : Hp) : Same H H := fun _ _ h => h
theorem Same.trans {H H1 H2 : Hp} (a : Same H H1) (b : Same H1 H2) : Same H H2 := fun c o h => b c o (a c o h)
theorem Same.free {H H' : Hp} (e : Same H H') {l : Addr} (h : H' l = Option.none) : H l = Option.none := by
  cases q : H l with
  | none => rfl
  | some o =>
    rw [e l o q] at h
    cases h
theorem Same.seq {K : PySem.W.Frag} {H H' : Hp} {a : Addr} {xs : List V} (e : Same H H') (h : SqL K H a xs) : SqL K H' a xs := by
  rcases h with (h | ⟨o, h⟩) | h
  · exact .inl (.inl (e _ _ h))
  · exact .inl (.inr ⟨o, e _ _ h⟩)
  · exact .inr h

/-! ### a dict's pairs: keys that differ -/
section
variable {κ : Type} [DecidableEq κ]
end
end L2


set_option maxHeartbeats 4000000
/-! A LIST COMPREHENSION with one clause and no or one test, over the hand layer. -/
namespace L2
open PySem PySem.Spec PyProof.Rows

/-- the cells that a block inside takes along -/
def clOf (cells : List (Str × Addr)) : List (Str × NameKind) → List (Str × Addr) → List (Str × Addr)
  | [], acc => acc
  | (n, k) :: r, acc => if k == .free then clOf cells r ((n, (cells.lookup n).getD 0) :: acc) else clOf cells r acc
theorem closure_of {env : Env} {names : List (Str × NameKind)} (h : ∀ n, (n, NameKind.free) ∈ names → ∃ c, env.cells.lookup n = some c) :
    ∀ acc, (forIn names acc fun (x : Str × NameKind) (cs : List (Str × Addr)) => (match x with
      | (name, kind) => if (kind == NameKind.free) = true then do let c ← cellOf env name; pure (ForInStep.yield ((name, c) :: cs)) else pure (ForInStep.yield cs) : Sem (ForInStep (List (Str × Addr))))) = pure (clOf env.cells names acc) := by
  induction names with
  | nil => intro acc; rfl
  | cons x r ih =>
    intro acc
    obtain ⟨n, k⟩ := x
    have ih' := ih fun m hm => h m (List.mem_cons_of_mem _ hm)
    rw [List.forIn_cons]
    by_cases hk : k = .free
    · subst hk
      obtain ⟨c, hc⟩ := h n List.mem_cons_self
      have e : cellOf env n = pure c := by unfold cellOf; rw [hc]
      simp only [beq_self_eq_true, if_true, e, pure_bind]
      rw [ih']
      show _ = pure (clOf env.cells r ((n, (env.cells.lookup n).getD 0) :: acc))
      rw [hc]; rfl
    · have hb : (k == NameKind.free) = false := by simpa using hk
      simp only [hb, Bool.false_eq_true, if_false, pure_bind]
      rw [ih']
      show _ = pure (if (k == NameKind.free) = true then _ else clOf env.cells r acc)
      rw [hb]; rfl
theorem closureFor_of {scope : Scope} {env : Env} (h : ∀ n, (n, NameKind.free) ∈ scope.names → ∃ c, env.cells.lookup n = some c) : closureFor scope env = pure (clOf env.cells scope.names []) := by
  have e := closure_of h []
  unfold closureFor
  simp only [bind_pure_comp] at *
  first
    | exact e
    | (rw [show (forIn scope.names ([] : List (Str × Addr)) _) = _ from e]; rfl)

theorem cl_sub {cells : List (Str × Addr)} : ∀ {names : List (Str × NameKind)} {acc : List (Str × Addr)}, (∀ n, (n, NameKind.free) ∈ names → ∃ c, cells.lookup n = some c) → (∀ x c, acc.lookup x = some c → cells.lookup x = some c) →
    ∀ x c, (clOf cells names acc).lookup x = some c → cells.lookup x = some c
  | [], _, _, ha, x, c, e => ha x c e
  | (n, k) :: r, acc, h, ha, x, c, e => by
    by_cases hk : k = .free
    · subst hk
      obtain ⟨d, hd⟩ := h n List.mem_cons_self
      refine cl_sub (names := r) (acc := (n, (cells.lookup n).getD 0) :: acc) (fun m hm => h m (List.mem_cons_of_mem _ hm)) (fun y z q => ?_) x c e
      rw [List.lookup_cons] at q
      by_cases hy : y = n
      · subst hy
        simp only [beq_self_eq_true, hd, Option.getD_some] at q
        rw [hd]; exact q
      · have hb : (y == n) = false := beq_eq_false_iff_ne.mpr hy
        simp only [hb] at q
        exact ha y z q
    · have hb : (k == NameKind.free) = false := by simpa using hk
      have e' : (clOf cells r acc).lookup x = some c := by
        have : clOf cells ((n, k) :: r) acc = clOf cells r acc := by show (if (k == NameKind.free) = true then _ else _) = _; rw [hb]; rfl
        rw [← this]; exact e
      exact cl_sub (names := r) (fun m hm => h m (List.mem_cons_of_mem _ hm)) ha x c e'
theorem cl_has {cells : List (Str × Addr)} : ∀ {names : List (Str × NameKind)} {acc : List (Str × Addr)} {x : Str}, ((x, NameKind.free) ∈ names ∨ ∃ c, acc.lookup x = some c) → ∃ c, (clOf cells names acc).lookup x = some c
  | [], _, _, h => by
    rcases h with h | h
    · simp at h
    · exact h
  | (n, k) :: r, acc, x, h => by
    by_cases hk : k = .free
    · subst hk
      show ∃ c, (clOf cells r ((n, (cells.lookup n).getD 0) :: acc)).lookup x = some c
      refine cl_has (names := r) ?_
      by_cases hx : x = n
      · subst hx
        exact .inr ⟨_, by rw [List.lookup_cons]; simp only [beq_self_eq_true]; rfl⟩
      · have hb : (x == n) = false := beq_eq_false_iff_ne.mpr hx
        rcases h with h | ⟨c, h⟩
        · rcases List.mem_cons.mp h with q | q
          · exact absurd (Prod.mk.inj q).1 hx
          · exact .inl q
        · exact .inr ⟨c, by rw [List.lookup_cons]; simp only [hb]; exact h⟩
    · have hb : (k == NameKind.free) = false := by simpa using hk
      have : clOf cells ((n, k) :: r) acc = clOf cells r acc := by show (if (k == NameKind.free) = true then _ else _) = _; rw [hb]; rfl
      rw [this]
      refine cl_has (names := r) ?_
      rcases h with h | h
      · rcases List.mem_cons.mp h with q | q
        · exact absurd (Prod.mk.inj q).2.symm hk
        · exact .inl q
      · exact .inr h
def relK (env : Env) (x : Str) (k : NameKind) : NameKind := if (k == NameKind.free && env.scope.kind == .function && env.kindOf x == some .cell) = true then .cell else k
theorem relabel_lookup {env : Env} {x : Str} : ∀ {names : List (Str × NameKind)},
    (names.map fun (n, k) => if (k == NameKind.free && env.scope.kind == .function && env.kindOf n == some .cell) then (n, NameKind.cell) else (n, k)).lookup x = (names.lookup x).map (relK env x)
  | [] => rfl
  | (n, k) :: r => by
    have ih := @relabel_lookup env x r
    show List.lookup x ((if (k == NameKind.free && env.scope.kind == .function && env.kindOf n == some .cell) = true then (n, NameKind.cell) else (n, k)) :: _) = _
    by_cases hx : x = n
    · subst hx
      rw [List.lookup_cons]
      unfold relK
      by_cases hc : (k == NameKind.free && env.scope.kind == .function && env.kindOf x == some .cell) = true
      · rw [if_pos hc, List.lookup_cons]; simp only [beq_self_eq_true, Option.map_some]; rw [if_pos hc]
      · rw [if_neg hc, List.lookup_cons]; simp only [beq_self_eq_true, Option.map_some]; rw [if_neg hc]
    · have hb : (x == n) = false := beq_eq_false_iff_ne.mpr hx
      rw [List.lookup_cons (k := n)]
      by_cases hc : (k == NameKind.free && env.scope.kind == .function && env.kindOf n == some .cell) = true
      · rw [if_pos hc, List.lookup_cons]; simp only [hb]; exact ih
      · rw [if_neg hc, List.lookup_cons]; simp only [hb]; exact ih
theorem mem_of_lookup {κ β : Type} [BEq κ] [LawfulBEq κ] {x : κ} {b : β} : ∀ {l : List (κ × β)}, l.lookup x = some b → (x, b) ∈ l
  | [], h => by simp at h
  | (n, k) :: r, h => by
    rw [List.lookup_cons] at h
    cases hb : x == n with
    | true =>
      rw [hb] at h
      have e1 := LawfulBEq.eq_of_beq hb
      have e2 : k = b := by simpa using h
      subst e1 e2
      exact List.mem_cons_self
    | false =>
      rw [hb] at h
      exact List.mem_cons_of_mem _ (mem_of_lookup h)

/-- the context of a comprehension's block: its own names and those that it takes along -/
def Cx.blk (X : Cx) (scope : Scope) (N' : List Str) (C : Addr) (s₂ : Shared) (H₂ : Hp) (ex : List Addr) : Cx :=
  { X with N := N', s₀ := s₂, H₀ := H₂, env := compEnvC scope (clOf X.env.cells scope.names []) C X.env, outer := X.stack, stack := X.stack, ex := ex, fn := fun _ => false, pn := [], xe := fun _ _ => False }

/-- what is asked of a comprehension's scope: no cells of its own; its names are locals or taken along; ix: where each of N' stands outside (none: its own) -/
structure CompScope (X : Cx) (scope : Scope) (N' : List Str) (ix : List (Option Nat)) : Prop where
  kind : scope.kind = .function
  cell : ∀ y ∈ scope.names, y.2 ≠ .cell
  own : ∀ y ∈ scope.names, y.2 = .local → scope.names.lookup y.1 = some .local
  free : ∀ y ∈ scope.names, y.2 = .free → (X.env.kindOf y.1 = some .cell ∨ X.env.kindOf y.1 = some .free)
  once : ∀ x, (x, NameKind.local) ∈ scope.names → (x, NameKind.free) ∈ scope.names → False
  len : ix.length = N'.length
  out : ∀ (i j : Nat), ix[i]? = some (some j) → X.N[j]? = N'[i]? ∧ ∀ x, N'[i]? = some x → (x, NameKind.free) ∈ scope.names ∧ Vis X.env.scope x
/-- the values that the block sees at its start -/
def takes (ix : List (Option Nat)) (σ : St) : St := ix.map fun o => o.bind fun j => (σ[j]?).join

section
variable {X : Cx} {pins : List (Addr × Obj)} {σ : St} {H : Hp} {s : Shared} {scope : Scope} {N' : List Str} {ix : List (Option Nat)} {fp : List Addr}
theorem blk_free (I : Inv X pins σ H s) (S : CompScope X scope N' ix) : ∀ n, (n, NameKind.free) ∈ scope.names → ∃ c, X.env.cells.lookup n = some c := fun n hn => I.ok.has n (S.free _ hn rfl)
theorem blk_sub (I : Inv X pins σ H s) (S : CompScope X scope N' ix) : ∀ x c, (clOf X.env.cells scope.names []).lookup x = some c → X.env.cells.lookup x = some c :=
  cl_sub (blk_free I S) fun x c e => by simp at e
theorem blk_has (I : Inv X pins σ H s) (S : CompScope X scope N' ix) {x : Str} (h : (x, NameKind.free) ∈ scope.names) : ∃ c, (clOf X.env.cells scope.names []).lookup x = some c ∧ X.env.cells.lookup x = some c := by
  obtain ⟨c, e⟩ := cl_has (cells := X.env.cells) (acc := []) (.inl h)
  exact ⟨c, e, blk_sub I S x c e⟩
theorem blk_kind {C : Addr} (x : Str) : (compEnvC scope (clOf X.env.cells scope.names []) C X.env).kindOf x = (scope.names.lookup x).map (relK X.env x) := relabel_lookup
theorem blk_ok {C : Addr} (I : Inv X pins σ H s) (S : CompScope X scope N' ix) (hC : s.heap.objs.size ≤ C) (hf : ∀ b ∈ fp, FpOk X pins H b) (hfo : ∀ b ∈ fp, b < C) : (X.blk scope N' C s H fp).Ok where
  mod := I.ok.mod
  kind := S.kind
  glob := I.ok.glob
  blt := I.ok.blt
  above := hC
  inj := fun x y c h1 h2 => I.ok.inj x y c (blk_sub I S x c h1) (blk_sub I S y c h2)
  has := fun x hx => by
    have hx' : (scope.names.lookup x).map (relK X.env x) = some .cell ∨ (scope.names.lookup x).map (relK X.env x) = some .free := by
      rw [← blk_kind (C := C)]; exact hx
    cases e : scope.names.lookup x with
    | none => rw [e] at hx'; rcases hx' with z | z <;> cases z
    | some k =>
      have hm := mem_of_lookup e
      have hk : k = .free := by
        rw [e] at hx'
        have h1 := S.cell _ hm
        unfold relK at hx'
        by_cases hc : (k == NameKind.free && X.env.scope.kind == .function && X.env.kindOf x == some .cell) = true
        · simp only [Bool.and_eq_true, beq_iff_eq] at hc
          exact hc.1.1
        · simp only [Option.map_some, hc, if_false, Bool.false_eq_true] at hx'
          rcases hx' with z | z
          · exact absurd (Option.some.inj z) h1
          · exact Option.some.inj z
      subst hk
      obtain ⟨c, h1, _⟩ := blk_has I S hm
      exact ⟨c, h1⟩
  cab := fun x c h => by cases h
  hd := I.ok.hd
  frames := I.ok.frames
  stk := .inl rfl
  exf := fun b hb => ⟨Nat.ne_of_lt (hfo b hb), fun x c e => (hf b hb).2.2.2.2.1 x c (blk_sub I S x c e)⟩
  bs := I.bs
  bsz := Nat.le_trans I.ok.bsz I.sz
  noex := fun b o e hb => by
    rcases (hf b hb).2.2.2.1 with z | z
    · exact I.ok.noex b o e z
    · exact absurd (Nat.lt_of_lt_of_le (Heap.lt_size e) (Nat.le_trans I.ok.bsz z)) (Nat.lt_irrefl _)
  exfs := fun b hb z => by
    rcases List.mem_cons.mp (I.stkSub b z) with q | q
    · exact (hf b hb).2.1 q
    · exact (hf b hb).2.2.1 q
  funs := I.stack
  frf := I.stkFree

/-- the block's state at its start: the frame at C, all else kept -/
theorem blk_inv {C : Addr} {h' : Heap} {t' : Nat} {m : Str → Option Value} (I : Inv X pins σ H s) (S : CompScope X scope N' ix) (hC : s.heap.objs.size ≤ C) (hf : ∀ b ∈ fp, FpOk X pins H b) (hfo : ∀ b ∈ fp, b < C)
    (k : ∀ b o, s.heap.get? b = some o → h'.get? b = some o) (hn : h'.Ns C m) : Inv (X.blk scope N' C s H fp) [] (takes ix σ) H { s with heap := h', toks := t' } where
  ok := blk_ok I S hC hf hfo
  os := rfl
  bare := I.bare
  base := Un.kept k
  loc := ⟨m, hn, fun i x v e1 e2 e3 => by
    have e2' : (ix[i]?).map (fun o => o.bind fun j => (σ[j]?).join) = some (some v) := by rw [← List.getElem?_map]; exact e2
    cases q : ix[i]? with
    | none => rw [q] at e2'; cases e2'
    | some o =>
      rw [q] at e2'
      cases o with
      | none => cases e2'
      | some j =>
        have e2'' : (σ[j]?).join = some v := by simpa using e2'
        have e4 : σ[j]? = some (some v) := by
          cases z : σ[j]? with
          | none => rw [z] at e2''; cases e2''
          | some y => rw [z] at e2''; exact congrArg some e2''
        obtain ⟨o1, o2⟩ := S.out i j q
        have e1' : N'[i]? = some x := e1
        obtain ⟨o3, o4⟩ := o2 x e1'
        obtain ⟨m0, hn0, hl⟩ := I.loc
        obtain ⟨u, r, l⟩ := hl j x v (o1.trans e1') e4 o4
        refine ⟨u, r, .inr ?_⟩
        obtain ⟨c, c1, c2⟩ := blk_has I S o3
        have fk := S.free _ o3 rfl
        have hcell : h'.IsCell c (some u) := by
          rcases l with ⟨lk, _⟩ | ⟨_, c', lc, lz⟩
          · rcases fk with z | z <;> (rw [lk] at z; cases z)
          · rw [c2] at lc; cases lc
            exact lz.keeps k
        refine ⟨?_, c, c1, hcell⟩
        have hkd : (scope.names.lookup x).map (relK X.env x) = some (relK X.env x ((scope.names.lookup x).getD .free)) := by
          cases z : scope.names.lookup x with
          | none =>
            exfalso
            have : ∀ {l : List (Str × NameKind)}, (x, NameKind.free) ∈ l → l.lookup x ≠ none := by
              intro l
              induction l with
              | nil => intro h; simp at h
              | cons y r ih =>
                intro h
                rw [List.lookup_cons]
                rcases List.mem_cons.mp h with q | q
                · rw [← q]; simp
                · cases hb : x == y.1 with
                  | true => simp
                  | false => exact ih q
            exact this o3 z
          | some k => rfl
        have hvis : Vis (compEnvC scope (clOf X.env.cells scope.names []) C X.env).scope x := e3
        have hkx : (compEnvC scope (clOf X.env.cells scope.names []) C X.env).kindOf x = some .local ∨ (compEnvC scope (clOf X.env.cells scope.names []) C X.env).kindOf x = some .cell ∨ (compEnvC scope (clOf X.env.cells scope.names []) C X.env).kindOf x = some .free := hvis
        rcases hkx with z | z
        · exfalso
          rw [blk_kind] at z
          cases w : scope.names.lookup x with
          | none => rw [w] at z; cases z
          | some k =>
            rw [w] at z
            have z' : relK X.env x k = .local := Option.some.inj z
            unfold relK at z'
            split at z'
            · cases z'
            · subst z'
              -- a name that is local and taken along at once
              have := S.once x (mem_of_lookup w) o3
              exact this
        · exact z⟩
  cell := fun x c e => by
    obtain ⟨v, z⟩ := I.cell x c (blk_sub I S x c e)
    exact ⟨v, z.keeps k⟩
  free := I.hok.fresh hC
  freeC := fun x c e => I.freeC x c (blk_sub I S x c e)
  pin := fun p hp => nomatch hp
  hok := I.hok.kept k
  len := by
    show (takes ix σ).length = N'.length
    unfold takes
    rw [List.length_map]; exact S.len
/-- behind the block: the frame is let go, the list at D is tracked -/
theorem blk_back {C D : Addr} {h' : Heap} {s' : Shared} {H' : Hp} {σ' : St} {pins' : List (Addr × Obj)} {ys : List V} {its : List Value} {n : Nat} (I : Inv X pins σ H s) (hD : s.heap.objs.size ≤ D) (hDC : D < C) (hf : ∀ b ∈ fp, FpOk X pins H b)
    (I' : Inv (X.blk scope N' C s H (D :: fp)) pins' σ' H' s') (hs : Heap.SameBut C s'.heap h') (hDn : H' D = none) (hl : ys.length ≤ sizeLine) (rv : Vals ys its) (ho : s'.heap.get? D = some { cls := .type "list", data := .seq its.toArray n }) :
    Inv X pins σ (upd H' D (.lst ys)) { s' with heap := h' } := by
  have nD : ∀ b o, s.heap.get? b = some o → b ≠ D := fun b o e => Nat.ne_of_lt (Nat.lt_of_lt_of_le (Heap.lt_size e) hD)
  have nC : ∀ b o, s.heap.get? b = some o → b ≠ C := fun b o e => Nat.ne_of_lt (Nat.lt_trans (Nat.lt_of_lt_of_le (Heap.lt_size e) hD) hDC)
  have nt : ∀ b o, H b = some o → b ≠ D := fun b o e => Nat.ne_of_lt (Nat.lt_of_lt_of_le (I.hok.lt e) hD)
  have nx : ∀ b o, s.heap.get? b = some o → b ∉ fp → b ∉ D :: fp := fun b o e hb z => by
    rcases List.mem_cons.mp z with q | q
    · exact nD b o e q
    · exact hb q
  have ho' : h'.get? D = some { cls := .type "list", data := .seq its.toArray n } := (hs.2 D (Nat.ne_of_lt hDC)).trans ho
  have hbase : Un (frs X.stack) (D :: fp) H H' s.heap s'.heap := I'.base
  have hfreeC : H' C = none := I'.free
  refine I.call' (ch := fp) (s' := { s' with heap := h' }) I'.os ⟨fun b o e n hb hx => ?_, fun b o e n hb hx => ?_, fun b o e n hx => ?_, fun b o e hx => ?_, fun b xs e => ?_, fun b o u e => ?_, fun b ps e => ?_⟩ (fun b u e => ?_) I'.bare (fun b hb => ?_)
  · exact (hs.2 b (nC b o e)).trans (hbase.keep b o e n hb (nx b o e hx))
  · obtain ⟨sl, q⟩ := hbase.slot b o e n hb (nx b o e hx)
    exact ⟨sl, (hs.2 b (nC b o e)).trans q⟩
  · rw [upd_ne (nD b o e)]; exact hbase.free b o e n (nx b o e hx)
  · obtain ⟨o', q⟩ := hbase.there b o e (nx b o e hx)
    exact ⟨o', (hs.2 b (nC b o e)).trans q⟩
  · rw [upd_ne (nt b _ e)]; exact hbase.tups b xs e
  · rw [upd_ne (nt b _ e)]; exact hbase.frzs b o u e
  · rw [upd_ne (nt b _ e)]; exact hbase.tbls b ps e
  · by_cases hb : b = D
    · subst hb
      rw [upd_same] at e; cases e
      exact ⟨hl, its, n, rv, ho'⟩
    · rw [upd_ne hb] at e
      refine (I'.hok b u e).stay (fun c v hc q => (hs.2 c ?_).trans q) (fun c q => ?_) fun c xs q => ?_
      · rintro rfl
        rcases hc with z | z
        · subst z; rw [hfreeC] at e; cases e
        · rw [hfreeC] at z; cases z
      · rw [upd_ne (ne_of_none q hDn)]; exact q
      · rw [upd_ne (ne_of_none q hDn)]; exact q
  · exact ⟨(hf b hb).2.2.2.1, (hf b hb).2.1, (hf b hb).2.2.2.2.1, (hf b hb).2.2.2.2.2⟩
end

/-! ### the tests of a clause -/
def PIfs (X : Cx) (ifs : List Expr) (tc : TT) : Prop :=
  ∀ (pins : List (Addr × Obj)) (s : Shared) (σ : St) (H : Hp) (Q : Bool → Hp → Prop), Inv X pins σ H s → tc σ H Q →
    wpAny (model X.prog X.w) X.A (forIn ifs true fun c r => if r = true then do let ok ← isTrue c X.env (eval c X.env); pure (ForInStep.yield ok) else pure (ForInStep.yield r)) (TP X pins σ Q) X.xe s
def tYes : TT := fun _ H Q => Q true H
theorem pifs_nil {X : Cx} : PIfs X [] tYes := fun _ _ _ H _ I h => wpAny_tests_nil ⟨H, I, h⟩
theorem pifs_one {X : Cx} {c : Expr} {tc : TT} (hc : PT X c tc) : PIfs X [c] tc := fun pins s σ H Q I h => wpAny_tests_one (hc pins s σ H Q I h)

def TgOwn (g : TG) (own : List Nat) : Prop := ∀ v σ H (Q : St → Hp → Prop), g v σ H Q → g v σ H fun σ' H' => Q σ' H' ∧ σ'.length = σ.length ∧ ∀ k, k ∉ own → σ'[k]? = σ[k]?
theorem own_name {i : Nat} : TgOwn (gName i) [i] := fun v σ H Q h => ⟨h, List.length_set, fun k hk => List.getElem?_set_ne (fun e => hk (by simp [e]))⟩
/-- [elt for tg in iter if ..] -/
def tComp (wi : TI) (ix : List (Option Nat)) (g : TG) (tc : TT) (te : TE) : TE := fun σ H Q => wi σ H fun J H1 => ∃ (n : Nat) (Pv : Nat → List V → Hp → Prop), n ≤ sizeLine ∧ Pv 0 [] H1 ∧
  (∀ i ys H2, i < n → Pv i ys H2 → J.go i H2 ∧ ∀ x H3, J.yld i H2 x H3 → g x (takes ix σ) H3 fun σ4 H4 => tc σ4 H4 fun b H5 => if b = true then te σ4 H5 fun y H6 => Pv (i + 1) (ys ++ [y]) H6 else Pv (i + 1) ys H5) ∧
  ∀ ys H2, Pv n ys H2 → J.stop n H2 ∧ ∀ D, H2 D = none → Q (.ref D) (upd H2 D (.lst ys))

section
variable {X : Cx} {elt iter tg : Expr} {ifs : List Expr} {scope : Scope} {pos : Pos} {N' : List Str} {ix : List (Option Nat)} {own : List Nat} {wi : TI} {g : TG} {tc : TT} {te : TE}
theorem comp_core {use : Option (Value → Sem Unit)} {QQ : Value → Shared → Prop} (hcalm : X.calm = true) (S : CompScope X scope N' ix) (hown : ∀ k ∈ own, ix[k]? = some none) (hi : PI X tg iter wi)
    (hg : ∀ C s₂ H₂ ex, PG (X.blk scope N' C s₂ H₂ ex) tg g) (hgo : TgOwn g own) (hc : ∀ C s₂ H₂ ex, PIfs (X.blk scope N' C s₂ H₂ ex) ifs tc) (he : ∀ C s₂ H₂ ex, PE (X.blk scope N' C s₂ H₂ ex) elt te)
    (hs : ∀ x, foldedSetIterable iter X.env x = pure x) {pins : List (Addr × Obj)} {s : Shared} {σ : St} {H : Hp} {Q : VK} (I : Inv X pins σ H s) (h : tComp wi ix g tc te σ H Q)
    (hend : ∀ (s2 : Shared) (H2 : Hp) (fp : List Addr) (C D : Addr) (s4 : Shared) (H' : Hp) (ys : List V) (its : List Value) (k : Nat) (pins' : List (Addr × Obj)) (σ' : St), Inv X pins σ H2 s2 → s2.heap.objs.size ≤ D → D < C → (∀ b ∈ fp, FpOk X pins H2 b) →
      Inv (X.blk scope N' C s2 H2 (D :: fp)) pins' σ' H' s4 → H' D = none → ys.length ≤ sizeLine → Vals ys its → s4.heap.get? D = some { cls := .type "list", data := .seq its.toArray k } → Q (.ref D) (upd H' D (.lst ys)) →
      compPost (model X.prog X.w) X.A X.xe use QQ (.ref D) C (.ok .next) s4) (p' : Pos) :
    wpAny (model X.prog X.w) X.A (comprehension (.ListComp elt [⟨tg, iter, ifs, 0⟩] scope pos) scope X.env p' (newList []) false (eval iter X.env) use) QQ X.xe s := by
  refine wpAny_comprehension_free (use := use) (cl := clOf X.env.cells scope.names []) rfl hs (closureFor_of (blk_free I S)) S.kind S.own ?_
  refine thn (hi pins s σ H _ I h) fun v s1 h1 => thn h1 fun itv s2 h2 => ?_
  obtain ⟨it, fp, tn, J, H2, e, I2, T, st2, f2, n, Pv, hn, p0, turn, fin⟩ := h2
  subst e
  refine wpAny_newObj_type (wpAny_newFunctionEnv S.cell (by intro y hy; simp at hy) (fun h₁ hns₁ hsb₁ => ?_) S.kind)
  dsimp only at hns₁ hsb₁ ⊢
  generalize hH2 : s2.heap.push { cls := .type "list", dict := none, data := .seq ([] : List Value).toArray } = G2 at hns₁ hsb₁ ⊢
  have hC : G2.objs.size = s2.heap.objs.size + 1 := by rw [← hH2, Heap.size_push]
  have hDC : s2.heap.objs.size < G2.objs.size := by rw [hC]; exact Nat.lt_succ_self _
  have hCle : s2.heap.objs.size ≤ G2.objs.size := Nat.le_of_lt hDC
  have old : ∀ b o, s2.heap.get? b = some o → h₁.get? b = some o := fun b o e => hsb₁.extBut b o (Nat.ne_of_lt (Nat.lt_trans (Heap.lt_size e) hDC)) (Heap.get?_push_of_some _ (hH2 ▸ Heap.get?_push_of_some _ e))
  have hacc : h₁.get? s2.heap.objs.size = some { cls := .type "list", data := .seq #[] } := hsb₁.extBut _ _ (Nat.ne_of_lt hDC) (Heap.get?_push_of_some _ (hH2 ▸ Heap.get?_push_size _ rfl))
  have hDn : H2 s2.heap.objs.size = none := I2.hok.fresh (Nat.le_refl _)
  have fD : ∀ b ∈ s2.heap.objs.size :: fp, FpOk X pins H2 b := fun b hb => by
    rcases List.mem_cons.mp hb with q | q
    · rw [q]; exact I2.fpOk (Nat.le_refl _) hDn
    · exact f2 b q
  have lfp : ∀ b ∈ fp, b < s2.heap.objs.size := fun b hb => by
    obtain ⟨o, ho, _⟩ := T.obj 0 _ st2 b hb
    exact Heap.lt_size ho
  have lD : ∀ b ∈ s2.heap.objs.size :: fp, b < G2.objs.size := fun b hb => by
    rcases List.mem_cons.mp hb with q | q
    · rw [q]; exact hDC
    · exact Nat.lt_trans (lfp b q) hDC
  have I3 : Inv (X.blk scope N' G2.objs.size s2 H2 (s2.heap.objs.size :: fp)) [] (takes ix σ) H2 { s2 with heap := h₁, toks := s2.toks + ([] : List (Str × Value)).length } := blk_inv I2 S hCle fD lD old hns₁
  have st3 : tn 0 h₁ := T.keep 0 _ _ st2 fun b hb o e => old b o e
  have noxE : ∀ {α : Type} {t : Sem α} {Q' : α → Shared → Prop} {E' : Value → Shared → Prop} {s' : Shared}, wpAny (model X.prog X.w) X.A t Q' (fun _ _ => False) s' → wpAny (model X.prog X.w) X.A t Q' E' s' := fun w => wpAny_mono w (fun _ _ q => q) fun _ _ z => False.elim z
  -- a record of the block's own
  have fpB : ∀ {H' : Hp} {pins' : List (Addr × Obj)}, (∀ b ∈ s2.heap.objs.size :: fp, H' b = none) → pins' = [] → ∀ b ∈ s2.heap.objs.size :: fp, FpOk (X.blk scope N' G2.objs.size s2 H2 (s2.heap.objs.size :: fp)) pins' H' b := by
    intro H' pins' hn' hp b hb
    subst hp
    have ok := I3.ok
    exact ⟨hn' b hb, (ok.exf b hb).1, ok.exfs b hb, .inl hb, (ok.exf b hb).2, fun p hp => nomatch hp⟩
  have loop : ∀ s3 : Shared, s3 = { s2 with heap := h₁, toks := s2.toks + ([] : List (Str × Value)).length } →
      codeAny (model X.prog X.w) X.A (.compLoop (.ListComp elt [⟨tg, iter, ifs, 0⟩] scope pos) 0 (.ref it) (.ref s2.heap.objs.size) (compEnvC scope (clOf X.env.cells scope.names []) G2.objs.size X.env))
        (compPost (model X.prog X.w) X.A X.xe use QQ (.ref s2.heap.objs.size) G2.objs.size) s3 := by
    rintro s3 rfl
    refine codeAny_loop rfl (fun mm s' => ∃ i ys its k H', mm = n - i ∧ i ≤ n ∧ ys.length ≤ i ∧ Inv (X.blk scope N' G2.objs.size s2 H2 (s2.heap.objs.size :: fp)) [] (takes ix σ) H' s' ∧ tn i s'.heap ∧
        (∀ b ∈ s2.heap.objs.size :: fp, H' b = none) ∧ Vals ys its ∧ s'.heap.get? s2.heap.objs.size = some { cls := .type "list", data := .seq its.toArray k } ∧ Pv i ys H') ?_ n
      ⟨0, [], [], _, H2, rfl, Nat.zero_le _, Nat.le_refl _, I3, st3, fun b hb => (fD b hb).1, .nil, hacc, p0⟩
    rintro mm s' ⟨i, ys, its, k, H', rfl, hin, hyl, I', st', fr', rv, hob, pv⟩
    show wpAny _ X.A ((compTurn (.ListComp elt [⟨tg, iter, ifs, 0⟩] scope pos) 0 (.ref it) (.ref s2.heap.objs.size) (compEnvC scope (clOf X.env.cells scope.names []) G2.objs.size X.env)).onRaise (fun x => do noteFrame x (compEnvC scope (clOf X.env.cells scope.names []) G2.objs.size X.env); theTreesLotGoes x)) _ _ s'
    refine wpAny_noted ?_
    rw [compTurn_list]
    refine wpAny_bind (wpAny_standAt (wpAny_bind ?_))
    have fpT : ∀ b ∈ fp, FpOk (X.blk scope N' G2.objs.size s2 H2 (s2.heap.objs.size :: fp)) [] H' b := fun b hb => fpB fr' rfl b (List.mem_cons_of_mem _ hb)
    by_cases hlt : i < n
    · obtain ⟨go, step⟩ := turn i ys H' hlt pv
      -- the list is pinned while the iterator turns
      refine noxE (thn (T.item (X.blk scope N' G2.objs.size s2 H2 (s2.heap.objs.size :: fp)) rfl rfl rfl hcalm i [(s2.heap.objs.size, ({ cls := .type "list", data := .seq its.toArray k } : Obj))] s' _ H' (fun _ _ => False) (I'.pins_of fun p hp => ?_) (fun b hb => ?_) st' go) fun r s4 ⟨u, hr, h4⟩ => ?_)
      · obtain rfl := List.mem_singleton.mp hp
        refine ⟨hob, fr' _ List.mem_cons_self, Nat.ne_of_lt hDC, ?_, fun v z => ?_⟩
        · exact I3.ok.exfs _ List.mem_cons_self
        · have z' : Data.seq _ _ = Data.cell v := z
          cases z'
      · obtain ⟨f0, f1, f2', f3, f4, f5⟩ := fpT b hb
        refine ⟨f0, f1, f2', f3, f4, fun p hp => ?_⟩
        obtain rfl := List.mem_singleton.mp hp
        exact Nat.ne_of_gt (lfp b hb)
      · subst hr
        refine wpAny_bind (noxE (thn h4 fun _ s5 ⟨x, H5, I5, r5, y5, st5, fr5⟩ => ?_))
        -- from here on the iterator's records and the list are pinned
        have D5 := I5.pin (s2.heap.objs.size, ({ cls := .type "list", data := .seq its.toArray k } : Obj)) (by simp [Cx.blk])
        have fr5' : ∀ b ∈ s2.heap.objs.size :: fp, H5 b = none := fun b hb => by
          rcases List.mem_cons.mp hb with q | q
          · rw [q]; exact D5.2.1
          · exact fr5 b q
        have I5' : Inv (X.blk scope N' G2.objs.size s2 H2 (s2.heap.objs.size :: fp)) ([] ++ pinsAt (s2.heap.objs.size :: fp) s5.heap) (takes ix σ) H5 s5 :=
          (I5.pins_of (pins' := []) fun p hp => nomatch hp).pinned (fpB fr5' rfl) fun b hb => by
            rcases List.mem_cons.mp hb with q | q
            · subst q
              exact ⟨_, D5.1, D5.2.2.2.2⟩
            · exact T.obj _ _ st5 b q
        refine wpAny_bind (noxE (thn (hg _ _ _ _ _ s5 _ H5 x u _ I5' r5 (hgo _ _ _ _ (step x H5 y5))) fun _ s6 ⟨σ6, H6, I6, q6, l6, k6⟩ => ?_))
        refine wpAny_bind (noxE (thn (hc _ _ _ _ _ s6 σ6 H6 _ I6 q6) fun ok s7 ⟨H7, I7, q7⟩ => ?_))
        have back : ∀ {H8 : Hp} {s8 : Shared}, Inv (X.blk scope N' G2.objs.size s2 H2 (s2.heap.objs.size :: fp)) ([] ++ pinsAt (s2.heap.objs.size :: fp) s5.heap) σ6 H8 s8 →
            Inv (X.blk scope N' G2.objs.size s2 H2 (s2.heap.objs.size :: fp)) [] (takes ix σ) H8 s8 ∧ tn (i + 1) s8.heap ∧ (∀ b ∈ s2.heap.objs.size :: fp, H8 b = none) ∧ s8.heap.get? s2.heap.objs.size = some { cls := .type "list", data := .seq its.toArray k } := by
          intro H8 s8 I8
          have hp : ∀ b ∈ s2.heap.objs.size :: fp, ∀ o, s5.heap.get? b = some o → s8.heap.get? b = some o ∧ H8 b = none := fun b hb o e =>
            let z := I8.pin (b, o) (List.mem_append_right _ (List.mem_append_right _ (mem_pinsAt hb e)))
            ⟨z.1, z.2.1⟩
          refine ⟨(I8.pins_of (pins' := []) fun p hp => nomatch hp).weak (by rw [l6]) (fun j v ej => ?_), T.keep _ _ _ st5 (fun b hb o e => (hp b (List.mem_cons_of_mem _ hb) o e).1), fun b hb => ?_, (hp _ List.mem_cons_self _ D5.1).1⟩
          · by_cases hj : j ∈ own
            · exfalso
              have e1 : (ix[j]?).map (fun o => o.bind fun j => (σ[j]?).join) = some (some v) := by rw [← List.getElem?_map]; exact ej
              rw [hown j hj] at e1
              cases e1
            · rw [k6 j hj]; exact ej
          · rcases List.mem_cons.mp hb with q | q
            · rw [q]; exact (hp _ List.mem_cons_self _ D5.1).2
            · obtain ⟨o, ho, _⟩ := T.obj _ _ st5 b q
              exact (hp b hb o ho).2
        cases ok with
        | false =>
          have q7' : Pv (i + 1) ys H7 := by simpa using q7
          obtain ⟨b1, b2, b3, b4⟩ := back I7
          exact wpAny_pure ⟨rfl, n - (i + 1), by omega, i + 1, ys, its, k, H7, rfl, hlt, Nat.le_succ_of_le hyl, b1, b2, b3, rv, b4, q7'⟩
        | true =>
          have q7' : te σ6 H7 fun y H6 => Pv (i + 1) (ys ++ [y]) H6 := by simpa using q7
          refine wpAny_bind (wpAny_bind (noxE (thn (he _ _ _ _ _ s7 σ6 H7 _ I7 q7') fun z s8 ⟨y, H8, I8, r8, q8⟩ => ?_)))
          obtain ⟨b1, b2, b3, b4⟩ := back I8
          have hsz : its.toArray.size ≤ sizeLine := by rw [List.size_toArray, ← rv.length]; omega
          refine wpAny_bind (append_at (hsz := hsz) b4 fun h9 hs9 hD9 => ?_)
          · refine wpAny_pure (wpAny_pure ⟨rfl, n - (i + 1), by omega, i + 1, ys ++ [y], its ++ [z], k + 1, H8, rfl, hlt, ?_, ?_, ?_, b3, ?_, ?_, q8⟩)
            · rw [List.length_append, List.length_singleton]; exact Nat.succ_le_succ hyl
            · have fd := fpB b3 rfl _ List.mem_cons_self
              exact b1.turned (t' := s8.toks) (fun b o hb e => hs9.extBut b o hb e) fd.1 fd.2.1 fd.2.2.2.1 fd.2.2.2.2.1 fd.2.2.2.2.2
            · exact T.keep _ _ _ b2 fun b hb o e => hs9.extBut b o (Nat.ne_of_lt (lfp b hb)) e
            · exact rv.append (.cons r8 .nil)
            · rw [hD9]; simp
    · have hieq : i = n := by omega
      subst hieq
      obtain ⟨stop, qf⟩ := fin ys H' pv
      refine noxE (thn (T.done (X.blk scope N' G2.objs.size s2 H2 (s2.heap.objs.size :: fp)) rfl rfl rfl hcalm i [(s2.heap.objs.size, ({ cls := .type "list", data := .seq its.toArray k } : Obj))] s' _ H' (fun _ _ => False) (I'.pins_of fun p hp => ?_) (fun b hb => ?_) st' stop) fun r s4 ⟨hr, I4⟩ => ?_)
      · obtain rfl := List.mem_singleton.mp hp
        refine ⟨hob, fr' _ List.mem_cons_self, Nat.ne_of_lt hDC, ?_, fun v z => ?_⟩
        · exact I3.ok.exfs _ List.mem_cons_self
        · have z' : Data.seq _ _ = Data.cell v := z
          cases z'
      · obtain ⟨f0, f1, f2', f3, f4, f5⟩ := fpT b hb
        refine ⟨f0, f1, f2', f3, f4, fun p hp => ?_⟩
        obtain rfl := List.mem_singleton.mp hp
        exact Nat.ne_of_gt (lfp b hb)
      · subst hr
        have D4 := I4.pin (s2.heap.objs.size, ({ cls := .type "list", data := .seq its.toArray k } : Obj)) (by simp [Cx.blk])
        refine wpAny_pure ?_
        exact hend s2 H2 fp _ _ s4 H' ys its k _ _ I2 (Nat.le_refl _) hDC f2 I4 D4.2.1 (Nat.le_trans hyl hn) rv D4.1 (qf _ D4.2.1)
  refine codeAny_compStart_list (loop _ rfl) (T.self X.A 0 _ _ _ st3 (loop _ rfl))
theorem pe_comp (hcalm : X.calm = true) (S : CompScope X scope N' ix) (hown : ∀ k ∈ own, ix[k]? = some none) (hi : PI X tg iter wi)
    (hg : ∀ C s₂ H₂ ex, PG (X.blk scope N' C s₂ H₂ ex) tg g) (hgo : TgOwn g own) (hc : ∀ C s₂ H₂ ex, PIfs (X.blk scope N' C s₂ H₂ ex) ifs tc) (he : ∀ C s₂ H₂ ex, PE (X.blk scope N' C s₂ H₂ ex) elt te)
    (hs : ∀ x, foldedSetIterable iter X.env x = pure x := by intro _; rfl) :
    PE X (.ListComp elt [⟨tg, iter, ifs, 0⟩] scope pos) (tComp wi ix g tc te) := by
  intro pins s σ H Q I h
  rw [eval_ListComp]
  refine comp_core (use := none) hcalm S hown hi hg hgo hc he hs I h (fun s2 H2 fp C D s4 H' ys its k pins' σ' I2 hD hDC f2 I4 hDn hl rv ho q => ?_) _
  obtain ⟨m4, hn4, _⟩ := id I4.loc
  exact ⟨m4, hn4, fun h' hs' => ⟨.ref D, upd H' D (.lst ys), blk_back I2 hD hDC f2 I4 hs' hDn hl rv ho, rfl, q⟩⟩
/-- x = [elt for ..]: the name is stored ahead of the block's end -/
theorem ps_comp {i : Nat} {y : Str} {py spos : Pos} (hN : X.N.Nodup) (hyi : X.N[i]? = some y) (hyl : Loc X.env.scope y) (hcalm : X.calm = true) (S : CompScope X scope N' ix) (hown : ∀ k ∈ own, ix[k]? = some none) (hi : PI X tg iter wi)
    (hg : ∀ C s₂ H₂ ex, PG (X.blk scope N' C s₂ H₂ ex) tg g) (hgo : TgOwn g own) (hc : ∀ C s₂ H₂ ex, PIfs (X.blk scope N' C s₂ H₂ ex) ifs tc) (he : ∀ C s₂ H₂ ex, PE (X.blk scope N' C s₂ H₂ ex) elt te)
    (hsw : swapsWith (.ListComp elt [⟨tg, iter, ifs, 0⟩] scope pos) (some (.Name y py)) spos.line X.env = pure true := by rfl)
    (hs : ∀ x, foldedSetIterable iter X.env x = pure x := by intro _; rfl) (hf : X.fn y = true ∨ X.env.scope.names.lookup y = some .local := by first | exact .inl rfl | exact .inr rfl | assumption) :
    PS X (.Assign [.Name y py] (.ListComp elt [⟨tg, iter, ifs, 0⟩] scope pos) spos) (tAsg (tComp wi ix g tc te) (gName i)) := by
  intro pins s σ H D0 I h
  rw [exec_Assign_Name_used _ _ _ _ hsw]
  refine wpAny_bind (wpAny_standAt (wpAny_bind ?_))
  show wpAny _ X.A (do let _ ← comprehension (.ListComp elt [⟨tg, iter, ifs, 0⟩] scope pos) scope X.env _ (newList []) false (eval iter X.env) (some (assign (.Name y py) X.env))) _ _ s
  refine wpAny_bind (wpAny_mono (comp_core (use := some (assign (.Name y py) X.env)) (QQ := fun _ s' => SP X pins D0 .next s') hcalm S hown hi hg hgo hc he hs I h (fun s2 H2 fp C D s4 H' ys its k pins' σ' I2 hD hDC f2 I4 hDn hl rv ho q => ?_) _) (fun _ s' hq => wpAny_pure (wpAny_pure hq)) fun _ _ e => e)
  have J4 : Inv X pins σ (upd H' D (.lst ys)) s4 := blk_back I2 hD hDC f2 I4 (Heap.SameBut.refl C s4.heap) hDn hl rv ho
  obtain ⟨m4, hn4, _⟩ := id I4.loc
  have hCs : s2.heap.objs.size ≤ C := Nat.le_of_lt (Nat.lt_of_le_of_lt hD hDC)
  have cL : C ≠ X.env.locals := Nat.ne_of_gt (Nat.lt_of_lt_of_le I2.lt hCs)
  have cC : ∀ x c, X.env.cells.lookup x = some c → c ≠ C := fun x c e => by
    obtain ⟨v, q⟩ := I2.cell x c e
    exact Nat.ne_of_lt (Nat.lt_of_lt_of_le q.lt hCs)
  have cH : upd H' D (.lst ys) C = none := by rw [upd_ne (Nat.ne_of_gt hDC)]; exact I4.free
  show wpAny _ X.A (assign (.Name y py) X.env (.ref D)) _ _ s4
  refine wpAny_assign_Name (store_ok2 (v := .ref D) J4 hN hyi hyl rfl (fun s5 I5 ⟨a, sb, ha⟩ => ?_) hf)
  have ca : C ≠ a := by
    rcases ha with z | z
    · rw [z]; exact cL
    · exact fun w => cC _ _ z w.symm
  refine ⟨m4, hn4.sameBut sb ca, fun h' hs' => ?_⟩
  refine ⟨σ.set i (some (.ref D)), upd H' D (.lst ys), ?_, q⟩
  exact I5.turned (t' := s5.toks) (fun b o hb e => hs'.extBut b o hb e) cH cL (.inr (Nat.le_trans I2.sz hCs)) cC (fun p hp z => by
    have := Heap.lt_size (I2.pin p hp).1
    rw [z] at this
    exact absurd (Nat.lt_of_lt_of_le this hCs) (Nat.lt_irrefl _))
end
end L2

namespace L2
open PySem PySem.Spec PyProof.Rows

/-! ### a walk of the library's as a loop's source -/
section
variable {P : Program} {w : World} {K : PySem.W.Frag} {tg : Expr}
/-- n items x i, the heap as it was -/
def Itv (n : Nat) (x : Nat → Option V) : It := ⟨fun i _ => i < n, fun i H v H' => H' = H ∧ x i = some v, fun i _ => n ≤ i⟩
theorem turn_walks {it : Addr} {n : Nat} {Pv : Nat → Value → Prop} {St : Nat → Heap → Prop} {x : Nat → Option V}
    (W : ∀ A : Around, A.handled = none → Walks P w A it [it] [it] n Pv St) (hx : ∀ i v, Pv i v → ∃ y, x i = some y ∧ RelV y v)
    (ho : ∀ i h, St i h → ∃ o vs nm, h.get? it = some o ∧ o.cls = .type nm ∧ o.data = .fields vs ∧ ["enumerate", "zip", "dict_itemiterator", "dict_reverseitemiterator", "odict_iterator", "itertools.zip_longest", "itertools.pairwise"].contains nm = false)
    (hs : ∀ (A : Around) (i : Nat) (s : Shared) (Q : Value → Shared → Prop) (E : Value → Shared → Prop), St i s.heap → Q (.ref it) s → wpAny (model P w) A (pyIter (.ref it)) Q E s) :
    Turn P w K tg (Itv n x) [it] it (fun i h => St i h ∧ i ≤ n) where
  mem := by simp
  obj := fun i h st b hb => by
    obtain rfl : b = it := by simpa using hb
    obtain ⟨o, vs, nm, e, _, d, _⟩ := ho i h st.1
    exact ⟨o, e, fun v z => by rw [d] at z; cases z⟩
  keep := fun i h h' st k => ⟨(W {} rfl).frame i h h' st.1 k, st.2⟩
  item := by
    intro X hP hw hK hc i pins s σ H E I hf st hg
    subst hP hw hK
    obtain ⟨f0, f1, f2, f3, f4, f5⟩ := hf it (by simp)
    refine (W X.A (I.ok.hd hc)).item i s _ _ hg st.1 fun v h' tk hv st' kk => ?_
    obtain ⟨y, e1, r1⟩ := hx i v hv
    have I1 : Inv X pins σ H { s with heap := h', toks := tk } := I.turned (fun b o hb e => kk b o (by simpa using hb) e) f0 f1 f3 f4 f5
    obtain ⟨o, vs, nm, e, c, d, hn⟩ := ho _ _ st'
    exact ⟨_, rfl, go_of (s := { s with heap := h', toks := tk }) e c d hn ⟨y, H, I1, r1, ⟨rfl, e1⟩, ⟨st', hg⟩, fun b hb => (hf b hb).1⟩⟩
  done := by
    intro X hP hw hK hc i pins s σ H E I hf st hg
    subst hP hw hK
    obtain ⟨f0, f1, f2, f3, f4, f5⟩ := hf it (by simp)
    have hi : i = n := Nat.le_antisymm st.2 hg
    subst hi
    exact (W X.A (I.ok.hd hc)).done s _ _ st.1 fun h' tk kk => ⟨rfl, I.turned (fun b o hb e => kk b o (by simpa using hb) e) f0 f1 f3 f4 f5⟩
  self := fun A i s Q E st h => hs A i s Q E st.1 h
end
/-- the i-th sign of a text -/
def signV (z : Str) (i : Nat) : Option V := (z.cps.toList[i]?).map fun c => V.str ⟨#[c]⟩
section
variable {X : Cx} {tg : Expr}
def iStr (tl : TE) : TI := fun σ H R => tl σ H fun x H1 => ∃ z, x = .str z ∧ R (Itv z.cps.size (signV z)) H1
theorem pi_str {l : Expr} {tl : TE} (hl : PE X l tl) : PI X tg l (iStr tl) := by
  intro pins s σ H R I h
  refine thn (hl pins s σ H _ I h) fun v s1 ⟨x, H1, I1, r1, q1⟩ => ?_
  obtain ⟨z, e, q⟩ := q1
  subst e
  obtain ⟨t, rfl⟩ := r1
  have hsx : ∀ i v, SignAt z i v → ∃ y, signV z i = some y ∧ RelV y v := by
    rintro i v ⟨c, u, hc, rfl⟩
    exact ⟨.str ⟨#[c]⟩, by unfold signV; simp [hc], u, rfl⟩
  have hn1 : ["enumerate", "zip", "dict_itemiterator", "dict_reverseitemiterator", "odict_iterator", "itertools.zip_longest", "itertools.pairwise"].contains "str_iterator" = false := by decide
  have hn2 : ["enumerate", "zip", "dict_itemiterator", "dict_reverseitemiterator", "odict_iterator", "itertools.zip_longest", "itertools.pairwise"].contains "str_ascii_iterator" = false := by decide
  cases ha : z.cps.all (· < 128)
  · refine wpAny_pyIter_wide ha ?_
    refine ⟨s1.heap.objs.size, [s1.heap.objs.size], _, _, H1, rfl, I1.kept (t' := s1.toks) fun b o e => Heap.get?_push_of_some _ e, turn_walks (fun A hA => Walks.strWide hA _ z t) hsx (fun i h ⟨o, e, c, d⟩ => ⟨o, _, _, e, c, d, hn1⟩) (fun A i s Q E st hq => wpAny_pyIter_striter_wide st hq), ⟨⟨_, Heap.get?_push_size _ rfl, rfl, rfl⟩, Nat.zero_le _⟩, fun b hb => ?_, q⟩
    have e : b = s1.heap.objs.size := by simpa using hb
    subst e
    exact I1.fpOk (Nat.le_refl _) (I1.hok.fresh (Nat.le_refl _))
  · refine wpAny_pyIter_ascii ha ?_
    refine ⟨s1.heap.objs.size, [s1.heap.objs.size], _, _, H1, rfl, I1.kept (t' := s1.toks) fun b o e => Heap.get?_push_of_some _ e, turn_walks (fun A hA => Walks.strAscii hA _ z t) hsx (fun i h ⟨o, e, c, d⟩ => ⟨o, _, _, e, c, d, hn2⟩) (fun A i s Q E st hq => wpAny_pyIter_striter_ascii st hq), ⟨⟨_, Heap.get?_push_size _ rfl, rfl, rfl⟩, Nat.zero_le _⟩, fun b hb => ?_, q⟩
    have e : b = s1.heap.objs.size := by simpa using hb
    subst e
    exact I1.fpOk (Nat.le_refl _) (I1.hok.fresh (Nat.le_refl _))

/-! ### all(list of bools), ''.join, isinstance -/
theorem range_allO (bs : List Bool) : ((List.range bs.length).all fun i => (bs[i]?).getD true) = bs.all id := by
  rw [Bool.eq_iff_iff, List.all_eq_true, List.all_eq_true]
  constructor
  · intro h b hb
    obtain ⟨i, hi, rfl⟩ := List.getElem_of_mem hb
    have := h i (List.mem_range.mpr hi)
    simpa [List.getElem?_eq_getElem hi] using this
  · intro h i hi
    have hi' := List.mem_range.mp hi
    simp only [List.getElem?_eq_getElem hi', Option.getD_some]
    exact h _ (List.getElem_mem hi')
theorem call_all (hc : X.calm = true) : CallR X (.builtin "all") (fun xs H Q => ∃ (a : Addr) (bs : List Bool), xs = [.ref a] ∧ SqL X.K H a (bs.map V.bl) ∧ Q (.bl (bs.all id)) H) := by
  intro pins s σ H xs us Q I r h
  obtain ⟨a, bs, rfl, ha, q⟩ := h
  obtain ⟨u, rfl, ru⟩ := vals1 r
  cases ru
  obtain ⟨its, rv, pl, hz⟩ := I.list ha
  have hl := pl.isList
  have hlt : a < s.heap.objs.size := by obtain ⟨_, e, _⟩ := hl; exact Heap.lt_size e
  have hlen : its.length = bs.length := by rw [← rv.length, List.length_map]
  refine call_all_walk (wpAny_pyIter_list hl ?_)
  refine ⟨s.heap.objs.size, [s.heap.objs.size, a], [s.heap.objs.size], its.toArray.size, _, _, fun i => (bs[i]?).getD true, rfl, Walks.list (A := X.A.in1) (I.ok.hd hc) _ a (Nat.ne_of_lt hlt) its.toArray,
    ⟨⟨_, Heap.get?_push_size _ rfl, rfl, rfl⟩, hl.push _⟩, fun i v s' Q' E' hP hQ => ?_, fun h' tk hk => ?_⟩
  · have hP' : its[i]? = some v := by simpa using hP
    have hi : i < its.length := (List.getElem?_eq_some_iff.mp hP').1
    have hb : (bs.map V.bl)[i]? = some (V.bl bs[i]) := by simp
    obtain ⟨u, hu, ru⟩ := rv.get hb
    rw [hP'] at hu; cases hu
    obtain rfl : v = Value.bool bs[i] := ru
    have hi' : i < bs.length := by omega
    have hQ' : Q' ((bs[i]?).getD true) s' := hQ
    rw [List.getElem?_eq_getElem hi', Option.getD_some] at hQ'
    exact wpAny_truthy_bool hQ'
  · have e : ((List.range its.toArray.size).all fun i => (bs[i]?).getD true) = bs.all id := by
      rw [List.size_toArray, hlen]; exact range_allO bs
    rw [e]
    exact ⟨.bl (bs.all id), H, I.kept (fun b x e => hk b x (fun hm => by rw [List.mem_singleton.mp hm] at e; exact Nat.lt_irrefl _ (Heap.lt_size e)) (Heap.get?_push_of_some _ e)), rfl, q⟩

theorem strsAre_of : ∀ {ys : List Str} {us : List Value}, Vals (ys.map V.str) us → StrsAre us ys
  | [], us, r => by
    have e := Vals.zero r
    subst e
    exact .nil
  | y :: ys, us, r => by
    cases r with
    | cons r1 r2 =>
      obtain ⟨t, rfl⟩ := r1
      exact .cons y t (strsAre_of r2)
def rJoin (K : PySem.W.Frag) : V → List V → Hp → VK → Prop := fun x vs H Q => ∃ (z : Str) (a : Addr) (ys : List Str), x = .str z ∧ vs = [.ref a] ∧ SqL K H a (ys.map V.str) ∧ (ys.map (·.length)).sum + ys.length * z.length ≤ 16777216 ∧ Q (.str (Txt.join z ys)) H
theorem mt_join : MtM X "str.join" (rJoin X.K) := by
  intro pins s σ H x vs v us Q I rx rv h
  obtain ⟨z, a, ys, rfl, rfl, ha, hok, q⟩ := h
  obtain ⟨t, rfl⟩ := rx
  obtain ⟨u, rfl, ru⟩ := rv.one
  cases ru
  obtain ⟨its, r, pl, hz⟩ := I.list ha
  exact join_list pl.isList (strsAre_of r) hok fun t' k => ⟨.str _, H, I.tok _, ⟨t', rfl⟩, q⟩

/-- the type of a value as isinstance sees it -/
def rIsi (K : PySem.W.Frag) (c : Value) (b : V → Hp → Bool → Prop) : List V → Hp → VK → Prop := fun xs H Q => ∃ x cv k, xs = [x, cv] ∧ RelV cv c ∧ b x H k ∧ Q (.bl k) H
/-- isinstance(x, c): the type that the heap tells, and what the table says of it -/
def isiV (K : PySem.W.Frag) (c : Value) : V → Hp → Bool → Prop := fun x H k => ∃ t, TyOf K H x t ∧ PySem.W.kitOne K t c = some k
theorem call_isi {c : Value} (hu : ∀ cv u, RelV cv c → RelV cv u → u = c) : CallR X (.builtin "isinstance") (rIsi X.K c (isiV X.K c)) := by
  intro pins s σ H xs us Q I r h
  obtain ⟨x, cv, k, rfl, rc, ⟨t, ty, e⟩, q⟩ := h
  obtain ⟨u, u2, rfl, ru, rc2⟩ := r.two
  obtain rfl := hu cv u2 rc rc2
  exact isinst_ok I ru ty e fun tk => ⟨.bl k, H, I.tok _, rfl, q⟩
theorem ty_one {n : String} : ∀ cv u, RelV cv (.type n) → RelV cv u → u = .type n := by
  intro cv u h1 h2
  cases cv with
  | ty m =>
    have e1 : Value.type n = Value.type m := h1
    have e2 : u = Value.type m := h2
    rw [e2, e1]
  | non => cases (show Value.type n = Value.none from h1)
  | bl b => cases (show Value.type n = Value.bool b from h1)
  | int i => obtain ⟨t, e⟩ := (show ∃ t, Value.type n = Value.int i t from h1); cases e
  | str x => obtain ⟨t, e⟩ := (show ∃ t, Value.type n = Value.str x t from h1); cases e
  | byt b => obtain ⟨t, e⟩ := (show ∃ t, Value.type n = Value.bytes b t from h1); cases e
  | flt b => obtain ⟨t, e⟩ := (show ∃ t, Value.type n = Value.float b t from h1); cases e
  | ref a => cases (show Value.type n = Value.ref a from h1)
theorem kit_ty {K : PySem.W.Frag} {t c : String} {b : Bool} (h : (if (Value.type t == Value.type c) = true then some true else if PySem.W.kitMeta c = true then (PySem.fastBuiltinMro t).map (·.contains (Value.type c)) else none) = some b) : PySem.W.kitOne K (.type t) (.type c) = some b := h
theorem kit_int_int {K : PySem.W.Frag} : PySem.W.kitOne K (.type "int") (.type "int") = some true := kit_ty (by decide +kernel)
theorem kit_bool_int {K : PySem.W.Frag} : PySem.W.kitOne K (.type "bool") (.type "int") = some true := kit_ty (by decide +kernel)
theorem kit_none_int {K : PySem.W.Frag} : PySem.W.kitOne K (.type "NoneType") (.type "int") = some false := kit_ty (by decide +kernel)
theorem kit_str_int {K : PySem.W.Frag} : PySem.W.kitOne K (.type "str") (.type "int") = some false := kit_ty (by decide +kernel)
theorem kit_list_int {K : PySem.W.Frag} : PySem.W.kitOne K (.type "list") (.type "int") = some false := kit_ty (by decide +kernel)
theorem kit_tuple_int {K : PySem.W.Frag} : PySem.W.kitOne K (.type "tuple") (.type "int") = some false := kit_ty (by decide +kernel)
theorem kit_int_bool {K : PySem.W.Frag} : PySem.W.kitOne K (.type "int") (.type "bool") = some false := kit_ty (by decide +kernel)
theorem kit_bool_bool {K : PySem.W.Frag} : PySem.W.kitOne K (.type "bool") (.type "bool") = some true := kit_ty (by decide +kernel)
theorem kit_none_str {K : PySem.W.Frag} : PySem.W.kitOne K (.type "NoneType") (.type "str") = some false := kit_ty (by decide +kernel)
theorem kit_bool_str {K : PySem.W.Frag} : PySem.W.kitOne K (.type "bool") (.type "str") = some false := kit_ty (by decide +kernel)
theorem kit_int_str {K : PySem.W.Frag} : PySem.W.kitOne K (.type "int") (.type "str") = some false := kit_ty (by decide +kernel)
theorem kit_str_str {K : PySem.W.Frag} : PySem.W.kitOne K (.type "str") (.type "str") = some true := kit_ty (by decide +kernel)
theorem kit_list_str {K : PySem.W.Frag} : PySem.W.kitOne K (.type "list") (.type "str") = some false := kit_ty (by decide +kernel)
theorem kit_tuple_str {K : PySem.W.Frag} : PySem.W.kitOne K (.type "tuple") (.type "str") = some false := kit_ty (by decide +kernel)
theorem kit_none_tuple {K : PySem.W.Frag} : PySem.W.kitOne K (.type "NoneType") (.type "tuple") = some false := kit_ty (by decide +kernel)
theorem kit_bool_tuple {K : PySem.W.Frag} : PySem.W.kitOne K (.type "bool") (.type "tuple") = some false := kit_ty (by decide +kernel)
theorem kit_int_tuple {K : PySem.W.Frag} : PySem.W.kitOne K (.type "int") (.type "tuple") = some false := kit_ty (by decide +kernel)
theorem kit_str_tuple {K : PySem.W.Frag} : PySem.W.kitOne K (.type "str") (.type "tuple") = some false := kit_ty (by decide +kernel)
theorem kit_list_tuple {K : PySem.W.Frag} : PySem.W.kitOne K (.type "list") (.type "tuple") = some false := kit_ty (by decide +kernel)
theorem kit_tuple_tuple {K : PySem.W.Frag} : PySem.W.kitOne K (.type "tuple") (.type "tuple") = some true := kit_ty (by decide +kernel)

/-! ### () + t is t -/
end
end L2

namespace L2
open PySem PySem.Spec PyProof.Rows

/-! ### a[::-1] -/
section
variable {prog : Program} {w : World} {A : Around} {E : Value → Shared → Prop} {s : Shared}
end
section
variable {X : Cx} {e st : Expr} {te : TE} {pos p2 p3 p4 : Pos}
def rRevL (K : PySem.W.Frag) : V → Hp → VK → Prop := fun x H Q => ∃ a xs, x = .ref a ∧ SqL K H a xs ∧ ∀ p, H p = none → Q (.ref p) (upd H p (.lst xs.reverse))
/-- a[::-1] of a list -/
theorem pe_revL {j : Nat} (he : PE X e te) : PE X (.Subscript e (.Slice none none (some (.UnaryOp .USub (.Constant (.int 1) j p3) p4)) p2) pos) (tUn (rRevL X.K) te) := by
  intro pins s σ H Q I h
  refine Subscript_ (thn (he pins s σ H _ I h) fun v s1 ⟨x, H1, I1, r1, q1⟩ => ?_)
  refine wpAny_Slice ?_
  rw [evalPart_none]
  refine wpAny_pure (wpAny_pure ?_)
  rw [evalPart_some]
  obtain ⟨a, xs, rfl, hx, q⟩ := q1
  cases r1
  refine UnaryOp_ (wpAny_Constant_int (neg_int ?_))
  have I2 : ∀ tk, Inv X pins σ H1 { s1 with toks := tk } := fun tk => I1.tok tk
  obtain ⟨its, r, pl, hz⟩ := I1.list hx
  have hlen : its.toArray.size = xs.length := by rw [List.size_toArray]; exact r.length.symm
  have I4 := fun (tk : Nat) (t : Tok) => (I2 tk).kept (h' := s1.heap.push { cls := .type "slice", data := .fields #[.none, .none, .int (-1) t] }) (t' := tk) fun b ob q => Heap.get?_push_of_some _ q
  refine tail_any (ops := [.ref a, .ref s1.heap.objs.size]) (T := "list") (pl.isList.push _).typeIs list_getitem_lookup (wpAny_getItem_list_slice (pl.isList.push _) (Heap.IsSliceOf.new ..) .none .none (.int (-1) _) (by decide) ?_ (by rw [hlen]; exact hz)) (by with_unfolding_all rfl)
  rw [PySem.W.krv_pick]
  refine ⟨.ref _, _, (I4 _ _).laid (t' := _) (o := .lst xs.reverse) (fun b ob q => Heap.get?_push_of_some _ q) (Nat.le_refl _) ?_, rfl, q _ (I1.hok.fresh (by show s1.heap.objs.size ≤ (s1.heap.push _).objs.size; rw [Heap.size_push]; exact Nat.le_succ _))⟩
  exact ⟨by rw [List.length_reverse]; exact hz, _, 0, r.reverse, Heap.get?_push_size _ rfl⟩
end
end L2

namespace L2
open PySem PySem.Spec PyProof.Rows

/-! ### data that stands in the heap -/
mutual
def Has (H : Hp) : V → PyData → Prop
  | v, .none => v = .non
  | v, .bool b => v = .bl b
  | v, .int i => v = .int i
  | v, .str x => v = .str x
  | v, .list ds => ∃ a xs, v = .ref a ∧ H a = some (.lst xs) ∧ HasL H xs ds
  | v, .tuple ds => ∃ a xs, v = .ref a ∧ H a = some (.tup xs) ∧ HasL H xs ds
  | _, .dict _ => False
def HasL (H : Hp) : List V → List PyData → Prop
  | xs, [] => xs = []
  | xs, d :: ds => ∃ x r, xs = x :: r ∧ Has H x d ∧ HasL H r ds
end
mutual
theorem Has.same {H H' : Hp} (e : Same H H') : ∀ {v : V} {d : PyData}, Has H v d → Has H' v d
  | v, .none, h => by unfold Has at h ⊢; exact h
  | v, .bool b, h => by unfold Has at h ⊢; exact h
  | v, .int i, h => by unfold Has at h ⊢; exact h
  | v, .str x, h => by unfold Has at h ⊢; exact h
  | v, .list ds, h => by
    unfold Has at h ⊢
    obtain ⟨a, xs, h1, h2, h3⟩ := h
    exact ⟨a, xs, h1, e _ _ h2, HasL.same e h3⟩
  | v, .tuple ds, h => by
    unfold Has at h ⊢
    obtain ⟨a, xs, h1, h2, h3⟩ := h
    exact ⟨a, xs, h1, e _ _ h2, HasL.same e h3⟩
  | v, .dict kvs, h => by unfold Has at h; exact h.elim
theorem HasL.same {H H' : Hp} (e : Same H H') : ∀ {xs : List V} {ds : List PyData}, HasL H xs ds → HasL H' xs ds
  | xs, [], h => by unfold HasL at h ⊢; exact h
  | xs, d :: ds, h => by
    unfold HasL at h ⊢
    obtain ⟨x, r, h1, h2, h3⟩ := h
    exact ⟨x, r, h1, Has.same e h2, HasL.same e h3⟩
end
theorem HasL.length {H : Hp} : ∀ {xs : List V} {ds : List PyData}, HasL H xs ds → xs.length = ds.length
  | xs, [], h => by unfold HasL at h; subst h; rfl
  | xs, d :: ds, h => by
    unfold HasL at h
    obtain ⟨x, r, rfl, h2, h3⟩ := h
    simp [HasL.length h3]
theorem HasL.get {H : Hp} : ∀ {xs : List V} {ds : List PyData} {i : Nat} {d : PyData}, HasL H xs ds → ds[i]? = some d → ∃ x, xs[i]? = some x ∧ Has H x d
  | xs, [], i, d, h, e => by simp at e
  | xs, d' :: ds, 0, d, h, e => by
    unfold HasL at h
    obtain ⟨x, r, rfl, h2, h3⟩ := h
    simp at e; subst e
    exact ⟨x, rfl, h2⟩
  | xs, d' :: ds, i + 1, d, h, e => by
    unfold HasL at h
    obtain ⟨x, r, rfl, h2, h3⟩ := h
    obtain ⟨y, h4, h5⟩ := HasL.get (i := i) h3 (by simpa using e)
    exact ⟨y, by simpa using h4, h5⟩
theorem HasL.append {H : Hp} : ∀ {xs ys : List V} {ds es : List PyData}, HasL H xs ds → HasL H ys es → HasL H (xs ++ ys) (ds ++ es)
  | xs, ys, [], es, h, h' => by unfold HasL at h; subst h; simpa using h'
  | xs, ys, d :: ds, es, h, h' => by
    unfold HasL at h
    obtain ⟨x, r, rfl, h2, h3⟩ := h
    show HasL H (x :: (r ++ ys)) (d :: (ds ++ es))
    unfold HasL
    exact ⟨x, r ++ ys, rfl, h2, HasL.append h3 h'⟩
theorem hasL_nil {H : Hp} : HasL H [] [] := by unfold HasL; rfl
theorem hasL_cons {H : Hp} {x : V} {xs : List V} {d : PyData} {ds : List PyData} (h : Has H x d) (t : HasL H xs ds) : HasL H (x :: xs) (d :: ds) := by unfold HasL; exact ⟨x, xs, rfl, h, t⟩
theorem has_none {H : Hp} : Has H .non .none := by unfold Has; rfl
theorem has_bool {H : Hp} (b : Bool) : Has H (.bl b) (.bool b) := by unfold Has; rfl
theorem has_int {H : Hp} (i : Int) : Has H (.int i) (.int i) := by unfold Has; rfl
theorem has_str {H : Hp} (x : Str) : Has H (.str x) (.str x) := by unfold Has; rfl
theorem has_lst {H : Hp} {a : Addr} {xs : List V} {ds : List PyData} (h : H a = some (.lst xs)) (t : HasL H xs ds) : Has H (.ref a) (.list ds) := by unfold Has; exact ⟨a, xs, rfl, h, t⟩
theorem has_tup {H : Hp} {a : Addr} {xs : List V} {ds : List PyData} (h : H a = some (.tup xs)) (t : HasL H xs ds) : Has H (.ref a) (.tuple ds) := by unfold Has; exact ⟨a, xs, rfl, h, t⟩

section
variable {X : Cx} {pins : List (Addr × Obj)} {σ : St} {H : Hp} {s : Shared}
mutual
theorem has_reads (I : Inv X pins σ H s) : ∀ {v : V} {d : PyData} {u : Value}, Has H v d → RelV v u → ∃ as, Reads s.heap u d as
  | v, .none, u, h, r => by unfold Has at h; subst h; cases (show u = Value.none from r); exact ⟨_, .none⟩
  | v, .bool b, u, h, r => by unfold Has at h; subst h; cases (show u = Value.bool b from r); exact ⟨_, .bool b⟩
  | v, .int i, u, h, r => by unfold Has at h; subst h; obtain ⟨t, rfl⟩ := r; exact ⟨_, .int i t⟩
  | v, .str x, u, h, r => by unfold Has at h; subst h; obtain ⟨t, rfl⟩ := r; exact ⟨_, .str x t⟩
  | v, .list ds, u, h, r => by
    unfold Has at h
    obtain ⟨a, xs, rfl, h2, h3⟩ := h
    cases (show u = Value.ref a from r)
    obtain ⟨z, its, n, rv, e⟩ := (show ObjOk X.prog X.w H s.heap a (.lst xs) from I.hok a _ h2)
    obtain ⟨as, ra⟩ := hasL_reads I h3 rv
    exact ⟨_, .list e rfl rfl (by simpa using ra)⟩
  | v, .tuple ds, u, h, r => by
    unfold Has at h
    obtain ⟨a, xs, rfl, h2, h3⟩ := h
    cases (show u = Value.ref a from r)
    obtain ⟨z, its, rv, p⟩ := (show ObjOk X.prog X.w H s.heap a (.tup xs) from I.hok a _ h2)
    obtain ⟨o, e, c, n, d⟩ := p
    obtain ⟨as, ra⟩ := hasL_reads I h3 rv
    exact ⟨_, .tuple e c d (by simpa using ra)⟩
  | v, .dict kvs, u, h, r => by unfold Has at h; exact h.elim
theorem hasL_reads (I : Inv X pins σ H s) : ∀ {xs : List V} {ds : List PyData} {us : List Value}, HasL H xs ds → Vals xs us → ∃ as, ReadsAll s.heap us ds as
  | xs, [], us, h, r => by
    unfold HasL at h
    subst h
    cases Vals.zero r
    exact ⟨_, .nil⟩
  | xs, d :: ds, us, h, r => by
    unfold HasL at h
    obtain ⟨x, rr, rfl, h2, h3⟩ := h
    cases r with
    | cons r1 r2 =>
      obtain ⟨as, a1⟩ := has_reads I h2 r1
      obtain ⟨bs, a2⟩ := hasL_reads I h3 r2
      exact ⟨_, .cons a1 a2⟩
end
/-- == and != of data -/
def rEqD : R2 := fun x y H Q => ∃ d e, Has H x d ∧ Has H y e ∧ SeqAt.shaped d = true ∧ SeqAt.shaped e = true ∧ Q (.bl (PyData.eqv d e)) H
def rNeD : R2 := fun x y H Q => ∃ d e, Has H x d ∧ Has H y e ∧ SeqAt.shaped d = true ∧ SeqAt.shaped e = true ∧ Q (.bl (!PyData.eqv d e)) H
theorem op_eqD (hu : X.A.units + 64 < cLine) : OpR X (compareOp .Eq) rEqD := by
  rintro pins s σ H x y v u Q I rx ry ⟨d, e, h1, h2, s1, s2, q⟩
  obtain ⟨as, r1⟩ := has_reads I h1 rx
  obtain ⟨bs, r2⟩ := has_reads I h2 ry
  exact eq_dataH r1 r2 s1 s2 hu ⟨.bl _, H, I, rfl, q⟩
theorem op_neD (hu : X.A.units + 64 < cLine) : OpR X (compareOp .NotEq) rNeD := by
  rintro pins s σ H x y v u Q I rx ry ⟨d, e, h1, h2, s1, s2, q⟩
  obtain ⟨as, r1⟩ := has_reads I h1 rx
  obtain ⟨bs, r2⟩ := has_reads I h2 ry
  exact ne_dataH r1 r2 s1 s2 hu ⟨.bl _, H, I, rfl, q⟩
end

/-! ### a def that is called by its name -/
structure Callee (P : Program) (w : World) (K : PySem.W.Frag) (mg : Str → Option Value) (base : Heap) (k : Nat) (x : Str) (ps : List Str) (sp : Sp) : Prop where
  ex : ∃ f fd, FnOk P w K mg base CX0 k f fd ps sp ∧ mg x = some (.ref f) ∧ PySem.W.keepIn K (.ref f) = true ∧ Binds K fd ps []
section
variable {X : Cx} {k : Nat} {x : Str} {ps : List Str} {sp : Sp} {e : Expr} {es : List Expr} {t : TA} {p pos : Pos}
theorem pe_fn (C : Callee X.prog X.w X.K X.mg X.base k x ps sp) (hr : Room k X.A) (ha : PA X (e :: es) t) (hg : Gl X x := by rfl) (hdb : (x == ("__debug__" : Str)) = false := by decide)
    (he : starEach (e :: es) X.env = (false, eval e X.env) :: starEach es X.env := by rfl) (hpl : (backTo pos (starEach es X.env)).any (·.1) = false := by rfl) :
    PE X (.Call (.Name x p) (e :: es) [] pos) (tCall sp [] E0 t) := by
  obtain ⟨f, fd, F, hm, hk, hb⟩ := C.ex
  exact pe_call F hr hg hm hk hb .nil pass0 ha hdb he hpl
end

/-! ### the scope of a comprehension, by a look -/
def visB (o : Option NameKind) : Bool := o == some .local || o == some .cell || o == some .free
def compOk (osc : Scope) (ON : List Str) (scope : Scope) (N' : List Str) (ix : List (Option Nat)) : Bool :=
  scope.kind == .function && scope.names.all (fun y => y.2 != .cell) && scope.names.all (fun y => y.2 != .local || scope.names.lookup y.1 == some .local) &&
  scope.names.all (fun y => y.2 != .free || (osc.names.lookup y.1 == some .cell || osc.names.lookup y.1 == some .free)) &&
  scope.names.all (fun y => y.2 != .local || !(scope.names.any fun z => z.1 == y.1 && z.2 == .free)) && ix.length == N'.length &&
  (List.range ix.length).all fun i => match ix[i]? with
    | some (some j) => ON[j]? == N'[i]? && (match N'[i]? with | some x => (scope.names.any fun z => z.1 == x && z.2 == .free) && visB (osc.names.lookup x) | none => true)
    | _ => true
theorem cs_of {X : Cx} {osc : Scope} {ON : List Str} {scope : Scope} {N' : List Str} {ix : List (Option Nat)} (h1 : X.env.scope = osc) (h2 : X.N = ON) (h : compOk osc ON scope N' ix = true) : CompScope X scope N' ix := by
  unfold compOk at h
  simp only [Bool.and_eq_true] at h
  obtain ⟨⟨⟨⟨⟨⟨a1, a2⟩, a3⟩, a4⟩, a5⟩, a6⟩, a7⟩ := h
  rw [List.all_eq_true] at a2 a3 a4 a5 a7
  refine ⟨eq_of_beq a1, fun y hy => by simpa using a2 y hy, fun y hy hl => ?_, fun y hy hl => ?_, fun x h3 h4 => ?_, eq_of_beq a6, fun i j hij => ?_⟩
  · have := a3 y hy
    rw [hl] at this
    simpa using this
  · have := a4 y hy
    rw [hl] at this
    have e : X.env.kindOf y.1 = osc.names.lookup y.1 := by rw [← h1]; rfl
    rw [e]
    simpa using this
  · have := a5 _ h3
    simp only [bne_self_eq_false, Bool.false_or, Bool.not_eq_true'] at this
    rw [List.any_eq_false] at this
    have z := this _ h4
    simp at z
  · have hi : i < ix.length := (List.getElem?_eq_some_iff.mp hij).1
    have := a7 i (List.mem_range.mpr hi)
    rw [hij] at this
    simp only [Bool.and_eq_true] at this
    obtain ⟨b1, b2⟩ := this
    refine ⟨by rw [h2]; exact eq_of_beq b1, fun x hx => ?_⟩
    rw [hx] at b2
    simp only [Bool.and_eq_true] at b2
    obtain ⟨c1, c2⟩ := b2
    obtain ⟨z, hz, hz2⟩ := List.any_eq_true.mp c1
    simp only [Bool.and_eq_true, beq_iff_eq] at hz2
    obtain ⟨z1, z2⟩ := z
    obtain ⟨rfl, rfl⟩ := hz2
    refine ⟨hz, ?_⟩
    unfold visB at c2
    simp only [Bool.or_eq_true, beq_iff_eq] at c2
    unfold Vis
    rw [h1]
    rcases c2 with (c2 | c2) | c2
    · exact .inl c2
    · exact .inr (.inl c2)
    · exact .inr (.inr c2)

theorem pe_gl {X : Cx} {x : Str} {v : V} {pos : Pos} (h : ∃ u, X.mg x = some u ∧ RelV v u) (hg : Gl X x := by rfl) (hd : (x == ("__debug__" : Str)) = false := by decide) : PE X (.Name x pos) (tC v) :=
  let ⟨_, h1, h2⟩ := h
  pe_glob hg h1 h2 hd
/-! ### isinstance of data -/
def isiInt : PyData → Bool
  | .int _ => true
  | .bool _ => true
  | _ => false
def isiBool : PyData → Bool
  | .bool _ => true
  | _ => false
def isiStr : PyData → Bool
  | .str _ => true
  | _ => false
def isiTup : PyData → Bool
  | .tuple _ => true
  | _ => false
theorem has_ty {K : PySem.W.Frag} {H : Hp} : ∀ {v : V} {d : PyData}, Has H v d → TyOf K H v (match d with
    | .none => .type "NoneType" | .bool _ => .type "bool" | .int _ => .type "int" | .str _ => .type "str" | .list _ => .type "list" | .tuple _ => .type "tuple" | .dict _ => .type "dict")
  | v, .none, h => by unfold Has at h; subst h; exact .non
  | v, .bool b, h => by unfold Has at h; subst h; exact .bl b
  | v, .int i, h => by unfold Has at h; subst h; exact .int i
  | v, .str x, h => by unfold Has at h; subst h; exact .str x
  | v, .list ds, h => by unfold Has at h; obtain ⟨a, xs, rfl, e, _⟩ := h; exact .lst e
  | v, .tuple ds, h => by unfold Has at h; obtain ⟨a, xs, rfl, e, _⟩ := h; exact .tup e
  | v, .dict _, h => by unfold Has at h; exact h.elim
theorem has_isiInt {K : PySem.W.Frag} {H : Hp} {v : V} {d : PyData} (h : Has H v d) : isiV K (.type "int") v H (isiInt d) := by
  refine ⟨_, has_ty h, ?_⟩
  cases d with
  | none => exact kit_none_int
  | bool _ => exact kit_bool_int
  | int _ => exact kit_int_int
  | str _ => exact kit_str_int
  | list _ => exact kit_list_int
  | tuple _ => exact kit_tuple_int
  | dict _ => unfold Has at h; exact h.elim
theorem kit_str_bool {K : PySem.W.Frag} : PySem.W.kitOne K (.type "str") (.type "bool") = some false := kit_ty (by decide +kernel)
theorem kit_none_bool {K : PySem.W.Frag} : PySem.W.kitOne K (.type "NoneType") (.type "bool") = some false := kit_ty (by decide +kernel)
theorem kit_list_bool {K : PySem.W.Frag} : PySem.W.kitOne K (.type "list") (.type "bool") = some false := kit_ty (by decide +kernel)
theorem kit_tuple_bool {K : PySem.W.Frag} : PySem.W.kitOne K (.type "tuple") (.type "bool") = some false := kit_ty (by decide +kernel)
theorem has_isiBool {K : PySem.W.Frag} {H : Hp} {v : V} {d : PyData} (h : Has H v d) : isiV K (.type "bool") v H (isiBool d) := by
  refine ⟨_, has_ty h, ?_⟩
  cases d with
  | none => exact kit_none_bool
  | bool _ => exact kit_bool_bool
  | int _ => exact kit_int_bool
  | str _ => exact kit_str_bool
  | list _ => exact kit_list_bool
  | tuple _ => exact kit_tuple_bool
  | dict _ => unfold Has at h; exact h.elim
theorem has_isiStr {K : PySem.W.Frag} {H : Hp} {v : V} {d : PyData} (h : Has H v d) : isiV K (.type "str") v H (isiStr d) := by
  refine ⟨_, has_ty h, ?_⟩
  cases d with
  | none => exact kit_none_str
  | bool _ => exact kit_bool_str
  | int _ => exact kit_int_str
  | str _ => exact kit_str_str
  | list _ => exact kit_list_str
  | tuple _ => exact kit_tuple_str
  | dict _ => unfold Has at h; exact h.elim
theorem has_isiTup {K : PySem.W.Frag} {H : Hp} {v : V} {d : PyData} (h : Has H v d) : isiV K (.type "tuple") v H (isiTup d) := by
  refine ⟨_, has_ty h, ?_⟩
  cases d with
  | none => exact kit_none_tuple
  | bool _ => exact kit_bool_tuple
  | int _ => exact kit_int_tuple
  | str _ => exact kit_str_tuple
  | list _ => exact kit_list_tuple
  | tuple _ => exact kit_tuple_tuple
  | dict _ => unfold Has at h; exact h.elim
/-! ### heaps that grow -/
theorem Same.new {H : Hp} {p : Addr} {o : HO} (h : H p = none) : Same H (upd H p o) := fun b u e => by rw [upd_ne (ne_of_none e h)]; exact e
theorem Same.tup {K : PySem.W.Frag} {H H' : Hp} (e : Same H H') {a : Addr} {xs : List V} (h : SqT K H a xs) : SqT K H' a xs := by
  rcases h with (h | ⟨o, h⟩) | h
  · exact .inl (.inl (e _ _ h))
  · exact .inl (.inr ⟨o, e _ _ h⟩)
  · exact .inr h
theorem SqT.ofT {K : PySem.W.Frag} {H : Hp} {a : Addr} {xs : List V} (h : H a = some (.tup xs)) : SqT K H a xs := .inl (.inl h)
theorem SqL.ofL {K : PySem.W.Frag} {H : Hp} {a : Addr} {xs : List V} (h : H a = some (.lst xs)) : SqL K H a xs := .inl (.inl h)
theorem rd_yes {σ : St} {H : Hp} {Q : Bool → Hp → Prop} (h : Q true H) : tYes σ H Q := h
theorem rd_name {i : Nat} {v : V} {σ : St} {H : Hp} {Q : St → Hp → Prop} (h : Q (σ.set i (some v)) H) : gName i v σ H Q := h
end L2
namespace L2
open PySem PySem.Spec PyProof.Rows
section
variable {X : Cx}
/-- xs == [], xs != [] -/
def rEq0 (K : PySem.W.Frag) : R2 := fun x y H Q => ∃ a b xs, x = .ref a ∧ y = .ref b ∧ SqL K H a xs ∧ SqL K H b [] ∧ Q (.bl xs.isEmpty) H
def rNe0 (K : PySem.W.Frag) : R2 := fun x y H Q => ∃ a b xs, x = .ref a ∧ y = .ref b ∧ SqL K H a xs ∧ SqL K H b [] ∧ Q (.bl (!xs.isEmpty)) H
theorem op_eq0 (hu : X.A.units < cLine) : OpR X (compareOp .Eq) (rEq0 X.K) := by
  rintro pins s σ H x y v u Q I rx ry ⟨a, b, xs, rfl, rfl, ha, hb, q⟩
  cases rx; cases ry
  obtain ⟨its, r1, p1, _⟩ := I.list ha
  obtain ⟨its2, r2, p2, _⟩ := I.list hb
  cases Vals.zero r2
  by_cases h : xs = []
  · subst h
    cases Vals.zero r1
    exact SeqAt.RcAt.lists (e := fun _ => true) p1.isList p2.isList rfl hu (fun j h1 _ => absurd h1 (by simp)) _ _ _ _ ⟨.bl true, H, I, rfl, q⟩
  · have e : xs.isEmpty = false := by simpa using h
    rw [e] at q
    have hl := r1.length
    refine SeqAt.RcAt.lists_lengths p1.isList p2.isList ?_ hu _ _ _ _ ⟨.bl false, H, I, rfl, q⟩
    have : xs.length ≠ 0 := fun z => h (List.length_eq_zero_iff.mp z)
    simp; intro z; subst z; simp at hl; exact this (by simpa using hl)
theorem op_ne0 (hu : X.A.units < cLine) : OpR X (compareOp .NotEq) (rNe0 X.K) := by
  rintro pins s σ H x y v u Q I rx ry ⟨a, b, xs, rfl, rfl, ha, hb, q⟩
  cases rx; cases ry
  obtain ⟨its, r1, p1, _⟩ := I.list ha
  obtain ⟨its2, r2, p2, _⟩ := I.list hb
  cases Vals.zero r2
  by_cases h : xs = []
  · subst h
    cases Vals.zero r1
    exact SeqAt.RcNeAt.lists (e := fun _ => true) p1.isList p2.isList rfl hu (fun j h1 _ => absurd h1 (by simp)) _ _ _ _ ⟨.bl false, H, I, rfl, q⟩
  · have e : xs.isEmpty = false := by simpa using h
    rw [e] at q
    have hl := r1.length
    refine SeqAt.RcNeAt.lists_lengths p1.isList p2.isList ?_ hu _ _ _ _ ⟨.bl true, H, I, rfl, q⟩
    have : xs.length ≠ 0 := fun z => h (List.length_eq_zero_iff.mp z)
    simp; intro z; subst z; simp at hl; exact this (by simpa using hl)
end
end L2
namespace L2
open PySem PySem.Spec PyProof.Rows
section
variable {X : Cx}
end
end L2
namespace L2
end L2

namespace L2
open PySem PySem.Spec PyProof.Rows
/-! ### argument lists whose looks are cheap -/
def plainE : Expr → Bool
  | .Starred _ _ => false
  | _ => true
theorem star_of {e : Expr} {es : List Expr} {env : Env} (h : plainE e = true) : starEach (e :: es) env = (false, eval e env) :: starEach es env := by
  cases e <;> first | rfl | (exact absurd (show false = true from h) Bool.false_ne_true)
structure PAs (X : Cx) (es : List Expr) (t : TA) : Prop where
  pa : PA X es t
  st : ∀ env, starEach es env = es.map fun e => (false, eval e env)
section
variable {X : Cx} {e : Expr} {es : List Expr} {te : TE} {t : TA} {pos p : Pos} {x : Str} {k : Nat} {ps : List Str} {sp : Sp} {id T : String} {r : List V → Hp → VK → Prop}
theorem as_nil : PAs X [] tNil := ⟨pa_nil, fun _ => rfl⟩
theorem as_cons (ha : PE X e te) (hr : PAs X es t) (hp : plainE e = true := by rfl) : PAs X (e :: es) (tCons te t) :=
  ⟨pa_cons ha hr.pa (star_of hp), fun env => by rw [star_of hp, hr.st]; rfl⟩
theorem back_any (pos : Pos) (env : Env) : ∀ es : List Expr, (backTo pos (es.map fun e => (false, eval e env))).any (·.1) = false
  | [] => rfl
  | e :: es => by
    show (false || (backTo pos (es.map fun e => (false, eval e env))).any (·.1)) = false
    rw [back_any pos env es]; rfl
theorem PAs.he (h : PAs X (e :: es) t) (ht : ∀ env, starEach es env = es.map fun e => (false, eval e env)) : starEach (e :: es) X.env = (false, eval e X.env) :: starEach es X.env := by
  rw [h.st, ht]; rfl
/-- the tail is plain as well -/
structure PAt (X : Cx) (e : Expr) (es : List Expr) (t : TA) : Prop where
  all : PAs X (e :: es) t
  tl : ∀ env, starEach es env = es.map fun e => (false, eval e env)
theorem at_cons (ha : PE X e te) (hr : PAs X es t) (hp : plainE e = true := by rfl) : PAt X e es (tCons te t) := ⟨as_cons ha hr hp, hr.st⟩
theorem as_lst (h : PAs X es t) : PE X (.List es pos) (tLst t) := pe_lst h.pa
theorem as_tup {x1} (h : PAs X es t) : PE X (.Tuple es x1 pos) (tTup t) := pe_tup h.pa
theorem as_fn (C : Callee X.prog X.w X.K X.mg X.base k x ps sp) (hr : Room k X.A) (ha : PAt X e es t) (hg : Gl X x := by rfl) (hdb : (x == ("__debug__" : Str)) = false := by decide) :
    PE X (.Call (.Name x p) (e :: es) [] pos) (tCall sp [] E0 t) := pe_fn C hr ha.all.pa hg hdb (ha.all.he ha.tl) (by rw [ha.tl]; exact back_any _ _ _)
theorem as_callB (hc : CallR X (.builtin id) r) (hg : Gl X x) (hm : X.mg x = none) (hv : bootBuiltins x = some (.builtin id)) (ha : PAt X e es t) (hn : x ≠ "__name__" := by decide) (hdb : (x == ("__debug__" : Str)) = false := by decide) :
    PE X (.Call (.Name x p) (e :: es) [] pos) (tCB r t) := pe_callB hc hg hm hv ha.all.pa hn hdb (ha.all.he ha.tl) (by rw [ha.tl]; exact back_any _ _ _)
theorem as_callTy (hc : CallR X (.type T) r) (hg : Gl X x) (hm : X.mg x = none) (hv : bootBuiltins x = some (.type T)) (ha : PAt X e es t) (hn : x ≠ "__name__" := by decide) (hdb : (x == ("__debug__" : Str)) = false := by decide) :
    PE X (.Call (.Name x p) (e :: es) [] pos) (tCB r t) := pe_callTy hc hg hm hv ha.all.pa hn hdb (ha.all.he ha.tl) (by rw [ha.tl]; exact back_any _ _ _)
end

/-! ### the rules with the written part named (a block's own context is not to be in a reading) -/
section
variable {X : Cx} {e a : Expr} {te : TE} {tg : Expr} (K : PySem.W.Frag)
theorem k_sl_list (h : X.K = K := by rfl) : SlR X (rSlL K) := h ▸ sl_list
theorem k_ix_list (h : X.K = K := by rfl) : IxR X (rIxL K) := h ▸ ix_list
theorem k_ix_tup (h : X.K = K := by rfl) : IxR X (rIxT K) := h ▸ ix_tup
theorem k_len_seq (h : X.K = K := by rfl) : CallR X (.builtin "len") (fun xs H Q => ∃ p ys, xs = [.ref p] ∧ (SqL K H p ys ∨ SqT K H p ys) ∧ Q (.int ys.length) H) := h ▸ call_len_seq
theorem k_list_of (h : X.K = K := by rfl) : CallR X (.type "list") (fun xs H Q => ∃ p ys, xs = [.ref p] ∧ (SqL K H p ys ∨ SqT K H p ys) ∧ ∀ l, H l = none → Q (.ref l) (upd H l (.lst ys))) := h ▸ call_list_of
theorem k_join (h : X.K = K := by rfl) : MtM X "str.join" (rJoin K) := h ▸ mt_join
theorem k_isi {c : Value} (hu : ∀ cv u, RelV cv c → RelV cv u → u = c) (h : X.K = K := by rfl) : CallR X (.builtin "isinstance") (rIsi K c (isiV K c)) := h ▸ call_isi hu
theorem k_eq0 (hu : X.A.units < cLine) (h : X.K = K := by rfl) : OpR X (compareOp .Eq) (rEq0 K) := h ▸ op_eq0 hu
theorem k_ne0 (hu : X.A.units < cLine) (h : X.K = K := by rfl) : OpR X (compareOp .NotEq) (rNe0 K) := h ▸ op_ne0 hu
theorem k_all (hc : X.calm = true) (h : X.K = K := by rfl) : CallR X (.builtin "all") (fun xs H Q => ∃ (a : Addr) (bs : List Bool), xs = [.ref a] ∧ SqL K H a (bs.map V.bl) ∧ Q (.bl (bs.all id)) H) := h ▸ call_all hc
theorem k_revL {j : Nat} {p2 p3 p4 pos : Pos} (he : PE X e te) (h : X.K = K := by rfl) : PE X (.Subscript e (.Slice none none (some (.UnaryOp .USub (.Constant (.int 1) j p3) p4)) p2) pos) (tUn (rRevL K) te) := h ▸ pe_revL he
theorem k_it_list (he : PE X e te) (h : X.K = K := by rfl) : PI X tg e (iList K te) := h ▸ pi_list he
theorem k_fld {f : Str} {pos : Pos} (he : PE X e te) (hb : attributeBase e f X.env (eval e X.env) = eval e X.env) (h : X.K = K := by rfl) : PE X (.Attribute e f pos) (tFld K te f) := h ▸ pe_fld he hb
theorem k_tup {es : List Expr} {k : Nat} {t : TGs} {n : Nat} {pos : Pos} (hc : X.calm = true) (hs : PGs X es t) (h : X.K = K := by rfl)
    (hn : (assignEach es X.env).length = n := by rfl) (hst : (assignEach es X.env).findIdx? (·.1) = none := by rfl) : PG X (.Tuple es k pos) (gTup K n t) := h ▸ pg_tup hc hs hn hst
theorem k_bm {o : Expr} {es : List Expr} {to : TE} {t : TA} {name : Str} {apos cpos : Pos} {T id : String} {r : V → List V → Hp → VK → Prop} (pa : PlainAttrs T) (slot : Slot T name id) (hty : typeOf (.builtin id) = pure (.type "method_descriptor")) (hm : MtR X id r) (ho : PE X o to) (ha : PA X (e :: es) t) (h : X.K = K := by rfl)
    (hbase : attributeBase o name X.env (eval o X.env) = eval o X.env := by rfl)
    (hfew : ((backTo cpos (starEach (e :: es) X.env)).all (fun x => !x.1) && (backToKw cpos (keywordEach [] X.env)).all (fun x => x.1.isSome)
      && decide ((e :: es).length + ([] : List Keyword).length + (if ([] : List Keyword).isEmpty then 0 else 1) < 30)) = true := by rfl)
    (hline : (apos.endLine == cpos.line) = true := by rfl) (hs : starEach (e :: es) X.env = (false, eval e X.env) :: starEach es X.env := by rfl) (hplain : (backTo cpos (starEach es X.env)).any (·.1) = false := by rfl) :
    PE X (.Call (.Attribute o name apos) (e :: es) [] cpos) (tBM K T r to t) := h ▸ pe_bm pa slot hty hm ho ha hbase hfew hline hs hplain
end
end L2

namespace L2
open PySem PySem.Spec PyProof.Rows
section
variable {X : Cx} {pins : List (Addr × Obj)} {σ : St} {H : Hp} {s : Shared}
/-- an object of ours that was not tracked is tracked from here on -/
theorem Inv.track {D : Addr} {o : HO} (I : Inv X pins σ H s) (f : FpOk X pins H D) (ok : ObjOk X.prog X.w (upd H D o) s.heap D o) : Inv X pins σ (upd H D o) s := by
  obtain ⟨f0, f1, f2, f3, f4, f5⟩ := f
  have nt : ∀ b u, H b = some u → b ≠ D := fun b u e => ne_of_none e f0
  have r := I.step (H' := upd H D o) (h' := s.heap) (g' := s.gens) (d' := s.drawn) (t' := s.toks) (ch := [D]) (fun b hb => by
      obtain rfl : b = D := by simpa using hb
      exact ⟨f3, f1, f4, f5⟩) (fun b ob _ _ _ e _ => e) (fun b ob _ _ _ e _ => ⟨ob.slots, e⟩)
    (fun b ob hb _ n => by rw [upd_ne (fun z => hb (by simp [z]))]; exact n) (fun b ob _ e => ⟨ob, e⟩) (fun b xs e => by rw [upd_ne (nt b _ e)]; exact e) (fun b ob u e => by rw [upd_ne (nt b _ e)]; exact e)
    (fun b ps e => ⟨#[], by rw [upd_ne (nt b _ e), e]; simp⟩) (fun m hm => hm) (fun b u e => by
      by_cases hb : b = D
      · subst hb; rw [upd_same] at e; cases e; exact ok
      · rw [upd_ne hb] at e
        exact (I.hok b u e).stay (fun c v _ q => q) (fun c q => by rw [upd_ne (nt c _ q)]; exact q) fun c xs q => by rw [upd_ne (nt c _ q)]; exact q) I.bare
  exact r
end

section
variable {X : Cx} {pins : List (Addr × Obj)} {σ : St} {H : Hp} {s : Shared} {A : Around} {E : Value → Shared → Prop} {a kS : Addr} {vs : List Value} {kz : List Int} {keys : Array Value} {e e1 : Nat} {P : PySem.Fin → Shared → Prop}
end
end L2

namespace L2
open PySem PySem.Spec PyProof.Rows
section
variable {X : Cx}
end

/-! ### sorted(x, key=number_of), of messages -/
/-- what an item of a tuple of three is, asked of a def -/
def spItem (i : Nat) : Sp := fun vs H Q _ => ∃ a x y z, vs = [.ref a] ∧ H a = some (.tup [x, y, z]) ∧ Q ([x, y, z].getD i .non) H
theorem Vals.back : ∀ {xs : List V} {vs : List Value} {i : Nat} {v : Value}, Vals xs vs → vs[i]? = some v → ∃ x, xs[i]? = some x ∧ RelV x v
  | _, _, _, _, .nil, e => by simp at e
  | _, _, 0, _, .cons r _, e => by simp at e; subst e; exact ⟨_, rfl, r⟩
  | _, _, i + 1, v, .cons _ t, e => by
    obtain ⟨u, h1, h2⟩ := Vals.back (i := i) (v := v) t (by simpa using e)
    exact ⟨u, by simpa using h1, h2⟩
section
variable {X : Cx} {e : Expr} {te : TE} {p p2 kpos pos : Pos} {x : Str} {ps : List Str}
end
end L2

namespace L2
open PySem PySem.Spec PyProof.Rows PySem.W
/-! ### sorted(x) of messages that rise already -/
section
variable {X : Cx} {pins : List (Addr × Obj)} {σ : St} {H : Hp} {s : Shared} {A : Around} {E : Value → Shared → Prop} {a : Addr} {vs : List Value} {P : PySem.Fin → Shared → Prop}
end
end L2

/-! Messages, tables and gaps, by themselves. -/
namespace L2
open PySem
/-! ### messages, by themselves -/
structure Msg where
  n : Int
  t : Str
  x : Str
deriving DecidableEq
/-- l rises by numbers -/
def Rise (l : List Msg) : Prop := l.Pairwise fun p q => p.n < q.n
theorem Rise.nil : Rise [] := List.Pairwise.nil
theorem rise_ext : ∀ {l r : List Msg}, Rise l → Rise r → (∀ m, m ∈ l ↔ m ∈ r) → l = r
  | [], [], _, _, _ => rfl
  | [], b :: r, _, _, h => absurd ((h b).mpr List.mem_cons_self) List.not_mem_nil
  | a :: l, [], _, _, h => absurd ((h a).mp List.mem_cons_self) List.not_mem_nil
  | a :: l, b :: r, h1, h2, h => by
    obtain ⟨a1, a2⟩ := List.pairwise_cons.mp h1
    obtain ⟨b1, b2⟩ := List.pairwise_cons.mp h2
    have e : a = b := by
      rcases List.mem_cons.mp ((h a).mp List.mem_cons_self) with e | e
      · exact e
      · rcases List.mem_cons.mp ((h b).mpr List.mem_cons_self) with e' | e'
        · exact e'.symm
        · have := a1 b e'; have := b1 a e; omega
    subst e
    refine congrArg (a :: ·) (rise_ext a2 b2 fun m => ⟨fun hm => ?_, fun hm => ?_⟩)
    · rcases List.mem_cons.mp ((h m).mp (List.mem_cons_of_mem _ hm)) with e | e
      · subst e; have := a1 m hm; omega
      · exact e
    · rcases List.mem_cons.mp ((h m).mpr (List.mem_cons_of_mem _ hm)) with e | e
      · subst e; have := b1 m hm; omega
      · exact e
/-- m is the last of its topic in ms -/
def Top (ms : List Msg) (m : Msg) : Prop := m ∈ ms ∧ ∀ k ∈ ms, k.t = m.t → k.n ≤ m.n
def Lasts (ms ls : List Msg) : Prop := Rise ls ∧ ∀ m, m ∈ ls ↔ Top ms m
theorem Top.perm {ms ms' : List Msg} {m : Msg} (h : ms.Perm ms') : Top ms m ↔ Top ms' m :=
  ⟨fun ⟨a, b⟩ => ⟨h.mem_iff.mp a, fun k hk => b k (h.mem_iff.mpr hk)⟩, fun ⟨a, b⟩ => ⟨h.mem_iff.mpr a, fun k hk => b k (h.mem_iff.mp hk)⟩⟩
theorem Lasts.perm {ms ms' ls : List Msg} (h : ms.Perm ms') (l : Lasts ms ls) : Lasts ms' ls := ⟨l.1, fun m => (l.2 m).trans (Top.perm h)⟩
theorem Lasts.uniq {ms l r : List Msg} (h1 : Lasts ms l) (h2 : Lasts ms r) : l = r := rise_ext h1.1 h2.1 fun m => (h1.2 m).trans (h2.2 m).symm
/-- the numbers differ -/
def Diff (ms : List Msg) : Prop := (ms.map (·.n)).Nodup
theorem Rise.diff {l : List Msg} (h : Rise l) : Diff l := by
  unfold Diff List.Nodup
  rw [List.pairwise_map]
  exact h.imp fun hlt => Int.ne_of_lt hlt
theorem Diff.perm {l r : List Msg} (h : l.Perm r) (d : Diff l) : Diff r := (h.map _).nodup_iff.mp d
theorem Diff.eq : ∀ {ms : List Msg}, Diff ms → ∀ {a b : Msg}, a ∈ ms → b ∈ ms → a.n = b.n → a = b
  | [], _, a, b, ha, _, _ => absurd ha List.not_mem_nil
  | m :: ms, d, a, b, ha, hb, e => by
    unfold Diff at d
    rw [List.map_cons, List.nodup_cons] at d
    rcases List.mem_cons.mp ha with h1 | h1 <;> rcases List.mem_cons.mp hb with h2 | h2
    · rw [h1, h2]
    · exact absurd (List.mem_map.mpr ⟨b, h2, by rw [← e, h1]⟩) d.1
    · exact absurd (List.mem_map.mpr ⟨a, h1, by rw [e, h2]⟩) d.1
    · exact Diff.eq d.2 h1 h2 e
theorem Top.topic {ms : List Msg} (d : Diff ms) {a b : Msg} (ha : Top ms a) (hb : Top ms b) (e : a.t = b.t) : a = b :=
  Diff.eq d ha.1 hb.1 (Int.le_antisymm (hb.2 a ha.1 e) (ha.2 b hb.1 e.symm))
/-! ### tables from topics on -/
section
variable {α β : Type}
def putD (D : List (Str × α)) (t : Str) (d : α) : List (Str × α) := if D.any (fun p => decide (p.1 = t)) = true then D.map fun p => if p.1 = t then (p.1, d) else p else D ++ [(t, d)]
/-- all put, one behind the other -/
def puts (D : List (Str × α)) (l : List (Str × α)) : List (Str × α) := l.foldl (fun D p => putD D p.1 p.2) D
end
/-- the newest of each topic -/
def kM (m : Msg) : Str × Msg := (m.t, m)
def newest (ms : List Msg) : List (Str × Msg) := puts [] (ms.map kM)
/-! ### gaps -/
end L2

namespace L2
open PySem PySem.Spec PyProof.Rows PySem.W
/-! ### sorted(x) of messages that rise already -/
section
variable {X : Cx}
end
/-! ### == of tables of texts -/
section
variable {X : Cx}
end
/-! ### messages in the heap -/
def mD (m : Msg) : PyData := .tuple [.int m.n, .str m.t, .str m.x]
def mT (m : Msg) : HO := .tup [.int m.n, .str m.t, .str m.x]
def mOk (m : Msg) : Prop := PyData.strOk m.t = true ∧ PyData.strOk m.x = true
theorem has_msg {H : Hp} {v : V} {m : Msg} (h : Has H v (mD m)) : ∃ c, v = .ref c ∧ H c = some (mT m) := by
  unfold mD Has at h
  obtain ⟨a, xs, rfl, h1, h2⟩ := h
  unfold HasL at h2
  obtain ⟨x1, r1, rfl, e1, h2⟩ := h2
  unfold HasL at h2
  obtain ⟨x2, r2, rfl, e2, h2⟩ := h2
  unfold HasL at h2
  obtain ⟨x3, r3, rfl, e3, h2⟩ := h2
  unfold HasL at h2
  subst h2
  unfold Has at e1 e2 e3
  subst e1 e2 e3
  exact ⟨a, rfl, h1⟩
theorem msg_has {H : Hp} {c : Addr} {m : Msg} (h : H c = some (mT m)) : Has H (.ref c) (mD m) := has_tup h (hasL_cons (has_int _) (hasL_cons (has_str _) (hasL_cons (has_str _) hasL_nil)))
/-- the list xs holds the messages ms -/
def Ms (H : Hp) (xs : List V) (ms : List Msg) : Prop := HasL H xs (ms.map mD)
theorem Ms.same {H H' : Hp} {xs : List V} {ms : List Msg} (h : Ms H xs ms) (e : Same H H') : Ms H' xs ms := HasL.same e h
theorem Ms.nil {H : Hp} : Ms H [] [] := hasL_nil
theorem Ms.len {H : Hp} {xs : List V} {ms : List Msg} (h : Ms H xs ms) : xs.length = ms.length := by have := HasL.length h; rw [List.length_map] at this; exact this
theorem Ms.append {H : Hp} {xs ys : List V} {ms ns : List Msg} (h : Ms H xs ms) (h' : Ms H ys ns) : Ms H (xs ++ ys) (ms ++ ns) := by unfold Ms; rw [List.map_append]; exact HasL.append h h'
theorem Ms.one {H : Hp} {c : Addr} {m : Msg} (h : H c = some (mT m)) : Ms H [.ref c] [m] := hasL_cons (msg_has h) hasL_nil
theorem Ms.get {H : Hp} {xs : List V} {ms : List Msg} (h : Ms H xs ms) {i : Nat} (hi : i < ms.length) : ∃ c, xs[i]? = some (.ref c) ∧ H c = some (mT ms[i]) := by
  obtain ⟨x, e, hx⟩ := HasL.get (i := i) (d := mD ms[i]) h (by rw [List.getElem?_map, List.getElem?_eq_getElem hi]; rfl)
  obtain ⟨c, rfl, hc⟩ := has_msg hx
  exact ⟨c, e, hc⟩
theorem Ms.cons_iff {H : Hp} {x : V} {xs : List V} {ms : List Msg} : Ms H (x :: xs) ms ↔ ∃ m r, ms = m :: r ∧ Has H x (mD m) ∧ Ms H xs r := by
  cases ms with
  | nil =>
    constructor
    · intro h; unfold Ms at h; rw [List.map_nil] at h; unfold HasL at h; exact absurd h (by simp)
    · rintro ⟨m, r, e, _⟩; exact absurd e (by simp)
  | cons m r =>
    constructor
    · intro h
      unfold Ms at h; rw [List.map_cons] at h; unfold HasL at h
      obtain ⟨x', r', e, h1, h2⟩ := h
      cases e
      exact ⟨m, r, rfl, h1, h2⟩
    · rintro ⟨m', r', e, h1, h2⟩
      cases e
      exact hasL_cons h1 h2
theorem Ms.head {H : Hp} {x : V} {xs : List V} {m : Msg} {r : List Msg} (h : Ms H (x :: xs) (m :: r)) : Has H x (mD m) ∧ Ms H xs r := by
  obtain ⟨m', r', e, h1, h2⟩ := Ms.cons_iff.mp h
  cases e
  exact ⟨h1, h2⟩
theorem Ms.take {H : Hp} : ∀ {xs : List V} {ms : List Msg} (n : Nat), Ms H xs ms → Ms H (xs.take n) (ms.take n)
  | [], [], n, h => by simpa using Ms.nil
  | [], m :: r, n, h => by have := h.len; simp at this
  | x :: xs, [], n, h => by have := h.len; simp at this
  | x :: xs, m :: r, 0, h => by simpa using Ms.nil
  | x :: xs, m :: r, n + 1, h => hasL_cons h.head.1 (Ms.take n h.head.2)
theorem Ms.drop {H : Hp} : ∀ {xs : List V} {ms : List Msg} (n : Nat), Ms H xs ms → Ms H (xs.drop n) (ms.drop n)
  | [], [], n, h => by simpa using Ms.nil
  | [], m :: r, n, h => by have := h.len; simp at this
  | x :: xs, [], n, h => by have := h.len; simp at this
  | x :: xs, m :: r, 0, h => h
  | x :: xs, m :: r, n + 1, h => Ms.drop n h.head.2
theorem lay_ms : ∀ {ms : List Msg}, (∀ m ∈ ms, mOk m) → PyData.canLayAll0 (ms.map mD) = true
  | [], _ => by simp [PyData.canLayAll0]
  | m :: r, h => by
    obtain ⟨h1, h2⟩ := h m List.mem_cons_self
    simp [PyData.canLayAll0, PyData.canLay0, mD, h1, h2, lay_ms fun k hk => h k (List.mem_cons_of_mem _ hk)]
theorem depth_ms : ∀ ms : List Msg, PyData.depthAll (ms.map mD) ≤ 3
  | [] => by simp [PyData.depthAll]
  | m :: r => by
    have := depth_ms r
    simp only [List.map_cons, PyData.depthAll, PyData.depth, mD]
    omega
theorem shaped_ms {ms : List Msg} (h : ∀ m ∈ ms, mOk m) : SeqAt.shaped (.list (ms.map mD)) = true := by
  have h1 := depth_ms ms
  have h2 : PyData.depth (.list (ms.map mD)) ≤ 64 := by simp only [PyData.depth]; omega
  show (PyData.canLay0 (.list (ms.map mD)) && decide (PyData.depth (.list (ms.map mD)) ≤ 64)) = true
  rw [Bool.and_eq_true]
  exact ⟨by simp only [PyData.canLay0]; exact lay_ms h, decide_eq_true h2⟩
theorem eqv_ms {ms : List Msg} (h : ∀ m ∈ ms, mOk m) : PyData.eqv (.list (ms.map mD)) (.list (ms.map mD)) = true :=
  SeqAt.eqv_refl _ (by simp only [PyData.canLay0]; exact lay_ms h)
/-- two lists of the same messages, compared -/
theorem ne_ms {H : Hp} {a b : Addr} {xs ys : List V} {ms : List Msg} {Q : VK} (ha : H a = some (.lst xs)) (hx : Ms H xs ms) (hb : H b = some (.lst ys)) (hy : Ms H ys ms) (ok : ∀ m ∈ ms, mOk m) (q : Q (.bl false) H) : rNeD (.ref a) (.ref b) H Q := by
  refine ⟨_, _, has_lst ha hx, has_lst hb hy, shaped_ms ok, shaped_ms ok, ?_⟩
  rw [eqv_ms ok]; exact q
/-! ### a table from topics to messages -/
inductive DM (H : Hp) : List (Key × V) → List (Str × Msg) → Prop
  | nil : DM H [] []
  | cons {t : Str} {v : V} {m : Msg} {r : List (Key × V)} {D : List (Str × Msg)} : Has H v (mD m) → DM H r D → DM H ((Sum.inr t, v) :: r) ((t, m) :: D)
theorem DM.same {H H' : Hp} (e : Same H H') : ∀ {kvs : List (Key × V)} {D : List (Str × Msg)}, DM H kvs D → DM H' kvs D
  | _, _, .nil => .nil
  | _, _, .cons h t => .cons (h.same e) (DM.same e t)
theorem DM.len {H : Hp} : ∀ {kvs : List (Key × V)} {D : List (Str × Msg)}, DM H kvs D → kvs.length = D.length
  | _, _, .nil => rfl
  | _, _, .cons _ t => by rw [List.length_cons, List.length_cons, DM.len t]
theorem DM.ms {H : Hp} : ∀ {kvs : List (Key × V)} {D : List (Str × Msg)}, DM H kvs D → Ms H (kvs.map (·.2)) (D.map (·.2))
  | _, _, .nil => Ms.nil
  | _, _, .cons h t => hasL_cons h (DM.ms t)
theorem DM.any {H : Hp} (t : Str) : ∀ {kvs : List (Key × V)} {D : List (Str × Msg)}, DM H kvs D → (kvs.any fun kv => decide (kv.1 = Sum.inr t)) = D.any fun p => decide (p.1 = t)
  | _, _, .nil => rfl
  | _, _, .cons (t := t') h r => by
    rw [List.any_cons, List.any_cons, DM.any t r]
    congr 1
    exact decide_eq_decide.mpr ⟨fun z => Sum.inr.inj z, fun z => congrArg Sum.inr z⟩
theorem DM.repl {H : Hp} (t : Str) {v : V} {m : Msg} (h : Has H v (mD m)) : ∀ {kvs : List (Key × V)} {D : List (Str × Msg)}, DM H kvs D → DM H (kvs.map fun kv => if kv.1 = Sum.inr t then (kv.1, v) else kv) (D.map fun p => if p.1 = t then (p.1, m) else p)
  | _, _, .nil => .nil
  | _, _, .cons (t := t') h' r => by
    rw [List.map_cons, List.map_cons]
    by_cases e : t' = t
    · rw [if_pos (by rw [e]), if_pos e]; exact .cons h (DM.repl t h r)
    · rw [if_neg (fun z => e (by injection z)), if_neg e]; exact .cons h' (DM.repl t h r)
theorem DM.snoc {H : Hp} (t : Str) {v : V} {m : Msg} (h : Has H v (mD m)) : ∀ {kvs : List (Key × V)} {D : List (Str × Msg)}, DM H kvs D → DM H (kvs ++ [(Sum.inr t, v)]) (D ++ [(t, m)])
  | _, _, .nil => .cons h .nil
  | _, _, .cons h' r => .cons h' (DM.snoc t h r)
theorem DM.put {H : Hp} (t : Str) {v : V} {m : Msg} (h : Has H v (mD m)) {kvs : List (Key × V)} {D : List (Str × Msg)} (d : DM H kvs D) : DM H (putK kvs (Sum.inr t) v) (putD D t m) := by
  unfold putK putD
  rw [d.any t]
  split
  · exact d.repl t h
  · exact d.snoc t h
/-! ### sorted by numbers -/
end L2

namespace L2
open PySem PySem.Spec PyProof.Rows PySem.W
/-- what was not there may be changed -/
theorem Same.put {H H' : Hp} (e : Same H H') {p : Addr} {o : HO} (h : H p = none) : Same H (upd H' p o) := fun b u hb => by
  rw [upd_ne (fun z => by rw [z, h] at hb; cases hb)]; exact e b u hb
theorem flt_succ {α : Type} {ms : List α} {i : Nat} (hi : i < ms.length) {b : α → Bool} : (ms.take (i + 1)).filter b = (ms.take i).filter b ++ if b ms[i] = true then [ms[i]] else [] := by
  rw [List.take_add_one, List.getElem?_eq_getElem hi, List.filter_append]
  show _ ++ List.filter b [ms[i]] = _
  rw [List.filter_cons]; rfl
/-! ### the promises of the program's message functions -/
/-- topics: None, or a list of texts -/
def TopV (K : PySem.W.Frag) (H : Hp) (tv : V) (ts : Option (List Str)) : Prop := (tv = .non ∧ ts = none) ∨ ∃ b l, tv = .ref b ∧ SqL K H b (l.map V.str) ∧ ts = some l
theorem TopV.same {K : PySem.W.Frag} {H H' : Hp} {tv : V} {ts : Option (List Str)} (h : TopV K H tv ts) (e : Same H H') : TopV K H' tv ts := by
  rcases h with h | ⟨b, l, h1, h2, h3⟩
  · exact .inl h
  · exact .inr ⟨b, l, h1, e.seq h2, h3⟩
def ofT : Option (List Str) → List Msg → List Msg
  | none, ms => ms
  | some l, ms => ms.filter fun m => decide (m.t ∈ l)
/-! ### data without lists stands while a list is written -/
mutual
def noLst : PyData → Bool
  | .list _ => false
  | .dict _ => false
  | .tuple ds => noLstA ds
  | _ => true
def noLstA : List PyData → Bool
  | [] => true
  | d :: ds => noLst d && noLstA ds
end
mutual
theorem Has.updL {H : Hp} {g : Addr} {zs : List V} {o : HO} (hg : H g = some (.lst zs)) : ∀ {v : V} {d : PyData}, noLst d = true → Has H v d → Has (upd H g o) v d
  | v, .none, _, h => by unfold Has at h ⊢; exact h
  | v, .bool b, _, h => by unfold Has at h ⊢; exact h
  | v, .int i, _, h => by unfold Has at h ⊢; exact h
  | v, .str x, _, h => by unfold Has at h ⊢; exact h
  | v, .list ds, n, h => by unfold noLst at n; cases n
  | v, .tuple ds, n, h => by
    unfold noLst at n
    unfold Has at h ⊢
    obtain ⟨a, xs, h1, h2, h3⟩ := h
    refine ⟨a, xs, h1, ?_, HasL.updL hg n h3⟩
    rw [upd_ne (fun e => by rw [e, hg] at h2; cases h2)]; exact h2
  | v, .dict kvs, n, h => by unfold noLst at n; cases n
theorem HasL.updL {H : Hp} {g : Addr} {zs : List V} {o : HO} (hg : H g = some (.lst zs)) : ∀ {xs : List V} {ds : List PyData}, noLstA ds = true → HasL H xs ds → HasL (upd H g o) xs ds
  | xs, [], _, h => by unfold HasL at h ⊢; exact h
  | xs, d :: ds, n, h => by
    unfold noLstA at n
    rw [Bool.and_eq_true] at n
    unfold HasL at h ⊢
    obtain ⟨x, r, h1, h2, h3⟩ := h
    exact ⟨x, r, h1, Has.updL hg n.1 h2, HasL.updL hg n.2 h3⟩
end
theorem noLst_ms : ∀ ms : List Msg, noLstA (ms.map mD) = true
  | [] => by simp [noLstA]
  | m :: r => by simp [noLstA, noLst, mD, noLst_ms r]
theorem Ms.updL {H : Hp} {g : Addr} {zs : List V} {o : HO} {xs : List V} {ms : List Msg} (hg : H g = some (.lst zs)) (h : Ms H xs ms) : Ms (upd H g o) xs ms := HasL.updL hg (noLst_ms ms) h
theorem HasL.split {H : Hp} {e : PyData} : ∀ {xs : List V} {ds : List PyData}, HasL H xs (ds ++ [e]) → ∃ ys y, xs = ys ++ [y] ∧ HasL H ys ds ∧ Has H y e
  | xs, [], h => by
    rw [List.nil_append] at h
    unfold HasL at h
    obtain ⟨x, r, rfl, h1, h2⟩ := h
    unfold HasL at h2
    subst h2
    exact ⟨[], x, rfl, hasL_nil, h1⟩
  | xs, d :: ds, h => by
    rw [List.cons_append] at h
    unfold HasL at h
    obtain ⟨x, r, rfl, h1, h2⟩ := h
    obtain ⟨ys, y, rfl, h3, h4⟩ := HasL.split h2
    exact ⟨x :: ys, y, rfl, hasL_cons h1 h3, h4⟩
end L2
namespace L2
open PySem PySem.Spec PyProof.Rows PySem.W
/-! ### the law's own helpers -/
def Rows (ms : List Msg) : Prop := ∀ i (h : i < ms.length), ms[i].n = (i : Int) + 1
theorem Rows.nil : Rows [] := fun i h => absurd h (by simp)
theorem Rows.snoc {ms : List Msg} {m : Msg} (h : Rows ms) (e : m.n = (ms.length : Int) + 1) : Rows (ms ++ [m]) := by
  intro i hi
  rw [List.length_append, List.length_singleton] at hi
  by_cases hl : i < ms.length
  · rw [List.getElem_append_left hl]; exact h i hl
  · have e' : i = ms.length := by omega
    subst e'
    rw [List.getElem_append_right (Nat.le_refl _)]
    simpa using e
theorem Rows.rise {ms : List Msg} (h : Rows ms) : Rise ms := by
  refine List.pairwise_iff_getElem.mpr fun i j hi hj hij => ?_
  rw [h i hi, h j hj]; omega
/-! data without lists stands while a table is written -/
end L2

namespace L2
open PySem PySem.Spec PyProof.Rows PySem.W
/-! ### methods and classes, by their promises -/
structure CalleeM (P : Program) (w : World) (K : PySem.W.Frag) (mg : Str → Option Value) (base : Heap) (k : Nat) (C : Addr) (m : Str) (ps : List Str) (sp : Sp) : Prop where
  ex : ∃ f fd, FnOk P w K mg base CX0 k f fd ps sp ∧ Meth K C m f ∧ Binds K fd ps []
structure CalleeI (P : Program) (w : World) (K : PySem.W.Frag) (mg : Str → Option Value) (base : Heap) (k : Nat) (C : Addr) (ps : List Str) (sp : Sp) : Prop where
  ex : ∃ f fd, FnOk P w K mg base CX0 k f fd ps sp ∧ Mk K C f ∧ Binds K fd ps []
section
variable {X : Cx} {k : Nat} {C : Addr} {m x : Str} {ps : List Str} {sp : Sp} {o e : Expr} {es : List Expr} {ta tv : TE} {t : TA} {p apos pos pos' : Pos}
theorem as_meth0 {pl : Sem Bool} (M : CalleeM X.prog X.w X.K X.mg X.base k C m ps sp) (c : Cls X.K C) (hr : Room k X.A) (he : PE X o ta)
    (ht : eval (.Call (.Attribute o m apos) [] [] pos) X.env = (do
      let ov ← eval o X.env
      standAt apos.atName
      let (f, first) ← holding [ov] (getMethod ov m pl)
      callWith pos f first (backTo pos (starEach [] X.env)) (backToKw pos (keywordEach [] X.env))) := by rfl) :
    PE X (.Call (.Attribute o m apos) [] [] pos) (tMeth C m sp [] E0 ta tNil) := by
  obtain ⟨f, fd, F, hm, hb⟩ := M.ex
  exact pe_meth0 (pl := pl) he c hm F hr hb .nil pass0 ht
theorem as_make0 (M : CalleeI X.prog X.w X.K X.mg X.base k C ps sp) (hr : Room (k + 1) X.A) (hm : X.mg x = some (.ref C)) (hg : Gl X x := by rfl) (hdb : (x == ("__debug__" : Str)) = false := by decide) :
    PE X (.Call (.Name x p) [] [] pos) (tMake C sp [] E0 tNil) := by
  obtain ⟨f, fd, F, hM, hb⟩ := M.ex
  exact pe_make0 hM F hr hg hm hb .nil pass0 hdb
theorem k_sfld (K : PySem.W.Frag) {value : Expr} {f : Str} (ha : PE X o ta) (hv : PE X value tv) (hs : swapsWith value (some (.Attribute o f pos')) pos.line X.env = pure false) (h : X.K = K := by rfl) : PS X (.Assign [.Attribute o f pos'] value pos) (sFld K ta tv f) := h ▸ ps_fld ha hv hs
end
/-! ### attributes in a written order -/
theorem lk_hit {f : Str} {v : V} {r : List (Str × V)} : List.lookup f ((f, v) :: r) = some v := by simp [List.lookup]
theorem lk_miss {f g : Str} {v : V} {r : List (Str × V)} (h : ¬ f = g) : List.lookup f ((g, v) :: r) = List.lookup f r := by
  have hb : (f == g) = false := beq_eq_false_iff_ne.mpr h
  simp [List.lookup, hb]
theorem pf_hit {f : Str} {v x : V} {r : List (Str × V)} : putF f v ((f, x) :: r) = (f, v) :: r := by
  show (if f = f then _ else _) = _
  rw [if_pos rfl]
theorem pf_miss {f g : Str} {v x : V} {r : List (Str × V)} (h : ¬ g = f) : putF f v ((g, x) :: r) = (g, x) :: putF f v r := by
  show (if g = f then _ else _) = _
  rw [if_neg h]
/-! ### what tuples alone tell -/
def Tups (H H' : Hp) : Prop := ∀ c xs, H c = some (.tup xs) → H' c = some (.tup xs)
theorem Same.tups {H H' : Hp} (e : Same H H') : Tups H H' := fun c xs h => e _ _ h
theorem Tups.refl (H : Hp) : Tups H H := fun _ _ h => h
theorem Tups.trans {H H' H'' : Hp} (a : Tups H H') (b : Tups H' H'') : Tups H H'' := fun c xs h => b _ _ (a _ _ h)
theorem Tups.put {H H' : Hp} (a : Tups H H') {g : Addr} {u o : HO} (h : H' g = some u) (hn : ∀ xs, u ≠ .tup xs) : Tups H (upd H' g o) := fun c xs hc => by
  have h1 := a _ _ hc
  rw [upd_ne (fun e => by rw [e, h] at h1; exact hn xs (Option.some.inj h1))]; exact h1
theorem Tups.new {H H' : Hp} (a : Tups H H') {g : Addr} {o : HO} (h : H' g = none) : Tups H (upd H' g o) := fun c xs hc => by
  have h1 := a _ _ hc
  rw [upd_ne (ne_of_none h1 h)]; exact h1
mutual
theorem Has.tups {H H' : Hp} (e : Tups H H') : ∀ {v : V} {d : PyData}, noLst d = true → Has H v d → Has H' v d
  | v, .none, _, h => by unfold Has at h ⊢; exact h
  | v, .bool b, _, h => by unfold Has at h ⊢; exact h
  | v, .int i, _, h => by unfold Has at h ⊢; exact h
  | v, .str x, _, h => by unfold Has at h ⊢; exact h
  | v, .list ds, n, h => by unfold noLst at n; cases n
  | v, .tuple ds, n, h => by
    unfold noLst at n
    unfold Has at h ⊢
    obtain ⟨a, xs, h1, h2, h3⟩ := h
    exact ⟨a, xs, h1, e _ _ h2, HasL.tups e n h3⟩
  | v, .dict kvs, n, h => by unfold noLst at n; cases n
theorem HasL.tups {H H' : Hp} (e : Tups H H') : ∀ {xs : List V} {ds : List PyData}, noLstA ds = true → HasL H xs ds → HasL H' xs ds
  | xs, [], _, h => by unfold HasL at h ⊢; exact h
  | xs, d :: ds, n, h => by
    unfold noLstA at n
    rw [Bool.and_eq_true] at n
    unfold HasL at h ⊢
    obtain ⟨x, r, h1, h2, h3⟩ := h
    exact ⟨x, r, h1, Has.tups e n.1 h2, HasL.tups e n.2 h3⟩
end
theorem Ms.tups {H H' : Hp} {xs : List V} {ms : List Msg} (h : Ms H xs ms) (e : Tups H H') : Ms H' xs ms := HasL.tups e (noLst_ms ms) h
theorem noLst_m (m : Msg) : noLst (mD m) = true := by simp [noLst, noLstA, mD]
theorem DM.tups {H H' : Hp} (e : Tups H H') : ∀ {kvs : List (Key × V)} {D : List (Str × Msg)}, DM H kvs D → DM H' kvs D
  | _, _, .nil => .nil
  | _, _, .cons h t => .cons (h.tups e (noLst_m _)) (DM.tups e t)
/-- all stands but what is at ps -/
def But (ps : List Addr) (H H' : Hp) : Prop := ∀ c o, H c = some o → c ∉ ps → H' c = some o
/-! ### a teller -/
def lastK (k : Int) (all : List Msg) : List Msg := all.drop (all.length - k.toNat)
def tF (k r n : Int) (s d : Addr) : List (Str × V) := [("keep", .int k), ("turn", .int r), ("total", .int n), ("stored", .ref s), ("newest", .ref d)]
section
variable {k r n : Int} {s d : Addr}
end
/-- a teller stands at p: keep k, turn r, all that was told; its list at s, its table at d -/
structure TAt (C : Addr) (H : Hp) (p : Addr) (k r : Int) (all : List Msg) (s d : Addr) : Prop where
  ob : ∃ dx, H p = some (.ins C dx (tF k r (all.length : Int) s d))
  st : ∃ ys, H s = some (.lst ys) ∧ Ms H ys (lastK k all)
  nw : ∃ kvs, H d = some (.dK kvs) ∧ DM H kvs (newest all)
theorem TAt.same {C : Addr} {H H' : Hp} {p : Addr} {k r : Int} {all : List Msg} {s d : Addr} (h : TAt C H p k r all s d) (e : Same H H') : TAt C H' p k r all s d := by
  obtain ⟨⟨dx, h1⟩, ⟨ys, h2, h3⟩, ⟨kvs, h4, h5⟩⟩ := h
  exact ⟨⟨dx, e _ _ h1⟩, ⟨ys, e _ _ h2, h3.same e⟩, ⟨kvs, e _ _ h4, h5.same e⟩⟩
theorem TAt.but {C : Addr} {H H' : Hp} {p p' : Addr} {k r k' r' : Int} {all all' : List Msg} {s d s' d' : Addr} (h : TAt C H p k r all s d) (h' : TAt C H p' k' r' all' s' d') (hp : p ≠ p') (hs : s ≠ s') (hd : d ≠ d') (e : But [p', s', d'] H H') : TAt C H' p k r all s d := by
  obtain ⟨⟨dx, h1⟩, ⟨ys, h2, h3⟩, ⟨kvs, h4, h5⟩⟩ := h
  obtain ⟨⟨dx', g1⟩, ⟨ys', g2, g3⟩, ⟨kvs', g4, g5⟩⟩ := h'
  have tp : Tups H H' := fun c xs hc => e c _ hc (by
    have a1 := ne_of hc g1 (by intro z; cases z)
    have a2 := ne_of hc g2 (by intro z; cases z)
    have a3 := ne_of hc g4 (by intro z; cases z)
    simp [a1, a2, a3])
  refine ⟨⟨dx, e _ _ h1 ?_⟩, ⟨ys, e _ _ h2 ?_, h3.tups tp⟩, ⟨kvs, e _ _ h4 ?_, h5.tups tp⟩⟩
  · have a2 := ne_of h1 g2 (by intro z; cases z)
    have a3 := ne_of h1 g4 (by intro z; cases z)
    simp [hp, a2, a3]
  · have a1 := ne_of h2 g1 (by intro z; cases z)
    have a3 := ne_of h2 g4 (by intro z; cases z)
    simp [a1, hs, a3]
  · have a1 := ne_of h4 g1 (by intro z; cases z)
    have a2 := ne_of h4 g2 (by intro z; cases z)
    simp [a1, a2, hd]
theorem TAt.tups {C : Addr} {H H' : Hp} {p : Addr} {k r : Int} {all : List Msg} {s d : Addr} (h : TAt C H p k r all s d) (e : But [p, s, d] H H') : Tups H H' := by
  obtain ⟨⟨dx, g1⟩, ⟨ys, g2, g3⟩, ⟨kvs, g4, g5⟩⟩ := h
  exact fun c xs hc => e c _ hc (by
    have a1 := ne_of hc g1 (by intro z; cases z)
    have a2 := ne_of hc g2 (by intro z; cases z)
    have a3 := ne_of hc g4 (by intro z; cases z)
    simp [a1, a2, a3])
/-! the promises of a teller's methods -/
def spTold (C : Addr) : Sp := fun vs H Q _ => ∃ p k r all s d, vs = [.ref p] ∧ TAt C H p k r all s d ∧ Q (.int (all.length : Int)) H
theorem putF_len (f : Str) (v : V) : ∀ fs : List (Str × V), (putF f v fs).length ≤ fs.length + 1
  | [] => Nat.le_refl _
  | (g, x) :: r => by
    show (if g = f then (g, v) :: r else (g, x) :: putF f v r).length ≤ _
    have := putF_len f v r
    split
    · simp
    · simp only [List.length_cons]; omega
theorem But.same {ps : List Addr} {H0 H H' : Hp} (e : Same H0 H) (b : But ps H H') (hn : ∀ p ∈ ps, H0 p = none) : Same H0 H' := fun c o h => b c o (e _ _ h) fun hc => by rw [hn c hc] at h; cases h
/-! ### what behind tells -/
/-! ### rows behind a number -/
end L2

namespace L2
open PySem PySem.Spec PyProof.Rows PySem.W
/-! ### an exception in flight: B holds all that stood ahead of it, but the frames -/
structure Fly (P : Program) (w : World) (outer : List Env) (H H' : Hp) (h : Heap) (a : Addr) (cls : Value) (h' : Heap) : Prop where
  ex : ∃ (B : Heap) (a0 : Value) (hr : Heap) (Ls : List Addr), Heap.FlyingW B outer a cls a0 h' ∧ Un (frs outer) [] H H' h hr ∧ HOk P w H' hr ∧ (∀ b o, hr.get? b = some o → b ∉ frs outer → b ∉ Ls → B.get? b = some o) ∧ (∀ L ∈ Ls, h.get? L = none ∧ H' L = none) ∧ hr.UpToSlots h' ∧ hr.get? a = none
/-- how an exception lies behind a call -/
def CXF (P : Program) (w : World) : CXT := fun outer H s E e s' => ∃ a cls H', e = .ref a ∧ s'.os = s.os ∧ AllBare s'.gens ∧ Fly P w outer H H' s.heap a cls s'.heap ∧ H' a = none ∧ E cls none H'
theorem obj_at {P : Program} {w : World} {H : Hp} {h : Heap} {a : Addr} {o : HO} (x : ObjOk P w H h a o) : ∃ ob, h.get? a = some ob := by
  cases o with
  | lst xs => obtain ⟨_, _, _, _, e⟩ := x; exact ⟨_, e⟩
  | tup xs => obtain ⟨_, _, _, ob, e, _⟩ := x; exact ⟨_, e⟩
  | dK kvs => obtain ⟨_, _, _, _, o, _, _, e, _⟩ := x; exact ⟨_, e⟩
  | dT kvs => obtain ⟨_, _, _, _, o, _, _, e, _⟩ := x; exact ⟨_, e⟩
  | set S n => obtain ⟨o, _, _, _, e, _⟩ := x; exact ⟨_, e⟩
  | ins C dx fs => obtain ⟨_, _, _, e, _⟩ := x; exact ⟨_, e⟩
  | own y => obtain ⟨_, e⟩ := x; exact ⟨_, e⟩
  | xd fs => obtain ⟨_, ⟨_, _, _, e, _⟩, _⟩ := x; exact ⟨_, e⟩
  | rng lo hi => obtain ⟨_, _, _, e⟩ := x; exact ⟨_, e⟩
  | frz ob u => obtain ⟨e, _⟩ := x; exact ⟨_, e⟩
  | tbl ps => exact ⟨_, show h.get? a = some _ from x⟩
  | met f y => exact ⟨_, show h.get? a = some _ from x⟩
  | ext φ => obtain ⟨_, ⟨_, e⟩, _⟩ := x; exact ⟨_, e⟩
theorem un_fly {P : Program} {w : World} {fs : List Addr} {H H' : Hp} {h hr h' B : Heap} {Ls : List Addr} (un : Un fs [] H H' h hr) (hok : HOk P w H' hr) (cov : ∀ b o, hr.get? b = some o → b ∉ fs → b ∉ Ls → B.get? b = some o) (hL : ∀ L ∈ Ls, h.get? L = none ∧ H' L = none)
    (st : B.StaysIn h') (sm : hr.UpToSlots h') (hf : ∀ b ∈ fs, H b = none ∧ ∀ o, h.get? b = some o → ∀ vs, o.data ≠ .fields vs) (hfH : ∀ b ∈ fs, H' b = none) : Un fs [] H H' h h' ∧ HOk P w H' h' := by
  have tr : ∀ b u o, H' b = some u → hr.get? b = some o → h'.get? b = some o := fun b u o hb ho => by
    refine st b o (cov b o ho (fun z => ?_) fun z => ?_)
    · rw [hfH b z] at hb; cases hb
    · rw [(hL b z).2] at hb; cases hb
  have ne : ∀ b o, h.get? b = some o → b ∉ Ls := fun b o e z => by rw [(hL b z).1] at e; cases e
  refine ⟨⟨fun b o e n hb hx => st b o (cov b o (un.keep b o e n hb hx) hb (ne b o e)), fun b o e n hb hx => ?_, un.free, fun b o e hx => ?_, un.tups, un.frzs, un.tbls⟩, fun b u e => ?_⟩
  · obtain ⟨sl, e1⟩ := un.slot b o e n hb hx
    obtain ⟨sl2, e2⟩ := sm b _ e1 ((hf b hb).2 o e)
    exact ⟨sl2, e2⟩
  · by_cases hb : b ∈ fs
    · obtain ⟨sl, e1⟩ := un.slot b o e (hf b hb).1 hb hx
      obtain ⟨sl2, e2⟩ := sm b _ e1 ((hf b hb).2 o e)
      exact ⟨_, e2⟩
    · obtain ⟨o', e1⟩ := un.there b o e hx
      exact ⟨o', st b o' (cov b o' e1 hb (ne b o e))⟩
  · refine (hok b u e).stay (fun c o hc ho => ?_) (fun _ q => q) fun _ _ q => q
    rcases hc with rfl | hc
    · exact tr _ _ _ e ho
    · exact tr _ _ _ hc ho
section
variable {X : Cx} {pins : List (Addr × Obj)} {σ : St} {H H' : Hp} {s : Shared}
theorem Inv.frNo (I : Inv X pins σ H s) : ∀ b ∈ frs X.stack, H b = none ∧ ∀ o, s.heap.get? b = some o → ∀ vs, o.data ≠ .fields vs := fun b hb => by
  refine ⟨I.stkFree b hb, fun o e vs hd => ?_⟩
  obtain ⟨_, o', ho, hn⟩ := I.stack.mem hb
  rw [e] at ho
  cases ho
  exact hn vs hd
/-- behind a flight the caller's state stands -/
theorem Inv.flown {g' : Array GenState} {t' : Nat} {d' : Drawn} {B hr h' : Heap} {Ls : List Addr} (I : Inv X pins σ H s) (un : Un (frs X.stack) [] H H' s.heap hr) (hok : HOk X.prog X.w H' hr) (cov : ∀ b o, hr.get? b = some o → b ∉ frs X.stack → b ∉ Ls → B.get? b = some o)
    (hL : ∀ L ∈ Ls, s.heap.get? L = none ∧ H' L = none) (st : B.StaysIn h') (sm : hr.UpToSlots h') (hg : AllBare g') : Inv X pins σ H' { s with heap := h', gens := g', drawn := d', toks := t' } := by
  have hfH : ∀ b ∈ frs X.stack, H' b = none := fun b hb => by
    obtain ⟨_, o, ho, _⟩ := I.stack.mem hb
    exact un.free b o ho (I.stkFree b hb) (by simp)
  obtain ⟨u, k⟩ := un_fly un hok cov hL st sm I.frNo hfH
  exact I.call (ch := []) u k hg (fun b z => absurd z (by simp))
end
/-! ### raise C(e) in a def's own body -/
/-- the class at C is an exception's of one's own; its name -/
structure Exc (K : PySem.W.Frag) (mg : Str → Option Value) (x : Str) (C : Addr) : Prop where
  at_ : mg x = some (.ref C)
  exc : PySem.W.excIn K C [.type "ValueError", .type "Exception", .type "BaseException", .type "object"] "ValueError.__new__" = true
theorem exc_own {K : PySem.W.Frag} {mg : Str → Option Value} {x : Str} {C : Addr} {h : Heap} {bmB : List Value} {newId : String} (X : K.In h) (e : mg x = some (.ref C)) (q : PySem.W.excIn K C bmB newId = true) : OwnCls x C bmB newId mg h := by
  refine ⟨e, ?_⟩
  unfold PySem.W.excIn at q
  split at q
  · rename_i dd cd sl ho
    split at q
    · rename_i C' bm k0 k1 k2 k3 n k5 hm hs
      simp only [Bool.and_eq_true, beq_iff_eq, Bool.not_eq_true'] at q
      obtain ⟨⟨⟨⟨⟨rfl, rfl⟩, hdel⟩, ht⟩, hok⟩, hni⟩ := q
      obtain ⟨nm, bs, mro, ns, qn, hd, sn, sub, ab, col, del⟩ := cd
      dsimp only at hm hdel hok hni
      subst hm hdel
      have hsl : sl = #[k0, k1, k2, k3, some (.builtin n), k5] := by
        obtain ⟨l⟩ := sl
        simp only at hs
        rw [hs]
      subst hsl
      exact ⟨bm, ns, nm, qn, bs, hd, sn, sub, ab, col, dd, k0, k1, k2, k3, k5, _, X _ _ ho, .of_isNs (PySem.W.isNs_of_in X hok), PySem.W.nsMap_none_of_in X hok hni, PySem.W.tail_of_in X ht⟩
    · cases q
  · cases q
def tRaise (C : Addr) (E : XK) (t : TA) : TS := fun _ σ H => t σ H fun vs H1 => vs.length ≤ sizeLine ∧ E (.ref C) none H1
section
variable {P : Program} {w : World} {K : PySem.W.Frag} {mg : Str → Option Value} {base : Heap} {N : List Str} {qual : Str} {scope : Scope} {f : Addr} {cd : Value} {A : Around} {outer : List Env} {s : Shared} {H : Hp} {E : XK}
theorem ps_raise {x : Str} {C : Addr} {np cpos pos : Pos} {e : Expr} {es : List Expr} {t : TA} (Z : Exc K mg x C) (ha : PAt (cxOf (CXF P w) P w K mg base N qual scope f cd A outer s H E) e es t)
    (hg : Gl (cxOf (CXF P w) P w K mg base N qual scope f cd A outer s H E) x := by rfl) (hd : (x == ("__debug__" : Str)) = false := by decide) :
    PS (cxOf (CXF P w) P w K mg base N qual scope f cd A outer s H E) (.Raise (some (.Call (.Name x np) (e :: es) [] cpos)) none pos) (tRaise C E t) := by
  intro pins s1 σ H1 D I h
  have X1 := I.kIn
  obtain ⟨tl, M, nm, q, bs, hdct, sn, sub, ab, col, dd, k0, k1, k2, k3, k5, mN, hC, hN, hni, T⟩ := (exc_own (h := (cxOf (CXF P w) P w K mg base N qual scope f cd A outer s H E).base) I.ok.mod.kin Z.at_ Z.exc).obj
  refine wpAny_Raise_call_subT (C := C) (nm := nm) (q := q) (N := M) (bs := bs) (bm := tl) (hdct := hdct) (sn := sn) (sub := sub) (ab := ab) (col := col) (dd := dd) (k0 := k0) (k1 := k1) (k2 := k2) (k3 := k3) (k5 := k5)
    PySem.F.excBase_ValueError (mN := mN) (T.hasType PySem.F.excBase_ValueError.hasBase) (I.ok.hd rfl) (by rw [ha.all.st]; exact back_any _ _ _) hni (ld_glob I hg Z.at_ ⟨rfl, ?_⟩ hd)
  have he := ha.all.he ha.tl
  have hsp := ha.all.pa cpos pins s1 σ H1 _ I h
  rw [he] at hsp ⊢
  refine Calls.evalArgs_plain (wpAny_mono hsp (fun us s2 h2 => ?_) fun _ _ y => y)
  obtain ⟨vs, H2, I2, rv, hlen, hE⟩ := h2
  refine ⟨rfl, by rw [← rv.length]; exact hlen, I2.bk _ _ hC, hN.keeps I2.bk, T.keeps I2.bk, fun h' ea hx => ?_⟩
  have fr := I2.stack
  have hin : ∀ env ∈ (cxOf (CXF P w) P w K mg base N qual scope f cd A outer s H E).stack, ∀ b, env.frame = some b → b ∈ frs (cxOf (CXF P w) P w K mg base N qual scope f cd A outer s H E).stack := fun env he b hb => List.mem_filterMap.mpr ⟨env, he, hb⟩
  refine wpAny_leaves_madeW (base := hideAll s2.heap (frs (cxOf (CXF P w) P w K mg base N qual scope f cd A outer s H E).stack)) (h := s2.heap) I2.ok.frames rfl (fun b o q => of_hideAll _ q) (funFrames_hide fr hin) hx fun h2 tt fl _ _ sm => ?_
  refine ⟨ea, .ref C, H2, rfl, I2.os, I2.bare, ⟨_, _, s2.heap, [s.heap.objs.size], fl, I2.base, I2.hok, fun b o ho hb hL => hideAll_get _ ho fun hm => ?_, fun L z => by rw [List.mem_singleton.mp z]; exact ⟨Heap.get?_none_of_le (Nat.le_refl _), I2.free⟩, (Heap.UpToSlots.of_keeps hx.keeps).trans sm, hx.new⟩, ?_, hE⟩
  · have hm' : b ∈ s.heap.objs.size :: frs outer := hm
    rcases List.mem_cons.mp hm' with z | z
    · exact hL (List.mem_singleton.mpr z)
    · exact hb z
  · cases q : H2 ea with
    | none => rfl
    | some u =>
      obtain ⟨o, ho⟩ := obj_at (I2.hok ea u q)
      have hn := hx.new
      rw [ho] at hn; cases hn
end
end L2

namespace L2
open PySem PySem.Spec PyProof.Rows PySem.W
/-! ### a def that may raise -/
section
variable {P : Program} {w : World} {K : PySem.W.Frag} {mg : Str → Option Value} {base : Heap}
theorem Fun.okX {x qual : Str} {st : Stmt} {f : Addr} {fd : FuncData} {N ps : List Str} {k : Nat} {sp : Sp} (F : Fun K x qual st f fd) (S : FnScope N ps (defScope st)) (len : ∀ vs H Q E, sp vs H Q E → vs.length = ps.length)
    (hbody : ∀ (cdv : Value) (A : Around) (outer : List Env) (s : Shared) (H : Hp) (vs : List V) (Q : VK) (E : XK), Room k (A.deeper (envOfC qual (defScope st) s.heap.objs.size f cdv)) → sp vs H Q E →
      ∃ t, PSs (cxOf (CXF P w) P w K mg base N qual (defScope st) f cdv A outer s H E) (defBody st) t ∧ t { nx := fun _ H' => Q .non H', rt := Q } (start N vs) H) : FnOk P w K mg base (CXF P w) (k + 1) f fd ps sp := by
  obtain ⟨oc, od, kV, doc, pm, an, cdv, ct, osl, rfl, lk, hcd⟩ := F.ex
  exact fn_of lk hcd S len fun A outer s H vs Q E hr hsp => hbody cdv A outer s H vs Q E hr hsp
end
structure CalleeMX (P : Program) (w : World) (K : PySem.W.Frag) (mg : Str → Option Value) (base : Heap) (k : Nat) (C : Addr) (m : Str) (ps : List Str) (sp : Sp) : Prop where
  ex : ∃ f fd, FnOk P w K mg base (CXF P w) k f fd ps sp ∧ Meth K C m f ∧ Binds K fd ps []
section
variable {X : Cx} {k : Nat} {C : Addr} {m x : Str} {ps : List Str} {sp : Sp} {o e : Expr} {es : List Expr} {ta tv : TE} {t : TA} {p apos pos pos' : Pos} {E : XK}
theorem as_methX {pl : Sem Bool} (M : CalleeMX X.prog X.w X.K X.mg X.base k C m ps sp) (c : Cls X.K C) (hr : Room k X.A) (hx : Passes (CXF X.prog X.w) X E) (he : PE X o ta) (ha : PAt X e es t)
    (ht : eval (.Call (.Attribute o m apos) (e :: es) [] pos) X.env = (do
      let ov ← eval o X.env
      standAt apos.atName
      let (f, first) ← holding [ov] (getMethod ov m pl)
      callWith pos f first (backTo pos (starEach (e :: es) X.env)) (backToKw pos (keywordEach [] X.env))) := by rfl) :
    PE X (.Call (.Attribute o m apos) (e :: es) [] pos) (tMeth C m sp [] E ta t) := by
  obtain ⟨f, fd, F, hm, hb⟩ := M.ex
  exact pe_meth (pl := pl) he c hm F hr hb .nil hx ha.all.pa (ha.all.he ha.tl) (by rw [ha.tl]; exact back_any _ _ _) ht
end
/-- an exception of a callee leaves a def that may raise as its own -/
theorem pass_on {P : Program} {w : World} {K : PySem.W.Frag} {mg : Str → Option Value} {base : Heap} {N : List Str} {qual : Str} {scope : Scope} {f : Addr} {cd : Value} {A : Around} {outer : List Env} {s : Shared} {H : Hp} {E : XK} :
    Passes (CXF P w) (cxOf (CXF P w) P w K mg base N qual scope f cd A outer s H E) E := by
  intro pins σ H1 s1 e s2 I h
  obtain ⟨a, cls, H2, rfl, os, bare, ⟨B, a0, hr, Ls, fl, un, hok, cov, hL, sm, han⟩, ha, hE⟩ := h
  have hfH : ∀ b ∈ frs (cxOf (CXF P w) P w K mg base N qual scope f cd A outer s H E).stack, H2 b = none := fun b hb => by
    obtain ⟨_, o, ho, _⟩ := I.stack.mem hb
    exact un.free b o ho (I.stkFree b hb) (by simp)
  have I2 := I.call (ch := []) (g' := s2.gens) (d' := s2.drawn) (t' := s2.toks) un hok bare (fun b z => absurd z (by simp))
  have fl' : Heap.FlyingW B (envOfC qual scope s.heap.objs.size f cd :: outer) a cls a0 s2.heap := fl
  refine wpAny_leaves_onW (env := envOfC qual scope s.heap.objs.size f cd) (outer := outer) I.ok.frames rfl fl' fun h' fl2 sm2 => ?_
  refine ⟨a, cls, H2, rfl, os.trans I.os, bare, ⟨B, a0, hr, s.heap.objs.size :: Ls, fl2, I2.base, hok, fun b o ho hb hL2 => ?_, fun L z => ?_, sm.trans sm2, han⟩, ha, hE⟩
  · refine cov b o ho (fun hm => ?_) fun z => hL2 (List.mem_cons_of_mem _ z)
    have hm' : b ∈ s.heap.objs.size :: frs outer := hm
    rcases List.mem_cons.mp hm' with z | z
    · exact hL2 (by rw [z]; exact List.mem_cons_self)
    · exact hb z
  · rcases List.mem_cons.mp z with z | z
    · rw [z]; exact ⟨Heap.get?_none_of_le (Nat.le_refl _), I2.free⟩
    · refine ⟨?_, (hL L z).2⟩
      cases q : s.heap.get? L with
      | none => rfl
      | some o =>
        obtain ⟨o', e'⟩ := I.base.there L o q (fun y => by cases (show L ∈ ([] : List Addr) from y))
        rw [(hL L z).1] at e'; cases e'
/-! ### contexts within try -/
abbrev Cx.tries (X : Cx) (pn : List (Addr × Obj)) (xe : Value → Shared → Prop) : Cx := { X with pn := pn, xe := xe }
abbrev Cx.held (X : Cx) (e : Value) : Cx := { X with A := X.A.mark (some e), calm := false, xe := fun _ _ => False }
section
variable {X : Cx} {pins : List (Addr × Obj)} {σ : St} {H H' : Hp} {s : Shared} {xe : Value → Shared → Prop} {e : Value}
theorem Inv.tries (I : Inv X pins σ H s) : Inv (X.tries (X.pn ++ pins) xe) [] σ H s :=
  ⟨⟨I.ok.mod, I.ok.kind, I.ok.glob, I.ok.blt, I.ok.above, I.ok.inj, I.ok.has, I.ok.cab, I.ok.hd, I.ok.frames, I.ok.stk, I.ok.exf, I.ok.bs, I.ok.bsz, I.ok.noex, I.ok.exfs, I.ok.funs, I.ok.frf⟩, I.os, I.bare, I.base, I.loc, I.cell, I.free, I.freeC,
    fun p hp => I.pin p (by rw [List.append_nil] at hp; exact hp), I.hok, I.len⟩
theorem Inv.untries {pins' : List (Addr × Obj)} (I : Inv (X.tries (X.pn ++ pins) xe) pins' σ H s) : Inv X pins σ H s :=
  ⟨⟨I.ok.mod, I.ok.kind, I.ok.glob, I.ok.blt, I.ok.above, I.ok.inj, I.ok.has, I.ok.cab, I.ok.hd, I.ok.frames, I.ok.stk, I.ok.exf, I.ok.bs, I.ok.bsz, I.ok.noex, I.ok.exfs, I.ok.funs, I.ok.frf⟩, I.os, I.bare, I.base, I.loc, I.cell, I.free, I.freeC,
    fun p hp => I.pin p (List.mem_append_left _ hp), I.hok, I.len⟩
theorem Inv.held (I : Inv X pins σ H s) : Inv (X.held e) pins σ H s :=
  ⟨⟨I.ok.mod, I.ok.kind, I.ok.glob, I.ok.blt, I.ok.above, I.ok.inj, I.ok.has, I.ok.cab, (fun z => by cases z), I.ok.frames, I.ok.stk, I.ok.exf, I.ok.bs, I.ok.bsz, I.ok.noex, I.ok.exfs, I.ok.funs, I.ok.frf⟩, I.os, I.bare, I.base, I.loc, I.cell, I.free, I.freeC, I.pin, I.hok, I.len⟩
theorem Inv.unheld (I : Inv (X.held e) pins σ H s) (hd : X.calm = true → X.A.handled = none) : Inv X pins σ H s :=
  ⟨⟨I.ok.mod, I.ok.kind, I.ok.glob, I.ok.blt, I.ok.above, I.ok.inj, I.ok.has, I.ok.cab, hd, I.ok.frames, I.ok.stk, I.ok.exf, I.ok.bs, I.ok.bsz, I.ok.noex, I.ok.exfs, I.ok.funs, I.ok.frf⟩, I.os, I.bare, I.base, I.loc, I.cell, I.free, I.freeC, I.pin, I.hok, I.len⟩
/-- an object that was not there at the entry is tracked -/
theorem Inv.trackN {D : Addr} {o : HO} (I : Inv X pins σ H s) (hn : H D = none) (h0 : X.s₀.heap.get? D = none) (hL : D ≠ X.env.locals) (hc : ∀ x c, X.env.cells.lookup x = some c → c ≠ D) (hp : ∀ p ∈ X.pn ++ pins, p.1 ≠ D) (ok : ObjOk X.prog X.w (upd H D o) s.heap D o) :
    Inv X pins σ (upd H D o) s := by
  refine ⟨I.ok, I.os, I.bare, ⟨I.base.keep, I.base.slot, fun b u e n hx => ?_, I.base.there, fun b xs q => ?_, fun b u xs q => ?_, fun b ps q => ?_⟩, I.loc, I.cell, ?_, fun x c e => ?_, fun p h => ?_, fun b u e => ?_, I.len⟩
  · rw [upd_ne (fun z => by rw [z, h0] at e; cases e)]; exact I.base.free b u e n hx
  · have := I.base.tups b xs q
    rw [upd_ne (ne_of_none this hn)]; exact this
  · have := I.base.frzs b u xs q
    rw [upd_ne (ne_of_none this hn)]; exact this
  · obtain ⟨more, e⟩ := I.base.tbls b ps q
    exact ⟨more, by rw [upd_ne (ne_of_none e hn)]; exact e⟩
  · rw [upd_ne (Ne.symm hL)]; exact I.free
  · rw [upd_ne (hc x c e)]; exact I.freeC x c e
  · obtain ⟨a, b, c⟩ := I.pin p h
    exact ⟨a, by rw [upd_ne (hp p h)]; exact b, c⟩
  · by_cases hb : b = D
    · subst hb; rw [upd_same] at e; cases e; exact ok
    · rw [upd_ne hb] at e
      exact (I.hok b u e).stay (fun _ _ _ q => q) (fun c q => by rw [upd_ne (ne_of_none q hn)]; exact q) fun c xs q => by rw [upd_ne (ne_of_none q hn)]; exact q
/-- a name has gone: nothing is known of the names -/
theorem Inv.gone {h' : Heap} {m' : Str → Option Value} {t' : Nat} (I : Inv X pins σ H s) (hn' : h'.Ns X.env.locals m') (hs : Heap.SameBut X.env.locals s.heap h') : Inv X pins (List.replicate X.N.length none) H { s with heap := h', toks := t' } := by
  have ne : ∀ b o, X.s₀.heap.get? b = some o → b ≠ X.env.locals := fun b o e => Nat.ne_of_lt (Nat.lt_of_lt_of_le (Heap.lt_size e) I.ok.above)
  refine ⟨I.ok, I.os, I.bare, ⟨fun b o e n hb hx => (hs.2 b (ne b o e)).trans (I.base.keep b o e n hb hx), fun b o e n hb hx => ?_, I.base.free, fun b o e hx => ?_, I.base.tups, I.base.frzs, I.base.tbls⟩, ⟨_, hn', fun j y v' e1 e2 e3 => ?_⟩, fun y c e => ?_, I.free, I.freeC, fun p hp => ?_, fun b u e => ?_, by simp⟩
  · obtain ⟨sl, e1⟩ := I.base.slot b o e n hb hx
    exact ⟨sl, (hs.2 b (ne b o e)).trans e1⟩
  · obtain ⟨o', e1⟩ := I.base.there b o e hx
    exact ⟨o', (hs.2 b (ne b o e)).trans e1⟩
  · rw [List.getElem?_replicate] at e2
    split at e2 <;> cases e2
  · obtain ⟨w', z⟩ := I.cell y c e
    exact ⟨w', z.sameBut hs (I.cne y c e)⟩
  · obtain ⟨e, n, ne', nf, d⟩ := I.pin p hp
    exact ⟨(hs.2 p.1 ne').trans e, n, ne', nf, d⟩
  · refine (I.hok b u e).stay (fun c w' hc q => (hs.2 c ?_).trans q) (fun _ q => q) fun _ _ q => q
    rintro rfl
    have hfree := I.free
    rcases hc with rfl | hc
    · rw [hfree] at e; cases e
    · rw [hfree] at hc; cases hc
end
/-! ### try: .. except C as n: .. -/
def ExcO (a : Addr) (cls : Value) : HO := .ext fun h => ∃ o, h.get? a = some o ∧ o.cls = cls
def tTryAs (K : PySem.W.Frag) (C : Addr) (E : XK) (i len : Nat) (tb ts : TS) : TS := fun D σ H => tb D σ H ∧ ∀ cls a H', E cls none H' → H' a = none → PySem.W.exmOne K cls (.ref C) = some true ∧
  ts { nx := fun _ H2 => D.nx (List.replicate len none) H2, rt := D.rt, bk := fun _ H2 => D.bk (List.replicate len none) H2, ct := fun _ H2 => D.ct (List.replicate len none) H2 } ((List.replicate len none).set i (some (.ref a))) (upd H' a (ExcO a cls))
section
variable {X : Cx} {body : List Stmt} {x n : Str} {b0 : Stmt} {suite : List Stmt} {np hpos pos : Pos} {tb ts : TS} {E : XK} {i : Nat} {C : Addr}
theorem ps_tryAs (K : PySem.W.Frag) (hb : ∀ pn xe, Passes (CXF X.prog X.w) (X.tries pn xe) E → PSs (X.tries pn xe) body tb) (hm : X.mg x = some (.ref C)) (hs : ∀ a, PSs (X.held (.ref a)) (b0 :: suite) ts) (hN : X.N.Nodup) (hi : X.N[i]? = some n) (hl : X.env.kindOf n = some .local)
    (hst : X.stack = X.env :: X.outer) (hfr : X.env.frame = some X.env.locals) (hex : X.ex = []) (hK : X.K = K := by rfl) (hg : Gl X x := by rfl) (hd : (x == ("__debug__" : Str)) = false := by decide) :
    PS X (.Try body [.ExceptHandler (some (.Name x np)) (some n) (b0 :: suite) hpos] [] [] pos) (tTryAs K C E i X.N.length tb ts) := by
  subst hK
  intro pins s σ H D I h
  obtain ⟨h1, h2⟩ := h
  have hp : Passes (CXF X.prog X.w) (X.tries (X.pn ++ pins) fun e s' => ∃ σ0 H0 s0, Inv X pins σ0 H0 s0 ∧ CXF X.prog X.w X.stack H0 s0 E e s') E := fun pins' σ' H' s' e s'' I' c => ⟨σ', H', s', I'.untries, c⟩
  have B := hb _ _ hp [] s σ H D I.tries h1
  refine wpAny_Try_except (wpAny_mono B (fun f s1 q => ?_) (fun e s1 q => ?_))
  · cases f with
    | next => obtain ⟨σ', H', I', q'⟩ := q; exact wpAny_execs_nil ⟨σ', H', I'.untries, q'⟩
    | brk => obtain ⟨σ', H', I', q'⟩ := q; exact ⟨σ', H', I'.untries, q'⟩
    | cont => obtain ⟨σ', H', I', q'⟩ := q; exact ⟨σ', H', I'.untries, q'⟩
    | ret u => obtain ⟨v, σ', H', I', r, q'⟩ := q; exact ⟨v, σ', H', I'.untries, r, q'⟩
  · obtain ⟨σ0, H0, s0, I0, a, cls, H', rfl, os, bare, ⟨B', a0, hr, Ls, fl, un, hok, cov, hL, sm, han⟩, ha, hE⟩ := q
    obtain ⟨hh, g, d, t, os'⟩ := s1
    obtain rfl : os' = s0.os := os
    have gone0 : ∀ b o, s0.heap.get? b = some o → b ≠ a := fun b o e z => by
      obtain ⟨o', e'⟩ := un.there b o e (by simp)
      rw [z, han] at e'; cases e'
    have fl' : Heap.FlyingW B' (X.env :: X.outer) a cls a0 hh := by rw [← hst]; exact fl
    refine wpAny_looks_onW (by rw [I0.ok.frames, hst]) hfr fl' fun h4 held4 sm4 => ?_
    refine wpAny_landsW held4 fun h5 fl5 sm5 => ?_
    have sm5' := sm.trans (sm4.trans sm5)
    have I5 := (I0.flown (g' := g) (d' := d) (t' := t) un hok cov hL fl5.1 sm5' bare).held (e := .ref a)
    obtain ⟨hx1, hsu⟩ := h2 cls a H' hE ha
    refine wpAny_handleBy_cons (codeAny_handlers_test (ld_glob (X := X.held (.ref a)) I5 hg hm ?_ hd)) (by intro q; cases q)
    obtain ⟨ob, hob, hobc⟩ := fl5.there
    have LT : Looks (model X.prog X.w) h5 (typeOf (.ref a)) cls := by rw [← hobc]; exact (Looks.ld hob).andThen .now
    refine (exm_one I5.kIn LT hx1).here ?_
    show codeAny _ _ _ _ _
    refine codeAny_handlers_suite_as ?_
    refine lands_againW fl5 fun h6 fl6 sm6 => ?_
    have sm6' := sm5'.trans sm6
    have I6 := (I0.flown (g' := g) (d' := d) (t' := t) un hok cov hL fl6.1 sm6' bare).held (e := .ref a)
    obtain ⟨ob6, hob6, hobc6⟩ := fl6.there
    have I7 := I6.weak (σ' := List.replicate X.N.length none) (by rw [List.length_replicate]; exact I6.len.symm) (fun j v z => by rw [List.getElem?_replicate] at z; split at z <;> cases z)
    have s0n : X.s₀.heap.get? a = none := by
      cases q : X.s₀.heap.get? a with
      | none => rfl
      | some o =>
        obtain ⟨o', e'⟩ := I0.base.there a o q (by rw [hex]; simp)
        exact absurd rfl (gone0 a o' e')
    have I8 := I7.trackN (D := a) (o := ExcO a cls) ha s0n (by
        obtain ⟨m, ⟨o, _, _, ho, _⟩, _⟩ := I0.loc
        exact (gone0 _ o ho).symm)
      (fun y c e => by
        obtain ⟨v, o, ho, _⟩ := I0.cell y c e
        exact gone0 _ o ho)
      (fun p hp => gone0 _ _ (I0.pin p hp).1)
      ⟨⟨ob6, hob6, hobc6⟩, ⟨ob6, hob6⟩, fun g1 g2 ⟨o, e1, e2⟩ k => ⟨o, k o e1, e2⟩⟩
    refine store_ok (X := X.held (.ref a)) I8 hN hi (.inl hl) (v := .ref a) rfl (fun s9 I9 => ?_) (.inr hl)
    refine wpAny_mono (hs a pins s9 _ _ _ I9 hsu) (fun f s10 q => ?_) (fun _ _ z => z.elim)
    have hcl : (X.env.scope.kind == .class || (X.env.scope.kind == .module && X.env.locals != X.env.globals)) = false := by rw [I.ok.kind]; rfl
    cases f with
    | next =>
      obtain ⟨σ', H2, I10, q'⟩ := q
      obtain ⟨m, hn, _⟩ := I10.loc
      exact wpAny_nameGoes hl hn hcl fun h11 m11 hn11 sb => ⟨_, H2, (I10.unheld I.ok.hd).gone hn11 sb, q'⟩
    | brk =>
      obtain ⟨σ', H2, I10, q'⟩ := q
      obtain ⟨m, hn, _⟩ := I10.loc
      exact wpAny_nameGoes hl hn hcl fun h11 m11 hn11 sb => ⟨_, H2, (I10.unheld I.ok.hd).gone hn11 sb, q'⟩
    | cont =>
      obtain ⟨σ', H2, I10, q'⟩ := q
      obtain ⟨m, hn, _⟩ := I10.loc
      exact wpAny_nameGoes hl hn hcl fun h11 m11 hn11 sb => ⟨_, H2, (I10.unheld I.ok.hd).gone hn11 sb, q'⟩
    | ret u =>
      obtain ⟨v, σ', H2, I10, r, q'⟩ := q
      obtain ⟨m, hn, _⟩ := I10.loc
      exact wpAny_nameGoes hl hn hcl fun h11 m11 hn11 sb => ⟨v, _, H2, (I10.unheld I.ok.hd).gone hn11 sb, r, q'⟩
end
end L2

namespace L2
open PySem PySem.Spec PyProof.Rows PySem.W
/-! ### a def that is called within an except suite -/
structure RoomH (k : Nat) (A : Around) : Prop where
  dp : A.depth + 3 * k + 5 < recursionLimit
  un : A.units + 16 * k + 200 < cLine
theorem RoomH.mono {j k : Nat} {A : Around} (r : RoomH k A) (h : j ≤ k) : RoomH j A := ⟨by have := r.dp; omega, by have := r.un; omega⟩
theorem RoomH.deeper {k : Nat} {A : Around} (r : RoomH (k + 1) A) (env : Env) : RoomH k (A.deeper env) := ⟨by have := r.dp; show A.depth + 1 + 3 * k + 5 < _; omega, by have := r.un; show A.units + 3 + 16 * k + 200 < _; omega⟩
theorem RoomH.depth {k : Nat} {A : Around} (r : RoomH k A) : A.depth < recursionLimit := by have := r.dp; omega
theorem RoomH.units {k : Nat} {A : Around} (r : RoomH k A) : A.units + 64 < cLine := by have := r.un; omega
theorem RoomH.units0 {k : Nat} {A : Around} (r : RoomH k A) : A.units < cLine := by have := r.un; omega
theorem Room.h {k : Nat} {A : Around} (r : Room k A) (e : Value) : RoomH k (A.mark (some e)) := ⟨r.dp, r.un⟩
section
variable {P : Program} {w : World} {K : PySem.W.Frag} {mg : Str → Option Value} {base : Heap}
end
section
variable {X : Cx} {CX : CXT} {k : Nat} {f C : Addr} {fd : FuncData} {ps : List Str} {sp : Sp} {dvs : List V} {ds : List Value} {E : XK} {x m : Str} {p pos apos : Pos} {e o : Expr} {es : List Expr} {ta : TE} {t : TA}

end
end L2

namespace L2
open PySem PySem.Spec PySem.Calls PyProof.Rows PySem.W Builtin Builtin.ObjectAttr Builtin.Getset_descriptor
/-! ### isinstance of an exception of one's own -/
/-- what the text has of such a class -/
structure ExcCls (K : PySem.W.Frag) (C : Addr) : Prop where
  ga : PySem.W.findIn K (.ref C) "__getattribute__" = some (some (.builtin "BaseException.__getattribute__"))
  cl : PySem.W.findIn K (.ref C) "__class__" = some (some (.builtin "object.__class__"))
  no : PySem.W.findIn K (.ref C) "__getattr__" = some none
  ob : PySem.W.mroIn K C (.type "object") = some true
  be : PySem.W.mroIn K C (.type "BaseException") = some true
  ty : PySem.W.hasDictIn K C = true
section
variable {prog : Program} {w : World} {A : Around} {E : Value → Shared → Prop} {h : Heap} {g : Array GenState} {d : Drawn} {t : Nat} {os : OsState} {K : PySem.W.Frag} {C a : Addr} {o : Obj}
theorem ex_get {R : Result → Shared → Prop} {tp : Value} (Z : ExcCls K C) (X : K.In h) (ho : h.get? a = some o) (hc : o.cls = .ref C) (hq : R (.ok (.ret (.ref C))) ⟨h, g, d, t, os⟩) :
    codeAny (model prog w) A (.call (.builtin "getset_descriptor.__get__") ⟨[.builtin "object.__class__", .ref a, tp], []⟩) R ⟨h, g, d, t, os⟩ := by
  have L0 : Looks (model prog w) h (typeOf (.ref a)) (.ref C) := hc ▸ (Looks.ld ho).andThen .now
  have L1 := looks_mroIn (M := model prog w) X Z.ob
  refine codeAny_call_builtin (KF.slot_gs).plain (KF.entry_gs) (KF.slot_gs.check _ _ _ _ _ _ _ _ (KF.type_class) (KF.args_gs (.builtin "object.__class__") (.ref a) tp) ?_)
  unfold Builtin.«getset_descriptor.__get__» descrGet; rw [dga_obj]
  refine wpAny_bind (wpAny_pure ?_); unfold descrGetter descrCheckInstance descrNameAndClass isInstance; simp only [KF.owner_class]; repeat lk
  refine ⟨Code.quiet_builtin _ (by decide +kernel), codeAny_builtin (KF.entry_class) ?_⟩; unfold Builtin.«object.__class__» shownTypeOf; repeat lk
  exact hq
theorem ex_entry {tk : Tok} {Q : Fin → Shared → Prop} (Z : ExcCls K C) (X : K.In h) (ho : h.get? a = some o) (hc : o.cls = .ref C) (hq : Q (.done (.ret (.ref C))) ⟨h, g, d, t, os⟩) :
    wpAny (model prog w) A (Builtin.«object.__getattribute__» ⟨[.ref a, .str "__class__" tk], []⟩) Q E ⟨h, g, d, t, os⟩ := by
  have L0 : Looks (model prog w) h (typeOf (.ref a)) (.ref C) := hc ▸ (Looks.ld ho).andThen .now
  have L1 := looks_findIn (M := model prog w) X Z.cl
  have hT5 : (⟨h, g, d, t, os⟩ : Shared).TypeIs (.builtin "object.__class__") "getset_descriptor" := F.typeOf_object_class
  have f5 := F.typeOf_object_class
  have f6 := F.slot_gs_get.lookup
  have f7 := F.slot_gs_set.lookup
  repeat (any_goals (first | assumption | (with_reducible refine wpAny_loadPart_at ho ?_; rw [hc]) | with_reducible refine L1.at ?_ | wp_step))
  refine ex_get Z X ho hc ?_
  repeat (any_goals (first | assumption | wp_step))
theorem ex_check {M : Model} {nameV : Value} {Q : Unit → Shared → Prop} (Z : ExcCls K C) (X : K.In h) (ho : h.get? a = some o) (hc : o.cls = .ref C) (hq : Q () ⟨h, g, d, t, os⟩) :
    wpAny M A (checkBuiltinCall "BaseException.__getattribute__" ⟨[.ref a, nameV], []⟩) Q E ⟨h, g, d, t, os⟩ := by
  have L0 : Looks M h (typeOf (.ref a)) (.ref C) := hc ▸ (Looks.ld ho).andThen .now
  have L1 := looks_mroIn (M := M) X Z.be
  have k1 : builtinKind "BaseException.__getattribute__" = some .slot := by decide +kernel
  have k2 : splitId "BaseException.__getattribute__" = some ("BaseException", "__getattribute__") := by decide +kernel
  have k3 := F.args_bexc_ga (.ref a) nameV
  simp only [checkBuiltinCall, k1, k2]
  refine wpAny_bind ?_
  unfold isInstance
  repeat (first | lk | wp_step)
  exact hq
theorem ex_call {tk : Tok} {R : Result → Shared → Prop} (Z : ExcCls K C) (X : K.In h) (ho : h.get? a = some o) (hc : o.cls = .ref C) (hq : R (.ok (.ret (.ref C))) ⟨h, g, d, t, os⟩) :
    codeAny (model prog w) A (.call (.builtin "BaseException.__getattribute__") ⟨[.ref a, .str "__class__" tk], []⟩) R ⟨h, g, d, t, os⟩ :=
  codeAny_call_builtin PySem.F.attr_ValueError.ga.plain F.entry_bexc_ga (ex_check Z X ho hc (ex_entry Z X ho hc hq))
theorem ex_by {tk : Tok} {Q : Value → Shared → Prop} (Z : ExcCls K C) (X : K.In h) (ho : h.get? a = some o) (hc : o.cls = .ref C) (hq : Q (.ref C) ⟨h, g, d, t, os⟩) :
    wpAny (model prog w) A (getAttrBy (.ref a) (.str "__class__" tk) false) Q E ⟨h, g, d, t, os⟩ := by
  have L0 : Looks (model prog w) h (typeOf (.ref a)) (.ref C) := hc ▸ (Looks.ld ho).andThen .now
  have L1 := looks_findIn (M := model prog w) X Z.ga
  have L2 := looks_findIn (M := model prog w) X Z.no
  have f3 := PySem.F.attr_ValueError.ga.bind (.ref a)
  repeat (any_goals (first | assumption | with_reducible refine L0.at ?_ | with_reducible refine L1.at ?_ | with_reducible refine L2.at ?_ | (with_reducible refine wpAny_loadPart_at ho ?_; rw [hc]) | wp_step))
  refine ex_call Z X ho hc ?_
  repeat (any_goals (first | assumption | wp_step))
theorem ex_attr {Q : Option Value → Shared → Prop} (Z : ExcCls K C) (X : K.In h) (ho : h.get? a = some o) (hc : o.cls = .ref C) (hq : Q (some (.ref C)) ⟨h, g, d, t + 1, os⟩) : wpAny (model prog w) A (getAttr? (.ref a) "__class__") Q E ⟨h, g, d, t, os⟩ := by
  unfold getAttr? getAttrBy?
  repeat (any_goals (first | assumption | with_reducible apply ex_by Z X ho hc | wp_step))
theorem cls_at {K : PySem.W.Frag} {C : Addr} (e : PySem.W.hasDictIn K C = true) : ∃ c dd cd sl, K.lookup C = some ⟨c, dd, .cls cd, sl⟩ := by
  obtain ⟨cd, h, _⟩ := any_some e
  unfold clsIn at h
  split at h
  · rename_i q; exact ⟨_, _, _, _, q⟩
  · cases h
theorem kitx_exc (Z : ExcCls K C) : KitX K (.ref a) (.ref C) (fun h => ∃ o, h.get? a = some o ∧ o.cls = .ref C) where
  ty := fun M h _ ⟨o, ho, hc⟩ => hc ▸ (Looks.ld ho).andThen .now
  it := fun M h X _ => by
    obtain ⟨c, dd, cd, sl, q⟩ := cls_at Z.ty
    intro A Q E s k z
    unfold isType loadHead
    exact wpAny_bind (wpAny_loadPart (k _ _ (X _ _ q)) (wpAny_pure z))
  ne := fun h tp dd its n sl X htp => by
    obtain ⟨c, dd', cd, sl', q⟩ := cls_at Z.ty
    refine Bool.eq_false_iff.mpr fun z => ?_
    have e : C = tp := Value.ref.inj (beq_iff_eq.mp z)
    have w := X _ _ q
    rw [e, htp] at w
    cases w
  ca := fun {prog w A E Q s} X p k => by
    obtain ⟨h, g, d, t, os⟩ := s
    obtain ⟨o, ho, hc⟩ := p
    exact ex_attr Z X ho hc k
end
/-- isinstance(e, c) of an exception of the class at C -/
def rIsiX (K : PySem.W.Frag) (c : Value) : List V → Hp → VK → Prop := fun xs H Q => ∃ a C cv k, xs = [.ref a, cv] ∧ RelV cv c ∧ H a = some (ExcO a (.ref C)) ∧ ExcCls K C ∧ PySem.W.kitOne K (.ref C) c = some k ∧ Q (.bl k) H
section
variable {X : Cx}
theorem call_isiX {c : Value} (hu : ∀ cv u, RelV cv c → RelV cv u → u = c) : CallR X (.builtin "isinstance") (rIsiX X.K c) := by
  intro pins s σ H xs us Q I r h
  obtain ⟨a, C, cv, k, rfl, rc, ha, Z, e, q⟩ := h
  obtain ⟨u, u2, rfl, ru, rc2⟩ := r.two
  obtain rfl := hu cv u2 rc rc2
  cases (show u = Value.ref a from ru)
  obtain ⟨p, _, _⟩ := (show ObjOk X.prog X.w H s.heap a (ExcO a (.ref C)) from I.hok a _ ha)
  exact kia_one (kitx_exc Z) I.kIn p e (fun z => nomatch z) fun tk => ⟨.bl k, H, I.tok _, rfl, q⟩
theorem k_isiX (K : PySem.W.Frag) {c : Value} (hu : ∀ cv u, RelV cv c → RelV cv u → u = c) (h : X.K = K := by rfl) : CallR X (.builtin "isinstance") (rIsiX K c) := h ▸ call_isiX hu
theorem ref_one {C : Addr} : ∀ cv u, RelV cv (.ref C) → RelV cv u → u = .ref C := by
  intro cv u h1 h2
  cases cv with
  | ref m =>
    have e1 : Value.ref C = Value.ref m := h1
    have e2 : u = Value.ref m := h2
    rw [e2, e1]
  | non => cases (show Value.ref C = Value.none from h1)
  | bl b => cases (show Value.ref C = Value.bool b from h1)
  | int i => obtain ⟨t, e⟩ := (show ∃ t, Value.ref C = Value.int i t from h1); cases e
  | str x => obtain ⟨t, e⟩ := (show ∃ t, Value.ref C = Value.str x t from h1); cases e
  | byt x => obtain ⟨t, e⟩ := (show ∃ t, Value.ref C = Value.bytes x t from h1); cases e
  | flt x => obtain ⟨t, e⟩ := (show ∃ t, Value.ref C = Value.float x t from h1); cases e
  | ty n => cases (show Value.ref C = Value.type n from h1)
/-! ### bs.count(True), bs.index(True) -/
end
end L2

namespace L2
open PySem PySem.Spec PyProof.Rows PySem.W
/-! ### x in xs, x not in xs, of data -/
open Classical in
noncomputable def eqR (h : Heap) (d : PyData) (v : Value) : Bool := decide (∃ d' as, Reads h v d' as ∧ d'.canLay0 = true ∧ PyData.eqv d' d = true)
open Classical in
theorem eqR_of {h : Heap} {d d' : PyData} {v : Value} {as : List Addr} (r : Reads h v d' as) (c : d'.canLay0 = true) : eqR h d v = PyData.eqv d' d := by
  unfold eqR
  cases q : PyData.eqv d' d with
  | true => exact decide_eq_true ⟨d', as, r, c, q⟩
  | false =>
    refine decide_eq_false fun ⟨d2, as2, r2, c2, q2⟩ => ?_
    have e : d2 = d' := SeqAt.Reads.unique d2 d' v as2 as c2 r2 r
    rw [e, q] at q2; cases q2
def rInD (neg : Bool) : R2 := fun x y H Q => ∃ l xs d ds, y = .ref l ∧ H l = some (.lst xs) ∧ HasL H xs ds ∧ Has H x d ∧ SeqAt.shaped d = true ∧ (∀ e ∈ ds, SeqAt.shaped e = true) ∧ Q (.bl (if neg then !(ds.any fun e => PyData.eqv e d) else ds.any fun e => PyData.eqv e d)) H
theorem lay_of {d : PyData} (h : SeqAt.shaped d = true) : d.canLay0 = true := by
  unfold SeqAt.shaped at h
  exact (Bool.and_eq_true_iff.mp h).1
section
variable {X : Cx} {pins : List (Addr × Obj)} {σ : St} {H : Hp} {s : Shared}
theorem any_eqR (I : Inv X pins σ H s) {d : PyData} : ∀ {xs : List V} {ds : List PyData} {us : List Value}, HasL H xs ds → Vals xs us → (∀ e ∈ ds, SeqAt.shaped e = true) → us.any (eqR s.heap d) = ds.any fun e => PyData.eqv e d
  | xs, [], us, h, r, _ => by
    unfold HasL at h
    subst h
    cases Vals.zero r
    rfl
  | xs, e :: ds, us, h, r, c => by
    unfold HasL at h
    obtain ⟨x, rr, rfl, h2, h3⟩ := h
    cases r with
    | cons r1 r2 =>
      obtain ⟨as, a1⟩ := has_reads I h2 r1
      rw [List.any_cons, List.any_cons, any_eqR I h3 r2 (fun f hf => c f (List.mem_cons_of_mem _ hf)), eqR_of a1 (lay_of (c e List.mem_cons_self))]
theorem mem_eqR (I : Inv X pins σ H s) {A : Around} {d : PyData} {x : V} {v : Value} (hx : Has H x d) (rx : RelV x v) (sd : SeqAt.shaped d = true) (hu : A.units + 64 < cLine) : ∀ {xs : List V} {ds : List PyData} {us : List Value}, HasL H xs ds → Vals xs us → (∀ e ∈ ds, SeqAt.shaped e = true) →
    ∀ u ∈ us, SeqAt.EqAt A s u v (eqR s.heap d u)
  | xs, [], us, h, r, _ => by
    unfold HasL at h
    subst h
    cases Vals.zero r
    exact fun u hu => nomatch hu
  | xs, e :: ds, us, h, r, c => by
    unfold HasL at h
    obtain ⟨y, rr, rfl, h2, h3⟩ := h
    cases r with
    | cons r1 r2 =>
      intro u hm
      rcases List.mem_cons.mp hm with z | z
      · rw [z]
        obtain ⟨as, a1⟩ := has_reads I h2 r1
        obtain ⟨bs, a2⟩ := has_reads I hx rx
        rw [eqR_of a1 (lay_of (c e List.mem_cons_self))]
        exact SeqAt.eqAt_reads e d A s _ _ as bs a1 a2 (SeqAt.canLay_of_shaped (c e List.mem_cons_self)) (SeqAt.canLay_of_shaped sd) (SeqAt.room_of_shaped (c e List.mem_cons_self) hu)
      · exact mem_eqR I hx rx sd hu h3 r2 (fun f hf => c f (List.mem_cons_of_mem _ hf)) u z
theorem op_inD (hu : X.A.in1.units + 64 < cLine) : OpR X (compareOp .In) (rInD false) := by
  rintro pins s σ H x y v u Q I rx ry ⟨l, xs, d, ds, rfl, hl, hx, hd, sd, ss, q⟩
  cases ry
  obtain ⟨its, r, pl, hz⟩ := I.list (SqL.ofL hl)
  refine SeqAt.in_listAt (eqR s.heap d) pl.isList (fun w hw => mem_eqR I hd rx sd hu hx r ss w (by simpa using hw)) ⟨.bl _, H, I, rfl, ?_⟩
  rw [show its.toArray.any (eqR s.heap d) = its.any (eqR s.heap d) by simp, any_eqR I hx r ss]
  exact q
end
theorem Room.in1u {k : Nat} {A : Around} (r : Room k A) : A.in1.units + 64 < cLine := by have := r.un; show A.units + 1 + 64 < _; omega
theorem shaped_m {m : Msg} (h : mOk m) : SeqAt.shaped (mD m) = true := by
  obtain ⟨h1, h2⟩ := h
  have d : PyData.depth (mD m) ≤ 64 := by simp [mD, PyData.depth, PyData.depthAll]
  show (PyData.canLay0 (mD m) && decide (PyData.depth (mD m) ≤ 64)) = true
  rw [Bool.and_eq_true]
  exact ⟨by simp [mD, PyData.canLay0, PyData.canLayAll0, h1, h2], decide_eq_true d⟩
end L2
namespace L2
open PySem PySem.Spec PyProof.Rows PySem.W
/-! ### enumerate(xs) -/
section
variable {X : Cx} {pins : List (Addr × Obj)} {σ : St} {H : Hp} {s : Shared}
end
end L2
namespace L2
open PySem PySem.Spec PyProof.Rows PySem.W
section
variable {X : Cx} {e : Expr} {te : TE} {elts : List Expr} {k : Nat} {tpos p pos : Pos}
end
end L2

namespace L2
open PySem PySem.Spec PyProof.Rows PySem.W
/-! ### a teller that refuses -/
def sD (w : Str) (ms : List Msg) : PyData := .tuple [.str w, .list (ms.map mD)]
def sBad (r : Int) (all : List Msg) (t n : Int) : Prop := t > r ∨ n < 0 ∨ (t = r ∧ n > (all.length : Int))
instance (r : Int) (all : List Msg) (t n : Int) : Decidable (sBad r all t n) := by unfold sBad; exact inferInstance
/-- two of the same data, compared -/
theorem ne_D {H : Hp} {x y : V} {d : PyData} {Q : VK} (hx : Has H x d) (hy : Has H y d) (s : SeqAt.shaped d = true) (q : Q (.bl false) H) : rNeD x y H Q := by
  refine ⟨_, _, hx, hy, s, s, ?_⟩
  rw [SeqAt.eqv_refl _ (lay_of s)]; exact q
theorem eq_D {H : Hp} {x y : V} {d : PyData} {Q : VK} (hx : Has H x d) (hy : Has H y d) (s : SeqAt.shaped d = true) (q : Q (.bl true) H) : rEqD x y H Q := by
  refine ⟨_, _, hx, hy, s, s, ?_⟩
  rw [SeqAt.eqv_refl _ (lay_of s)]; exact q
end L2

namespace L2
open PySem PySem.Spec PyProof.Rows PySem.W
/-! ### steps: from a heap with the addresses ps of ours to one with ps' -/
structure Stp (ps : List Addr) (H : Hp) (ps' : List Addr) (H' : Hp) : Prop where
  but : But ps H H'
  tup : Tups H H'
  new : ∀ c ∈ ps', c ∈ ps ∨ H c = none
theorem Stp.free {ps ps' : List Addr} {H H' : Hp} (s : Stp ps H ps' H') {c : Addr} (h : H' c = none) (hc : c ∉ ps) : H c = none := by
  cases q : H c with
  | none => rfl
  | some o => rw [s.but c o q hc] at h; cases h
theorem Stp.free' {ps ps' : List Addr} {H H' : Hp} (s : Stp ps H ps' H') {c : Addr} (h : H' c = none) : c ∈ ps ∨ H c = none := by
  by_cases hc : c ∈ ps
  · exact .inl hc
  · exact .inr (s.free h hc)
theorem Stp.trans {ps ps' ps'' : List Addr} {H H' H'' : Hp} (s : Stp ps H ps' H') (t : Stp ps' H' ps'' H'') : Stp ps H ps'' H'' := by
  refine ⟨fun c o h hc => t.but c o (s.but c o h hc) fun hc' => ?_, s.tup.trans t.tup, fun c hc => ?_⟩
  · rcases s.new c hc' with z | z
    · exact hc z
    · rw [z] at h; cases h
  · rcases t.new c hc with z | z
    · exact s.new c z
    · exact s.free' z
theorem Stp.refl (ps : List Addr) (H : Hp) : Stp ps H ps H := ⟨fun _ _ h _ => h, Tups.refl H, fun _ h => .inl h⟩
theorem Same.step {H H' : Hp} (e : Same H H') (ps : List Addr) : Stp ps H ps H' := ⟨fun c o h _ => e c o h, e.tups, fun _ h => .inl h⟩
theorem Stp.weak {ps ps' qs qs' : List Addr} {H H' : Hp} (s : Stp ps H ps' H') (h : ∀ c ∈ ps, c ∈ qs) (h' : ∀ c ∈ qs', c ∈ ps' ∨ c ∈ qs) : Stp qs H qs' H' :=
  ⟨fun c o e hc => s.but c o e fun z => hc (h c z), s.tup, fun c hc => by
    rcases h' c hc with z | z
    · rcases s.new c z with y | y
      · exact .inl (h c y)
      · exact .inr y
    · exact .inl z⟩
theorem Stp.same {ps' : List Addr} {H H' : Hp} (s : Stp [] H ps' H') : Same H H' := fun c o h => s.but c o h List.not_mem_nil
theorem Stp.keep {ps ps' : List Addr} {H H' : Hp} (s : Stp ps H ps' H') {c : Addr} {o : HO} (h : H c = some o) (hc : c ∉ ps) : H' c = some o := s.but c o h hc
theorem Stp.out {ps ps' : List Addr} {H H' : Hp} (s : Stp ps H ps' H') {c : Addr} {o : HO} (h : H c = some o) (hc : c ∉ ps) : c ∉ ps' := fun z => by
  rcases s.new c z with y | y
  · exact hc y
  · rw [y] at h; cases h
theorem Stp.put {ps : List Addr} {H : Hp} {p : Addr} {u o : HO} (h : H p = some u) (hn : ∀ xs, u ≠ .tup xs) (hp : p ∈ ps) : Stp ps H ps (upd H p o) :=
  ⟨fun c o' e hc => by rw [upd_ne (fun z => hc (by rw [z]; exact hp))]; exact e, (Tups.refl H).put h hn, fun _ z => .inl z⟩
theorem Stp.make {ps : List Addr} {H : Hp} {p : Addr} {o : HO} (h : H p = none) : Stp ps H (p :: ps) (upd H p o) :=
  ⟨fun c o' e hc => by rw [upd_ne (ne_of_none e h)]; exact e, (Same.new h).tups, fun c z => by
    rcases List.mem_cons.mp z with rfl | z
    · exact .inr h
    · exact .inl z⟩
theorem Ms.step {ps ps' : List Addr} {H H' : Hp} {xs : List V} {ms : List Msg} (h : Ms H xs ms) (s : Stp ps H ps' H') : Ms H' xs ms := h.tups s.tup
theorem Stp.obj {H : Hp} {p dx : Addr} {o o' : HO} (np : H p = none) (nd : H dx = none) : Stp [] H [p] (upd (upd H dx o) p o') := by
  have e : Same H (upd (upd H dx o) p o') := fun b u h => by rw [upd_ne (ne_of_none h np), upd_ne (ne_of_none h nd)]; exact h
  exact ⟨fun c u h _ => e c u h, e.tups, fun c hc => by
    rw [List.mem_singleton] at hc
    rw [hc]; exact .inr np⟩
/-! ### a word between two statements -/
/-! ### lists of ints, compared -/
/-! ### slices -/
theorem cut_from {xs : List V} {t : Int} (h0 : 0 ≤ t) : cutV xs (some t) none = xs.drop t.toNat := by
  obtain ⟨k, rfl⟩ : ∃ k : Nat, t = (k : Int) := ⟨t.toNat, by omega⟩
  unfold cutV
  rw [HT.sIx_nat, HT.sIx_none, Int.toNat_natCast]
  rw [List.take_of_length_le (by rw [List.length_drop]; exact Nat.le_refl _)]
  by_cases h : k ≤ xs.length
  · rw [Nat.min_eq_left h]
  · rw [Nat.min_eq_right (by omega), List.drop_of_length_le (Nat.le_refl _), List.drop_of_length_le (by omega)]
theorem cut_to {xs : List V} {t : Int} (h0 : 0 ≤ t) : cutV xs none (some t) = xs.take t.toNat := by
  obtain ⟨k, rfl⟩ : ∃ k : Nat, t = (k : Int) := ⟨t.toNat, by omega⟩
  unfold cutV
  rw [HT.sIx_nat, HT.sIx_none, Int.toNat_natCast, List.drop_zero, Nat.sub_zero]
  by_cases h : k ≤ xs.length
  · rw [Nat.min_eq_left h]
  · rw [Nat.min_eq_right (by omega), List.take_of_length_le (Nat.le_refl _), List.take_of_length_le (by omega)]
/-! ### comprehensions over messages -/
def PMap (H : Hp) (ms : List Msg) (f : Msg → V) : Nat → List V → Hp → Prop := fun i ys H2 => H2 = H ∧ ys = (ms.take i).map f
def PFlt (H : Hp) (ms : List Msg) (p : Msg → Bool) : Nat → List V → Hp → Prop := fun i ys H2 => H2 = H ∧ Ms H ys ((ms.take i).filter p)
section
variable {K : PySem.W.Frag} {a : Addr} {xs : List V} {ms : List Msg} {g : TG} {tc : TT} {te : TE} {τ : St} {H : Hp} {f : Msg → V} {p : Msg → Bool}
theorem PMap.zero : PMap H ms f 0 [] H := ⟨rfl, by simp⟩
theorem PFlt.zero : PFlt H ms p 0 [] H := ⟨rfl, Ms.nil⟩
theorem PMap.step (ha : H a = some (.lst xs)) (hm : Ms H xs ms)
    (hs : ∀ c m (R : VK) (N : Hp → Prop), m ∈ ms → H c = some (mT m) → R (f m) H → g (.ref c) τ H fun σ4 H4 => tc σ4 H4 fun b H5 => if b = true then te σ4 H5 R else N H5) :
    ∀ i ys H2, i < ms.length → PMap H ms f i ys H2 → (Itl K a).go i H2 ∧ ∀ x H3, (Itl K a).yld i H2 x H3 → g x τ H3 fun σ4 H4 => tc σ4 H4 fun b H5 => if b = true then te σ4 H5 fun y H6 => PMap H ms f (i + 1) (ys ++ [y]) H6 else PMap H ms f (i + 1) ys H5 := by
  rintro i ys H2 hi ⟨rfl, rfl⟩
  obtain ⟨c, ec, hc⟩ := hm.get hi
  refine ⟨⟨xs, .ref c, SqL.ofL ha, ec⟩, ?_⟩
  rintro x H3 ⟨rfl, hx⟩
  have hx' := hx xs (SqL.ofL ha)
  rw [ec] at hx'
  obtain rfl := Option.some.inj hx'
  refine hs c _ _ _ (List.getElem_mem hi) hc ⟨rfl, ?_⟩
  rw [List.take_add_one, List.getElem?_eq_getElem hi, List.map_append]; rfl
theorem PMap.done (ha : H a = some (.lst xs)) (hm : Ms H xs ms) {ys : List V} {H2 : Hp} (h : PMap H ms f ms.length ys H2) : (Itl K a).stop ms.length H2 ∧ H = H2 ∧ ys = ms.map f := by
  obtain ⟨rfl, rfl⟩ := h
  rw [List.take_length]
  exact ⟨⟨xs, SqL.ofL ha, by rw [hm.len]; exact Nat.le_refl _⟩, rfl, rfl⟩
theorem PFlt.step (ha : H a = some (.lst xs)) (hm : Ms H xs ms)
    (hs : ∀ c m (R : VK) (N : Hp → Prop), m ∈ ms → H c = some (mT m) → (p m = true → R (.ref c) H) → (p m = false → N H) → g (.ref c) τ H fun σ4 H4 => tc σ4 H4 fun b H5 => if b = true then te σ4 H5 R else N H5) :
    ∀ i ys H2, i < ms.length → PFlt H ms p i ys H2 → (Itl K a).go i H2 ∧ ∀ x H3, (Itl K a).yld i H2 x H3 → g x τ H3 fun σ4 H4 => tc σ4 H4 fun b H5 => if b = true then te σ4 H5 fun y H6 => PFlt H ms p (i + 1) (ys ++ [y]) H6 else PFlt H ms p (i + 1) ys H5 := by
  rintro i ys H2 hi ⟨rfl, hy⟩
  obtain ⟨c, ec, hc⟩ := hm.get hi
  refine ⟨⟨xs, .ref c, SqL.ofL ha, ec⟩, ?_⟩
  rintro x H3 ⟨rfl, hx⟩
  have hx' := hx xs (SqL.ofL ha)
  rw [ec] at hx'
  obtain rfl := Option.some.inj hx'
  refine hs c _ _ _ (List.getElem_mem hi) hc (fun hp => ⟨rfl, ?_⟩) (fun hp => ⟨rfl, ?_⟩)
  · rw [flt_succ hi, if_pos hp]
    exact hy.append (Ms.one hc)
  · rw [flt_succ hi, if_neg (by rw [hp]; decide), List.append_nil]
    exact hy
theorem PFlt.done (ha : H a = some (.lst xs)) (hm : Ms H xs ms) {ys : List V} {H2 : Hp} (h : PFlt H ms p ms.length ys H2) : (Itl K a).stop ms.length H2 ∧ H = H2 ∧ Ms H ys (ms.filter p) := by
  obtain ⟨rfl, hy⟩ := h
  rw [List.take_length] at hy
  exact ⟨⟨xs, SqL.ofL ha, by rw [hm.len]; exact Nat.le_refl _⟩, rfl, hy⟩
end
/-! ### a road -/
structure RS where
  rows : List Msg
  out : List Int
  cut : Bool
def rF (sz : Int) (way : Str) (r d : Addr) (b : Bool) : List (Str × V) := [("size", .int sz), ("way", .str way), ("row", .ref r), ("dropped", .ref d), ("broken", .bl b)]
section
variable {sz : Int} {way : Str} {r d : Addr} {b : Bool}
end
/-- a road stands at p; its list at r, what was left out at d -/
structure RAt (C : Addr) (H : Hp) (p : Addr) (sz : Int) (way : Str) (s : RS) (r d : Addr) : Prop where
  ob : ∃ dx, H p = some (.ins C dx (rF sz way r d s.cut))
  ro : ∃ ys, H r = some (.lst ys) ∧ Ms H ys s.rows
  dr : H d = some (.lst (s.out.map V.int))
  ne : r ≠ d
section
variable {C : Addr} {H H' : Hp} {p : Addr} {sz : Int} {way : Str} {s : RS} {r d : Addr}
theorem RAt.step {ps ps' : List Addr} (h : RAt C H p sz way s r d) (st : Stp ps H ps' H') (hd : ∀ c ∈ [p, r, d], c ∉ ps) : RAt C H' p sz way s r d := by
  obtain ⟨⟨dx, h1⟩, ⟨ys, h2, h3⟩, h4, h5⟩ := h
  exact ⟨⟨dx, st.keep h1 (hd _ (by simp))⟩, ⟨ys, st.keep h2 (hd _ (by simp)), h3.step st⟩, st.keep h4 (hd _ (by simp)), h5⟩
theorem RAt.out {ps ps' : List Addr} (h : RAt C H p sz way s r d) (st : Stp ps H ps' H') (hd : ∀ c ∈ [p, r, d], c ∉ ps) : ∀ c ∈ [p, r, d], c ∉ ps' := by
  obtain ⟨⟨dx, h1⟩, ⟨ys, h2, h3⟩, h4, h5⟩ := h
  intro c hc
  have hc' := hd c hc
  simp only [List.mem_cons, List.not_mem_nil, or_false] at hc
  rcases hc with rfl | rfl | rfl
  · exact st.out h1 hc'
  · exact st.out h2 hc'
  · exact st.out h4 hc'
theorem RAt.same (h : RAt C H p sz way s r d) (e : Same H H') : RAt C H' p sz way s r d := h.step (e.step []) fun _ _ => List.not_mem_nil
/-- what is none of a road's, told by its kind or as new -/
theorem RAt.free (h : RAt C H p sz way s r d) {c : Addr} (hc : H c = none) : c ∉ [p, r, d] := by
  obtain ⟨⟨dx, h1⟩, ⟨ys, h2, h3⟩, h4, h5⟩ := h
  simp [(ne_of_none h1 hc).symm, (ne_of_none h2 hc).symm, (ne_of_none h4 hc).symm]
theorem RAt.npr (h : RAt C H p sz way s r d) : p ≠ r := by
  obtain ⟨⟨dx, h1⟩, ⟨ys, h2, h3⟩, h4, h5⟩ := h
  exact ne_of h1 h2 (by intro z; cases z)
end
theorem Stp.up {ps qs : List Addr} {H H' : Hp} (s : Stp ps H ps H') (h : ∀ c ∈ ps, c ∈ qs) : Stp qs H qs H' := s.weak h fun _ z => .inr z
/-! the promises of a road's methods -/
end L2

namespace L2
open PySem PySem.Spec PyProof.Rows PySem.W
/-! ### what a dict's keys are, walked -/
section
variable {X : Cx}
/-! ### sorted(x) of ints -/
/-! ### list(range(..)) -/
/-! ### max of a list of ints, also with a default -/
section
variable {prog : Program} {w : World} {A : Around} {I : Addr} {fp wr : List Addr} {G : Array GenState → Array GenState → Prop} {n : Nat} {P : Nat → Value → Prop} {St : Nat → Shared → Prop} {R : Result → Shared → Prop} {kw : List (Str × Value)}
end
end
end L2

namespace L2
open PySem PySem.Spec PyProof.Rows PySem.W
/-! ### a hearer, without heap -/
structure HS where
  heard : List Msg
  held : List Msg
  lost : List Int
def HS.next (s : HS) : Int := (s.heard.length : Int) + (s.lost.length : Int) + 1
def hasN (ms : List Msg) (n : Int) : Bool := ms.any fun m => decide (m.n = n)
def findN (ms : List Msg) (n : Int) : Option Msg := ms.find? fun m => decide (m.n = n)
def dropN (ms : List Msg) (n : Int) : List Msg := ms.filter fun m => decide (m.n ≠ n)
def putM (ms : List Msg) (m : Msg) : List Msg := if hasN ms m.n = true then ms.map (fun x => if x.n = m.n then m else x) else ms ++ [m]
theorem findN_some {ms : List Msg} {n : Int} {m : Msg} (h : findN ms n = some m) : m ∈ ms ∧ m.n = n := ⟨List.mem_of_find?_eq_some h, by simpa using List.find?_some h⟩
theorem findN_none {ms : List Msg} {n : Int} : findN ms n = none ↔ ∀ m ∈ ms, m.n ≠ n := by
  unfold findN
  rw [List.find?_eq_none]
  constructor
  · intro h m hm; simpa using h m hm
  · intro h m hm; simpa using h m hm
theorem hasN_iff {ms : List Msg} {n : Int} : hasN ms n = true ↔ ∃ m ∈ ms, m.n = n := by
  unfold hasN
  rw [List.any_eq_true]
  constructor
  · rintro ⟨m, hm, e⟩; exact ⟨m, hm, of_decide_eq_true e⟩
  · rintro ⟨m, hm, e⟩; exact ⟨m, hm, decide_eq_true e⟩
theorem dropN_mem {ms : List Msg} {n : Int} {m : Msg} : m ∈ dropN ms n ↔ m ∈ ms ∧ m.n ≠ n := by
  unfold dropN
  rw [List.mem_filter]
  simp
theorem dropN_lt {ms : List Msg} {m : Msg} (h : m ∈ ms) : (dropN ms m.n).length < ms.length := by
  unfold dropN
  exact List.length_filter_lt_length_iff_exists.mpr ⟨m, h, by simp⟩
theorem dropN_diff {ms : List Msg} {n : Int} (d : Diff ms) : Diff (dropN ms n) := (List.filter_sublist.map Msg.n).nodup d
theorem dropN_len {ms : List Msg} (d : Diff ms) {m : Msg} (h : m ∈ ms) : (dropN ms m.n).length + 1 = ms.length := by
  induction ms with
  | nil => cases h
  | cons x r ih =>
    have d' : Diff r := (List.nodup_cons.mp d).2
    have hx : x.n ∉ r.map (·.n) := (List.nodup_cons.mp d).1
    by_cases e : x.n = m.n
    · have : dropN (x :: r) m.n = r := by
        unfold dropN
        rw [List.filter_cons_of_neg (by simp [e])]
        refine List.filter_eq_self.mpr fun y hy => ?_
        refine decide_eq_true fun z => hx ?_
        rw [e, ← z]
        exact List.mem_map_of_mem hy
      rw [this]; rfl
    · have hm : m ∈ r := by
        rcases List.mem_cons.mp h with rfl | z
        · exact absurd rfl e
        · exact z
      have : dropN (x :: r) m.n = x :: dropN r m.n := by
        unfold dropN
        rw [List.filter_cons_of_pos (by simp [e])]
      rw [this, List.length_cons, List.length_cons, ← ih d' hm]
/-- what is there of this number is this one: putting changes nothing, or adds it -/
theorem putM_new {ms : List Msg} {m : Msg} (h : ∀ x ∈ ms, x.n ≠ m.n) : putM ms m = ms ++ [m] := by
  unfold putM
  rw [if_neg]
  intro z
  obtain ⟨x, hx, e⟩ := hasN_iff.mp z
  exact h x hx e
theorem putM_old {ms : List Msg} {m : Msg} (h : m ∈ ms) (hs : ∀ x ∈ ms, x.n = m.n → x = m) : putM ms m = ms := by
  unfold putM
  rw [if_pos (hasN_iff.mpr ⟨m, h, rfl⟩)]
  have : ms.map (fun x => if x.n = m.n then m else x) = ms.map id := List.map_congr_left fun x hx => by
    show (if x.n = m.n then m else x) = x
    by_cases e : x.n = m.n
    · rw [if_pos e, hs x hx e]
    · rw [if_neg e]
  rw [this, List.map_id]
theorem putM_case {ms : List Msg} {m : Msg} (hs : ∀ x ∈ ms, x.n = m.n → x = m) : (m ∈ ms ∧ putM ms m = ms) ∨ ((∀ x ∈ ms, x.n ≠ m.n) ∧ putM ms m = ms ++ [m]) := by
  by_cases h : m ∈ ms
  · exact .inl ⟨h, putM_old h hs⟩
  · have h' : ∀ x ∈ ms, x.n ≠ m.n := fun x hx e => h (hs x hx e ▸ hx)
    exact .inr ⟨h', putM_new h'⟩
theorem putM_mem {ms : List Msg} {m x : Msg} (hs : ∀ x ∈ ms, x.n = m.n → x = m) : x ∈ putM ms m ↔ x ∈ ms ∨ x = m := by
  rcases putM_case hs with ⟨h, e⟩ | ⟨h, e⟩
  · rw [e]
    constructor
    · exact .inl
    · rintro (z | rfl)
      · exact z
      · exact h
  · rw [e, List.mem_append, List.mem_singleton]
theorem putM_diff {ms : List Msg} {m : Msg} (hs : ∀ x ∈ ms, x.n = m.n → x = m) (d : Diff ms) : Diff (putM ms m) := by
  rcases putM_case hs with ⟨h, e⟩ | ⟨h, e⟩
  · rw [e]; exact d
  · rw [e]
    unfold Diff
    rw [List.map_append]
    refine List.nodup_append.mpr ⟨d, by simp, fun a ha b hb => ?_⟩
    obtain ⟨x, hx, rfl⟩ := List.mem_map.mp ha
    simp only [List.map_cons, List.map_nil, List.mem_singleton] at hb
    rw [hb]; exact h x hx
theorem putM_len {ms : List Msg} {m : Msg} : (putM ms m).length ≤ ms.length + 1 := by
  unfold putM
  split
  · rw [List.length_map]; omega
  · rw [List.length_append]; exact Nat.le_refl _
/-- those that are held are heard as far as there are -/
def hearS (s : HS) : HS :=
  match h : findN s.held s.next with
  | none => s
  | some m => hearS ⟨s.heard ++ [m], dropN s.held m.n, s.lost⟩
termination_by s.held.length
decreasing_by exact dropN_lt (findN_some h).1
theorem hearS_none {s : HS} (h : findN s.held s.next = none) : hearS s = s := by
  rw [hearS]
  split
  · rfl
  · rename_i m e; rw [h] at e; cases e
theorem hearS_some {s : HS} {m : Msg} (h : findN s.held s.next = some m) : hearS s = hearS ⟨s.heard ++ [m], dropN s.held m.n, s.lost⟩ := by
  rw [hearS]
  split
  · rename_i e; rw [h] at e; cases e
  · rename_i m' e
    rw [h] at e
    cases e; rfl
/-- what holds of a hearing step by step holds behind it -/
theorem hearS_ind {P : HS → Prop} (hs : ∀ s m, P s → findN s.held s.next = some m → P ⟨s.heard ++ [m], dropN s.held m.n, s.lost⟩) : ∀ s, P s → P (hearS s) ∧ findN (hearS s).held (hearS s).next = none
  | s, h => by
    cases e : findN s.held s.next with
    | none => rw [hearS_none e]; exact ⟨h, e⟩
    | some m =>
      rw [hearS_some e]
      exact hearS_ind hs ⟨s.heard ++ [m], dropN s.held m.n, s.lost⟩ (hs s m h e)
termination_by s => s.held.length
decreasing_by exact dropN_lt (findN_some e).1
theorem next_snoc {h : List Msg} {d : List Msg} {l : List Int} {m : Msg} : HS.next ⟨h ++ [m], d, l⟩ = HS.next ⟨h, d, l⟩ + 1 := by
  show ((h ++ [m]).length : Int) + l.length + 1 = (h.length : Int) + l.length + 1 + 1
  rw [List.length_append]; show ((h.length + 1 : Nat) : Int) + _ + 1 = _; omega
def addS (s : HS) (m : Msg) : HS := if m.n ≥ s.next then ⟨s.heard, putM s.held m, s.lost⟩ else s
def takeS (s : HS) (ms : List Msg) : HS := hearS (ms.foldl addS s)
theorem addS_heard (s : HS) (m : Msg) : (addS s m).heard = s.heard := by unfold addS; split <;> rfl
theorem adds_heard : ∀ (ms : List Msg) (s : HS), (ms.foldl addS s).heard = s.heard
  | [], _ => rfl
  | m :: r, s => by rw [List.foldl_cons, adds_heard r, addS_heard]
/-- no other of a number that is known -/
def Fits (s : HS) (ms : List Msg) : Prop := (∀ m ∈ ms, ∀ x, x ∈ s.heard ∨ x ∈ s.held → x.n = m.n → x = m) ∧ ∀ m ∈ ms, ∀ x ∈ ms, x.n = m.n → x = m
/-! ### tables from numbers to messages -/
inductive DI (H : Hp) : List (Key × V) → List Msg → Prop
  | nil : DI H [] []
  | cons {v : V} {m : Msg} {r : List (Key × V)} {ms : List Msg} : Has H v (mD m) → DI H r ms → DI H ((Sum.inl m.n, v) :: r) (m :: ms)
theorem DI.same {H H' : Hp} (e : Same H H') : ∀ {kvs : List (Key × V)} {ms : List Msg}, DI H kvs ms → DI H' kvs ms
  | _, _, .nil => .nil
  | _, _, .cons h t => .cons (h.same e) (DI.same e t)
theorem DI.tups {H H' : Hp} (e : Tups H H') : ∀ {kvs : List (Key × V)} {ms : List Msg}, DI H kvs ms → DI H' kvs ms
  | _, _, .nil => .nil
  | _, _, .cons h t => .cons (h.tups e (noLst_m _)) (DI.tups e t)
theorem DI.len {H : Hp} : ∀ {kvs : List (Key × V)} {ms : List Msg}, DI H kvs ms → kvs.length = ms.length
  | _, _, .nil => rfl
  | _, _, .cons _ t => by rw [List.length_cons, List.length_cons, DI.len t]
theorem DI.keys {H : Hp} : ∀ {kvs : List (Key × V)} {ms : List Msg}, DI H kvs ms → kvs.map (·.1) = (ms.map (·.n)).map Sum.inl
  | _, _, .nil => rfl
  | _, _, .cons _ t => by rw [List.map_cons, List.map_cons, List.map_cons, DI.keys t]
theorem DI.any {H : Hp} (n : Int) : ∀ {kvs : List (Key × V)} {ms : List Msg}, DI H kvs ms → (kvs.any fun kv => decide (kv.1 = Sum.inl n)) = hasN ms n
  | _, _, .nil => rfl
  | _, _, .cons (m := m') h r => by
    unfold hasN
    rw [List.any_cons, List.any_cons, DI.any n r]
    congr 1
    exact decide_eq_decide.mpr ⟨fun z => Sum.inl.inj z, fun z => congrArg Sum.inl z⟩
theorem DI.repl {H : Hp} {v : V} {m : Msg} (h : Has H v (mD m)) : ∀ {kvs : List (Key × V)} {ms : List Msg}, DI H kvs ms → DI H (kvs.map fun kv => if kv.1 = Sum.inl m.n then (kv.1, v) else kv) (ms.map fun x => if x.n = m.n then m else x)
  | _, _, .nil => .nil
  | _, _, .cons (m := m') h' r => by
    rw [List.map_cons, List.map_cons]
    by_cases e : m'.n = m.n
    · rw [if_pos (by rw [e]), if_pos e]
      show DI H ((Sum.inl m'.n, v) :: _) _
      rw [e]; exact .cons h (DI.repl h r)
    · rw [if_neg (fun z => e (Sum.inl.inj z)), if_neg e]; exact .cons h' (DI.repl h r)
theorem DI.snoc {H : Hp} {v : V} {m : Msg} (h : Has H v (mD m)) : ∀ {kvs : List (Key × V)} {ms : List Msg}, DI H kvs ms → DI H (kvs ++ [(Sum.inl m.n, v)]) (ms ++ [m])
  | _, _, .nil => .cons h .nil
  | _, _, .cons h' r => .cons h' (DI.snoc h r)
theorem DI.put {H : Hp} {v : V} {m : Msg} (h : Has H v (mD m)) {kvs : List (Key × V)} {ms : List Msg} (d : DI H kvs ms) : DI H (putK kvs (Sum.inl m.n) v) (putM ms m) := by
  unfold putK putM
  rw [d.any m.n]
  split
  · exact d.repl h
  · exact d.snoc h
theorem DI.drop {H : Hp} (n : Int) : ∀ {kvs : List (Key × V)} {ms : List Msg}, DI H kvs ms → DI H (dropK kvs (Sum.inl n)) (dropN ms n)
  | _, _, .nil => .nil
  | _, _, .cons (m := m') h r => by
    unfold dropK dropN
    by_cases e : m'.n = n
    · rw [List.filter_cons_of_neg (by simp [e]), List.filter_cons_of_neg (by simp [e])]
      exact DI.drop n r
    · rw [List.filter_cons_of_pos (by simpa using e), List.filter_cons_of_pos (by simpa using e)]
      exact .cons h (DI.drop n r)
theorem DI.none {H : Hp} (n : Int) : ∀ {kvs : List (Key × V)} {ms : List Msg}, DI H kvs ms → findN ms n = none → valV kvs (Sum.inl n) = none
  | _, _, .nil, _ => rfl
  | _, _, .cons (m := m') h r, e => by
    have e' := findN_none.mp e
    rw [valV_neg (by intro z; exact e' m' (by simp) (Sum.inl.inj z))]
    exact DI.none n r (findN_none.mpr fun x hx => e' x (by simp [hx]))
theorem DI.some {H : Hp} (n : Int) {m : Msg} : ∀ {kvs : List (Key × V)} {ms : List Msg}, DI H kvs ms → findN ms n = some m → ∃ c, valV kvs (Sum.inl n) = some (.ref c) ∧ H c = some (mT m)
  | _, _, .nil, e => by cases e
  | _, _, .cons (m := m') h r, e => by
    by_cases z : m'.n = n
    · unfold findN at e
      rw [List.find?_cons_of_pos (by simp [z])] at e
      cases e
      obtain ⟨c, rfl, hc⟩ := has_msg h
      exact ⟨c, valV_pos (by rw [z]), hc⟩
    · unfold findN at e
      rw [List.find?_cons_of_neg (by simp [z])] at e
      obtain ⟨c, h1, h2⟩ := DI.some n r e
      exact ⟨c, by rw [valV_neg (by intro y; exact z (Sum.inl.inj y))]; exact h1, h2⟩
theorem hasN_find {ms : List Msg} {n : Int} : hasN ms n = (findN ms n).isSome := by
  cases e : findN ms n with
  | none =>
    have := findN_none.mp e
    rw [show hasN ms n = false from Bool.eq_false_iff.mpr fun z => by obtain ⟨m, hm, en⟩ := hasN_iff.mp z; exact this m hm en]; rfl
  | some m => exact hasN_iff.mpr ⟨m, (findN_some e).1, (findN_some e).2⟩
theorem DI.isSome {H : Hp} {kvs : List (Key × V)} {ms : List Msg} (d : DI H kvs ms) (n : Int) : (valV kvs (Sum.inl n)).isSome = hasN ms n := by
  rw [hasN_find]
  cases e : findN ms n with
  | none => rw [d.none n e]; rfl
  | some m => obtain ⟨c, hc, _⟩ := d.some n e; rw [hc]; rfl
/-! ### a hearer in the heap -/
def hF (nx : Int) (q h k g : Addr) (ex : List (Str × V)) : List (Str × V) := ("next_number", .int nx) :: ("past", .ref q) :: ("held", .ref h) :: ("known", .ref k) :: ("given_up", .ref g) :: ex
section
variable {nx : Int} {q h k g : Addr} {ex : List (Str × V)}
end
/-- what belongs to a hearer -/
structure HA where
  p : Addr
  q : Addr
  h : Addr
  k : Addr
  g : Addr
def HA.fp (a : HA) : List Addr := [a.p, a.q, a.h, a.k, a.g]
/-- the table of all that are known -/
def KnowN (H : Hp) (k : Addr) (s : HS) : Prop := ∃ kvs ms, H k = some (.dK kvs) ∧ DI H kvs ms ∧ Diff ms ∧ ms.length ≤ s.heard.length + s.held.length ∧ ∀ m, m ∈ ms ↔ m ∈ s.heard ∨ m ∈ s.held
/-- a hearer: its number, its table of those held, and what it has heard may be ahead of one another while it hears -/
structure HAt (C : Addr) (H : Hp) (a : HA) (s : HS) (ex : List (Str × V)) : Prop where
  ob : ∃ dx, H a.p = some (.ins C dx (hF s.next a.q a.h a.k a.g ex))
  pa : ∃ ys, H a.q = some (.lst ys) ∧ Ms H ys s.heard
  he : ∃ kvs, H a.h = some (.dK kvs) ∧ DI H kvs s.held
  kn : KnowN H a.k s
  lo : H a.g = some (.lst (s.lost.map V.int))
  nqg : a.q ≠ a.g
  nhk : a.h ≠ a.k
  exn : ∀ f : Str, ¬ f = "keep" → ex.lookup f = none
  exl : ex.length < 100
section
variable {C : Addr} {H H' : Hp} {a : HA} {s : HS} {ex : List (Str × V)}
theorem KnowN.tups {k : Addr} (h : KnowN H k s) (e : H' k = H k) (t : Tups H H') : KnowN H' k s := by
  obtain ⟨kvs, ms, h1, h2, h3, h4, h5⟩ := h
  exact ⟨kvs, ms, by rw [e]; exact h1, h2.tups t, h3, h4, h5⟩
theorem HAt.live (h : HAt C H a s ex) : ∀ c ∈ a.fp, ∃ o, H c = some o := by
  obtain ⟨⟨dx, h1⟩, ⟨ys, h2, _⟩, ⟨kvs, h3, _⟩, ⟨kvs', _, h4, _⟩, h5, _, _, _, _⟩ := h
  intro c hc
  simp only [HA.fp, List.mem_cons, List.not_mem_nil, or_false] at hc
  rcases hc with rfl | rfl | rfl | rfl | rfl
  · exact ⟨_, h1⟩
  · exact ⟨_, h2⟩
  · exact ⟨_, h3⟩
  · exact ⟨_, h4⟩
  · exact ⟨_, h5⟩
theorem HAt.step {ps ps' : List Addr} (h : HAt C H a s ex) (st : Stp ps H ps' H') (hd : ∀ c ∈ a.fp, c ∉ ps) : HAt C H' a s ex := by
  have hd' : ∀ c, c ∈ a.fp → c ∉ ps := hd
  obtain ⟨⟨dx, h1⟩, ⟨ys, h2, h3⟩, ⟨kvs, h4, h5⟩, hk, h6, h7, h8, h9, h10⟩ := id h
  have e : ∀ c ∈ a.fp, H' c = H c := fun c hc => by
    obtain ⟨o, ho⟩ := h.live c hc
    rw [ho]; exact st.keep ho (hd c hc)
  exact ⟨⟨dx, by rw [e _ (by simp [HA.fp])]; exact h1⟩, ⟨ys, by rw [e _ (by simp [HA.fp])]; exact h2, h3.step st⟩, ⟨kvs, by rw [e _ (by simp [HA.fp])]; exact h4, h5.tups st.tup⟩, hk.tups (e _ (by simp [HA.fp])) st.tup, by rw [e _ (by simp [HA.fp])]; exact h6, h7, h8, h9, h10⟩
theorem HAt.same (h : HAt C H a s ex) (e : Same H H') : HAt C H' a s ex := h.step (e.step []) fun _ _ => List.not_mem_nil
theorem HAt.out {ps ps' : List Addr} (h : HAt C H a s ex) (st : Stp ps H ps' H') (hd : ∀ c ∈ a.fp, c ∉ ps) : ∀ c ∈ a.fp, c ∉ ps' := fun c hc => by
  obtain ⟨o, ho⟩ := h.live c hc
  exact st.out ho (hd c hc)
theorem HAt.free (h : HAt C H a s ex) {c : Addr} (hc : H c = none) : c ∉ a.fp := fun z => by
  obtain ⟨o, ho⟩ := h.live c z
  rw [ho] at hc; cases hc
theorem HAt.apart (h : HAt C H a s ex) : a.p ≠ a.q ∧ a.p ≠ a.h ∧ a.p ≠ a.k ∧ a.p ≠ a.g ∧ a.q ≠ a.h ∧ a.q ≠ a.k ∧ a.q ≠ a.g ∧ a.h ≠ a.k ∧ a.h ≠ a.g ∧ a.k ≠ a.g := by
  obtain ⟨⟨dx, h1⟩, ⟨ys, h2, _⟩, ⟨kvs, h3, _⟩, ⟨kvs', _, h4, _⟩, h5, h6, h7, _, _⟩ := h
  exact ⟨ne_of h1 h2 (by intro z; cases z), ne_of h1 h3 (by intro z; cases z), ne_of h1 h4 (by intro z; cases z), ne_of h1 h5 (by intro z; cases z), ne_of h2 h3 (by intro z; cases z), ne_of h2 h4 (by intro z; cases z), h6, h7, ne_of h3 h5 (by intro z; cases z), ne_of h4 h5 (by intro z; cases z)⟩
end
def HS.small (s : HS) : Prop := s.heard.length + s.held.length + s.lost.length < 3000
def hs0 : HS := ⟨[], [], []⟩
/-! the promises of a hearer's methods -/
section
variable (C : Addr) (ex : List (Str × V))
end
end L2

namespace L2
open PySem PySem.Spec PyProof.Rows PySem.W
/-! ### rows: numbers 1, 2, .. -/
theorem Rows.at {R : List Msg} (h : Rows R) {m : Msg} (hm : m ∈ R) : ∃ (i : Nat) (hi : i < R.length), R[i] = m ∧ m.n = (i : Int) + 1 := by
  obtain ⟨i, hi, e⟩ := List.getElem_of_mem hm
  exact ⟨i, hi, e, by rw [← e]; exact h i hi⟩
theorem Rows.mem_take {R : List Msg} (h : Rows R) {m : Msg} {k : Nat} : m ∈ R.take k ↔ m ∈ R ∧ m.n ≤ (k : Int) := by
  constructor
  · intro hm
    obtain ⟨i, hi, e⟩ := List.getElem_of_mem hm
    rw [List.length_take] at hi
    rw [List.getElem_take] at e
    refine ⟨by rw [← e]; exact List.getElem_mem _, ?_⟩
    have := h i (by omega)
    rw [e] at this; omega
  · rintro ⟨hm, hn⟩
    obtain ⟨i, hi, e, en⟩ := h.at hm
    rw [List.mem_take_iff_getElem]
    exact ⟨i, by omega, e⟩
theorem Rows.uniq {R : List Msg} (h : Rows R) {a b : Msg} (ha : a ∈ R) (hb : b ∈ R) (e : a.n = b.n) : a = b := h.rise.diff.eq ha hb e
/-- what a hearer of rows is behind some of them -/
structure Tk0 (R : List Msg) (s : HS) (seen : Msg → Prop) : Prop where
  pre : s.heard = R.take s.heard.length
  lost : s.lost = []
  held : ∀ m ∈ s.held, m ∈ R ∧ s.next ≤ m.n
  dh : Diff s.held
  mem : ∀ m, (m ∈ s.heard ∨ m ∈ s.held) ↔ seen m
structure Tk (R : List Msg) (s : HS) (seen : Msg → Prop) : Prop extends Tk0 R s seen where
  gt : ∀ m ∈ s.held, s.next < m.n
theorem Tk.start {R : List Msg} : Tk R hs0 fun _ => False where
  pre := rfl
  lost := rfl
  held := fun m h => absurd h List.not_mem_nil
  dh := List.nodup_nil
  mem := fun m => by simp [hs0]
  gt := fun m h => absurd h List.not_mem_nil
theorem Tk0.next {R : List Msg} {s : HS} {seen : Msg → Prop} (t : Tk0 R s seen) : s.next = (s.heard.length : Int) + 1 := by
  show (s.heard.length : Int) + (s.lost.length : Int) + 1 = _
  rw [t.lost]; show _ + 0 + 1 = _; omega
theorem Tk0.le {R : List Msg} {s : HS} {seen : Msg → Prop} (t : Tk0 R s seen) : s.heard.length ≤ R.length := by
  have := congrArg List.length t.pre
  rw [List.length_take] at this; omega
theorem Tk0.congr {R : List Msg} {s : HS} {a b : Msg → Prop} (t : Tk0 R s a) (h : ∀ m, a m ↔ b m) : Tk0 R s b := ⟨t.pre, t.lost, t.held, t.dh, fun m => (t.mem m).trans (h m)⟩
theorem Tk.congr {R : List Msg} {s : HS} {a b : Msg → Prop} (t : Tk R s a) (h : ∀ m, a m ↔ b m) : Tk R s b := ⟨t.toTk0.congr h, t.gt⟩
theorem Tk0.subR {R : List Msg} {s : HS} {seen : Msg → Prop} (t : Tk0 R s seen) : ∀ m, m ∈ s.heard ∨ m ∈ s.held → m ∈ R := fun m h => by
  rcases h with h | h
  · rw [t.pre] at h; exact List.mem_of_mem_take h
  · exact (t.held m h).1
theorem Tk0.add {R : List Msg} (hR : Rows R) {s : HS} {seen : Msg → Prop} (t : Tk0 R s seen) {m : Msg} (hm : m ∈ R) : Tk0 R (addS s m) fun x => seen x ∨ x = m := by
  unfold addS
  by_cases h : m.n ≥ s.next
  · rw [if_pos h]
    have hs : ∀ x ∈ s.held, x.n = m.n → x = m := fun x hx e => hR.uniq (t.held x hx).1 hm e
    refine ⟨t.pre, t.lost, fun x hx => ?_, putM_diff hs t.dh, fun x => ?_⟩
    · rcases (putM_mem hs).mp hx with z | rfl
      · exact t.held x z
      · exact ⟨hm, h⟩
    · show (x ∈ s.heard ∨ x ∈ putM s.held m) ↔ _
      rw [putM_mem hs, ← t.mem x, or_assoc]
  · rw [if_neg h]
    refine t.congr fun x => ⟨.inl, fun z => ?_⟩
    rcases z with z | rfl
    · exact z
    · rw [← t.mem]
      refine .inl ?_
      rw [t.pre, hR.mem_take]
      have := t.next
      exact ⟨hm, by omega⟩
theorem Tk0.adds {R : List Msg} (hR : Rows R) : ∀ (ms : List Msg) {s : HS} {seen : Msg → Prop}, Tk0 R s seen → (∀ m ∈ ms, m ∈ R) → Tk0 R (ms.foldl addS s) fun x => seen x ∨ x ∈ ms
  | [], s, seen, t, _ => t.congr fun x => ⟨.inl, fun z => by
      rcases z with z | z
      · exact z
      · exact nomatch z⟩
  | m :: r, s, seen, t, h => by
    rw [List.foldl_cons]
    refine (Tk0.adds hR r (t.add hR (h m (by simp))) fun x hx => h x (by simp [hx])).congr fun x => ?_
    rw [List.mem_cons, or_assoc]
theorem Tk0.hear {R : List Msg} (hR : Rows R) {s : HS} {seen : Msg → Prop} (t : Tk0 R s seen) : Tk R (hearS s) seen := by
  have ⟨h, e⟩ := hearS_ind (P := fun s => Tk0 R s seen) (fun s m t e => by
    obtain ⟨hm, hn⟩ := findN_some e
    obtain ⟨hmR, _⟩ := t.held m hm
    obtain ⟨i, hi, ei, en⟩ := hR.at hmR
    have hx := t.next
    have hii : i = s.heard.length := by omega
    refine ⟨?_, t.lost, fun x hx' => ?_, dropN_diff t.dh, fun x => ?_⟩
    · show s.heard ++ [m] = R.take (s.heard ++ [m]).length
      rw [List.length_append, List.length_singleton, List.take_add_one, ← t.pre, List.getElem?_eq_getElem (by omega)]
      have : R[s.heard.length]'(by omega) = m := by subst hii; exact ei
      rw [this]; rfl
    · obtain ⟨h1, h2⟩ := dropN_mem.mp hx'
      have h3 := (t.held x h1).2
      refine ⟨(t.held x h1).1, ?_⟩
      rw [next_snoc]
      show s.next + 1 ≤ x.n
      omega
    · show (x ∈ s.heard ++ [m] ∨ x ∈ dropN s.held m.n) ↔ _
      rw [← t.mem x, List.mem_append, List.mem_singleton, dropN_mem]
      constructor
      · rintro ((z | rfl) | ⟨z, _⟩)
        · exact .inl z
        · exact .inr hm
        · exact .inr z
      · rintro (z | z)
        · exact .inl (.inl z)
        · by_cases ee : x.n = m.n
          · exact .inl (.inr (t.dh.eq z hm ee))
          · exact .inr ⟨z, ee⟩) s t
  refine ⟨h, fun m hm => ?_⟩
  have h1 := (h.held m hm).2
  have h2 := findN_none.mp e m hm
  omega
theorem Tk.take {R : List Msg} (hR : Rows R) {s : HS} {seen : Msg → Prop} (t : Tk R s seen) {ms : List Msg} (h : ∀ m ∈ ms, m ∈ R) : Tk R (takeS s ms) fun x => seen x ∨ x ∈ ms := (t.toTk0.adds hR ms h).hear hR
theorem Tk.fits {R : List Msg} (hR : Rows R) {s : HS} {seen : Msg → Prop} (t : Tk R s seen) {ms : List Msg} (h : ∀ m ∈ ms, m ∈ R) : Fits s ms :=
  ⟨fun m hm x hx e => hR.uniq (t.toTk0.subR x hx) (h m hm) e, fun m hm x hx e => hR.uniq (h x hx) (h m hm) e⟩
/-- all were seen: all are heard -/
theorem Tk.all {R : List Msg} (hR : Rows R) {s : HS} {seen : Msg → Prop} (t : Tk R s seen) (h : ∀ m ∈ R, seen m) : s.heard = R ∧ s.held = [] := by
  have hl := t.toTk0.le
  have hx := t.toTk0.next
  have e : s.heard.length = R.length := by
    by_cases z : s.heard.length < R.length
    · have hm := (t.mem _).mpr (h _ (List.getElem_mem z))
      have hn := hR _ z
      rcases hm with y | y
      · have y' : R[s.heard.length] ∈ R.take s.heard.length := by rw [← t.pre]; exact y
        rw [hR.mem_take] at y'; omega
      · have := t.gt _ y; omega
    · omega
  have e2 : s.heard = R := by rw [t.pre, e, List.take_length]
  refine ⟨e2, ?_⟩
  cases q : s.held with
  | nil => rfl
  | cons m r =>
    have hm : m ∈ s.held := by rw [q]; simp
    have h1 := t.gt m hm
    obtain ⟨i, hi, _, en⟩ := hR.at (t.held m hm).1
    omega
/-! ### what is early and what is missing are all up to the greatest -/
theorem hear_len {s : HS} (d : Diff s.held) : (hearS s).heard.length + (hearS s).held.length = s.heard.length + s.held.length := by
  refine ((hearS_ind (P := fun t => Diff t.held ∧ t.heard.length + t.held.length = s.heard.length + s.held.length) ?_ s ⟨d, rfl⟩).1).2
  rintro t m ⟨h1, h2⟩ e
  refine ⟨dropN_diff h1, ?_⟩
  have := dropN_len h1 (findN_some e).1
  show (t.heard ++ [m]).length + (dropN t.held m.n).length = _
  rw [List.length_append, List.length_singleton]; omega
theorem adds_len : ∀ (ms : List Msg) (s : HS), (ms.foldl addS s).held.length ≤ s.held.length + ms.length
  | [], s => Nat.le_refl _
  | m :: r, s => by
    rw [List.foldl_cons, List.length_cons]
    have h1 := adds_len r (addS s m)
    have h2 : (addS s m).held.length ≤ s.held.length + 1 := by
      unfold addS
      split
      · exact putM_len
      · omega
    omega
theorem Tk.len {R : List Msg} (hR : Rows R) {s : HS} {seen : Msg → Prop} (t : Tk R s seen) {ms : List Msg} (h : ∀ m ∈ ms, m ∈ R) : (takeS s ms).heard.length + (takeS s ms).held.length ≤ s.heard.length + s.held.length + ms.length := by
  have h1 := hear_len (t.toTk0.adds hR ms h).dh
  have h2 := adds_len ms s
  have h3 := congrArg List.length (adds_heard ms s)
  unfold takeS
  omega
theorem Tk.small {R : List Msg} (hR : Rows R) {s : HS} {seen : Msg → Prop} (t : Tk R s seen) (hl : R.length < 900) : ∀ m ∈ s.held, -1000 < m.n ∧ m.n < 1000 := fun m hm => by
  obtain ⟨i, hi, _, en⟩ := hR.at (t.held m hm).1
  omega
end L2

namespace L2
open PySem PySem.Spec PyProof.Rows PySem.W
/-! ### roads, over the whole -/
end L2

namespace L2
open PySem PySem.Spec PyProof.Rows PySem.W
/-! ### a hearer of rows, with numbers given up -/
structure Hw0 (R : List Msg) (s : HS) : Prop where
  sub : ∀ m, m ∈ s.heard ∨ m ∈ s.held → m ∈ R
  dh : Diff s.held
  ge : ∀ m ∈ s.held, s.next ≤ m.n
  rise : Rise s.heard
  lt : ∀ m ∈ s.heard, m.n < s.next
  cov : ∀ n : Int, 1 ≤ n → n < s.next → (∃ m ∈ s.heard, m.n = n) ∨ n ∈ s.lost
  lr : s.lost.Pairwise (· < ·)
  ll : ∀ n ∈ s.lost, 1 ≤ n ∧ n < s.next ∧ n ≤ (R.length : Int) ∧ ∀ m ∈ s.heard, m.n ≠ n
structure Hw (R : List Msg) (s : HS) : Prop extends Hw0 R s where
  gt : ∀ m ∈ s.held, s.next < m.n
theorem HS.next_pos (s : HS) : 1 ≤ s.next := by unfold HS.next; omega
theorem Hw.start (R : List Msg) : Hw R hs0 where
  sub := fun m h => by rcases h with h | h <;> exact absurd h List.not_mem_nil
  dh := List.nodup_nil
  ge := fun m h => absurd h List.not_mem_nil
  rise := .nil
  lt := fun m h => absurd h List.not_mem_nil
  cov := fun n h1 h2 => by have : hs0.next = 1 := rfl; omega
  lr := .nil
  ll := fun n h => absurd h List.not_mem_nil
  gt := fun m h => absurd h List.not_mem_nil
theorem Hw0.more {R R' : List Msg} {s : HS} (h : Hw0 R s) (hs : ∀ m ∈ R, m ∈ R') (hl : R.length ≤ R'.length) : Hw0 R' s :=
  ⟨fun m hm => hs m (h.sub m hm), h.dh, h.ge, h.rise, h.lt, h.cov, h.lr, fun n hn => by obtain ⟨a, b, c, d⟩ := h.ll n hn; exact ⟨a, b, by omega, d⟩⟩
theorem Hw.more {R R' : List Msg} {s : HS} (h : Hw R s) (hs : ∀ m ∈ R, m ∈ R') (hl : R.length ≤ R'.length) : Hw R' s := ⟨h.toHw0.more hs hl, h.gt⟩
theorem Hw0.hear {R : List Msg} {s : HS} (h : Hw0 R s) : Hw R (hearS s) := by
  have ⟨h1, e⟩ := hearS_ind (P := fun s => Hw0 R s) (fun t m h e => by
    obtain ⟨hm, hn⟩ := findN_some e
    have hx : HS.next ⟨t.heard ++ [m], dropN t.held m.n, t.lost⟩ = t.next + 1 := next_snoc
    refine ⟨fun x hx => ?_, dropN_diff h.dh, fun x hx' => ?_, ?_, fun x hx' => ?_, fun n h1 h2 => ?_, h.lr, fun n hn' => ?_⟩
    · rcases hx with z | z
      · rcases List.mem_append.mp z with y | y
        · exact h.sub x (.inl y)
        · rw [List.mem_singleton] at y; rw [y]; exact h.sub m (.inr hm)
      · exact h.sub x (.inr (dropN_mem.mp z).1)
    · obtain ⟨a, b⟩ := dropN_mem.mp hx'
      have := h.ge x a
      rw [hx]; omega
    · refine List.pairwise_append.mpr ⟨h.rise, List.pairwise_singleton _ _, fun x hx' y hy => ?_⟩
      rw [List.mem_singleton] at hy
      rw [hy]; have := h.lt x hx'; omega
    · rw [hx]
      rcases List.mem_append.mp hx' with y | y
      · have := h.lt x y; omega
      · rw [List.mem_singleton] at y; rw [y]; omega
    · rw [hx] at h2
      by_cases z : n = t.next
      · exact .inl ⟨m, List.mem_append.mpr (.inr (by simp)), by omega⟩
      · rcases h.cov n h1 (by omega) with ⟨x, a, b⟩ | y
        · exact .inl ⟨x, List.mem_append.mpr (.inl a), b⟩
        · exact .inr y
    · obtain ⟨a, b, c, d⟩ := h.ll n hn'
      refine ⟨a, by rw [hx]; omega, c, fun x hx' => ?_⟩
      rcases List.mem_append.mp hx' with y | y
      · exact d x y
      · rw [List.mem_singleton] at y; rw [y]; omega) s h
  refine ⟨h1, fun m hm => ?_⟩
  have a := h1.ge m hm
  have b := findN_none.mp e m hm
  omega
theorem Hw0.add {R : List Msg} (hR : Rows R) {s : HS} (h : Hw0 R s) {m : Msg} (hm : m ∈ R) : Hw0 R (addS s m) := by
  unfold addS
  by_cases z : m.n ≥ s.next
  · rw [if_pos z]
    have hs : ∀ x ∈ s.held, x.n = m.n → x = m := fun x hx e => hR.uniq (h.sub x (.inr hx)) hm e
    refine ⟨fun x hx => ?_, putM_diff hs h.dh, fun x hx => ?_, h.rise, h.lt, h.cov, h.lr, h.ll⟩
    · rcases hx with y | y
      · exact h.sub x (.inl y)
      · rcases (putM_mem hs).mp y with w | w
        · exact h.sub x (.inr w)
        · rw [w]; exact hm
    · rcases (putM_mem hs).mp hx with w | w
      · exact h.ge x w
      · rw [w]; exact z
  · rw [if_neg z]; exact h
theorem Hw0.adds {R : List Msg} (hR : Rows R) : ∀ (ms : List Msg) {s : HS}, Hw0 R s → (∀ m ∈ ms, m ∈ R) → Hw0 R (ms.foldl addS s)
  | [], _, h, _ => h
  | m :: r, s, h, hm => by rw [List.foldl_cons]; exact Hw0.adds hR r (h.add hR (hm m (by simp))) fun x hx => hm x (by simp [hx])
theorem Hw.take {R : List Msg} (hR : Rows R) {s : HS} (h : Hw R s) {ms : List Msg} (hm : ∀ m ∈ ms, m ∈ R) : Hw R (takeS s ms) := (h.toHw0.adds hR ms hm).hear
theorem Hw0.fits {R : List Msg} (hR : Rows R) {s : HS} (h : Hw0 R s) {ms : List Msg} (hm : ∀ m ∈ ms, m ∈ R) : Fits s ms :=
  ⟨fun m hm' x hx e => hR.uniq (h.sub x hx) (hm m hm') e, fun m hm' x hx e => hR.uniq (hm x hx) (hm m hm') e⟩
/-! ### catching up -/
theorem Hw0.up {R : List Msg} (hR : Rows R) {s : HS} (h : Hw0 R s) : s.next ≤ (R.length : Int) + 1 := by
  have hp := s.next_pos
  by_cases z : s.next = 1
  · omega
  · rcases h.cov (s.next - 1) (by omega) (by omega) with ⟨m, hm, e⟩ | y
    · obtain ⟨i, hi, _, en⟩ := hR.at (h.sub m (.inl hm)); omega
    · have := (h.ll _ y).2.2.1; omega
end L2
namespace L2
open PySem PySem.Spec PyProof.Rows PySem.W
theorem TAt.live {C : Addr} {H : Hp} {p : Addr} {k r : Int} {all : List Msg} {s d : Addr} (h : TAt C H p k r all s d) : ∀ c ∈ [p, s, d], ∃ o, H c = some o := by
  obtain ⟨⟨dx, h1⟩, ⟨ys, h2, h3⟩, ⟨kvs, h4, h5⟩⟩ := h
  intro c hc
  simp only [List.mem_cons, List.not_mem_nil, or_false] at hc
  rcases hc with rfl | rfl | rfl
  · exact ⟨_, h1⟩
  · exact ⟨_, h2⟩
  · exact ⟨_, h4⟩
theorem TAt.out {C : Addr} {H H' : Hp} {p : Addr} {k r : Int} {all : List Msg} {s d : Addr} {ps ps' : List Addr} (h : TAt C H p k r all s d) (st : Stp ps H ps' H') (hd : ∀ c ∈ [p, s, d], c ∉ ps) : ∀ c ∈ [p, s, d], c ∉ ps' := fun c hc => by
  obtain ⟨o, ho⟩ := h.live c hc
  exact st.out ho (hd c hc)
end L2

namespace L2
open PySem PySem.Spec PyProof.Rows PySem.W
/-! ### a hearer that refuses -/
end L2

namespace L2
open PySem PySem.Spec PyProof.Rows PySem.W
/-! ### dict(d) -/
/-! ### a law's own hearer: a dict of rows, held, gone -/
structure LA where
  m : Addr
  q : Addr
  h : Addr
  g : Addr
def LA.fp (a : LA) : List Addr := [a.m, a.q, a.h, a.g]
def lK (a : LA) : List (Key × V) := [(Sum.inr "rows", .ref a.q), (Sum.inr "held", .ref a.h), (Sum.inr "gone", .ref a.g)]
structure LAt (H : Hp) (a : LA) (s : HS) : Prop where
  ob : H a.m = some (.dK (lK a))
  ro : ∃ ys, H a.q = some (.lst ys) ∧ Ms H ys s.heard
  he : ∃ kvs, H a.h = some (.dK kvs) ∧ DI H kvs s.held
  go : H a.g = some (.lst (s.lost.map V.int))
  nqg : a.q ≠ a.g
  nmh : a.m ≠ a.h
section
variable {H H' : Hp} {a : LA} {s : HS}
theorem LAt.live (h : LAt H a s) : ∀ c ∈ a.fp, ∃ o, H c = some o := by
  obtain ⟨h1, ⟨ys, h2, _⟩, ⟨kvs, h3, _⟩, h4, _, _⟩ := h
  intro c hc
  simp only [LA.fp, List.mem_cons, List.not_mem_nil, or_false] at hc
  rcases hc with rfl | rfl | rfl | rfl
  · exact ⟨_, h1⟩
  · exact ⟨_, h2⟩
  · exact ⟨_, h3⟩
  · exact ⟨_, h4⟩
theorem LAt.step {ps ps' : List Addr} (h : LAt H a s) (st : Stp ps H ps' H') (hd : ∀ c ∈ a.fp, c ∉ ps) : LAt H' a s := by
  obtain ⟨h1, ⟨ys, h2, m2⟩, ⟨kvs, h3, d3⟩, h4, h5, h6⟩ := h
  exact ⟨st.keep h1 (hd _ (by simp [LA.fp])), ⟨ys, st.keep h2 (hd _ (by simp [LA.fp])), m2.step st⟩, ⟨kvs, st.keep h3 (hd _ (by simp [LA.fp])), d3.tups st.tup⟩, st.keep h4 (hd _ (by simp [LA.fp])), h5, h6⟩
theorem LAt.same (h : LAt H a s) (e : Same H H') : LAt H' a s := h.step (e.step []) fun _ _ => List.not_mem_nil
theorem LAt.free (h : LAt H a s) {c : Addr} (hc : H c = none) : c ∉ a.fp := fun z => by
  obtain ⟨o, ho⟩ := h.live c z
  rw [ho] at hc; cases hc
theorem LAt.apart (h : LAt H a s) : a.m ≠ a.q ∧ a.m ≠ a.h ∧ a.m ≠ a.g ∧ a.q ≠ a.h ∧ a.q ≠ a.g ∧ a.h ≠ a.g := by
  obtain ⟨h1, ⟨ys, h2, _⟩, ⟨kvs, h3, _⟩, h4, h5, h6⟩ := h
  exact ⟨ne_of h1 h2 (by intro z; cases z), h6, ne_of h1 h4 (by intro z; cases z), ne_of h2 h3 (by intro z; cases z), h5, ne_of h3 h4 (by intro z; cases z)⟩
end
end L2

namespace L2
open PySem PySem.Spec PyProof.Rows PySem.W
/-! ### sum(xs), xs.index(n) of ints -/
section
variable {X : Cx}
end
/-! ### comprehensions over ints -/
def IFlt (H : Hp) (ns : List Int) (p : Int → Bool) (f : Int → V) : Nat → List V → Hp → Prop := fun i ys H2 => H2 = H ∧ ys = ((ns.take i).filter p).map f
section
variable {K : PySem.W.Frag} {a : Addr} {ns : List Int} {g : TG} {tc : TT} {te : TE} {τ : St} {H : Hp} {f : Int → V} {p : Int → Bool}
theorem IFlt.zero : IFlt H ns p f 0 [] H := ⟨rfl, by simp⟩
theorem IFlt.next {i : Nat} (hi : i < ns.length) {ys : List V} (h : ys = ((ns.take i).filter p).map f) : (p ns[i] = true → ys ++ [f ns[i]] = ((ns.take (i + 1)).filter p).map f) ∧ (p ns[i] = false → ys = ((ns.take (i + 1)).filter p).map f) := by
  subst h
  rw [List.take_add_one, List.getElem?_eq_getElem hi]
  refine ⟨fun hp => ?_, fun hp => ?_⟩
  · rw [Option.toList_some, List.filter_append, List.map_append, List.filter_cons_of_pos hp]; rfl
  · rw [Option.toList_some, List.filter_append, List.map_append, List.filter_cons_of_neg (by rw [hp]; decide)]; simp
theorem IFlt.step (ha : H a = some (.lst (ns.map V.int)))
    (hs : ∀ n (R : VK) (N : Hp → Prop), n ∈ ns → (p n = true → R (f n) H) → (p n = false → N H) → g (.int n) τ H fun σ4 H4 => tc σ4 H4 fun b H5 => if b = true then te σ4 H5 R else N H5) :
    ∀ i ys H2, i < ns.length → IFlt H ns p f i ys H2 → (Itl K a).go i H2 ∧ ∀ x H3, (Itl K a).yld i H2 x H3 → g x τ H3 fun σ4 H4 => tc σ4 H4 fun b H5 => if b = true then te σ4 H5 fun y H6 => IFlt H ns p f (i + 1) (ys ++ [y]) H6 else IFlt H ns p f (i + 1) ys H5 := by
  rintro i ys H2 hi ⟨rfl, hy⟩
  have ec : (ns.map V.int)[i]? = some (V.int ns[i]) := by rw [List.getElem?_map, List.getElem?_eq_getElem hi]; rfl
  refine ⟨⟨_, .int ns[i], SqL.ofL ha, ec⟩, ?_⟩
  rintro x H3 ⟨rfl, hx⟩
  have hx' := hx _ (SqL.ofL ha)
  rw [ec] at hx'
  obtain rfl := Option.some.inj hx'
  obtain ⟨n1, n2⟩ := IFlt.next (p := p) (f := f) hi hy
  exact hs _ _ _ (List.getElem_mem hi) (fun hp => ⟨rfl, n1 hp⟩) (fun hp => ⟨rfl, n2 hp⟩)
theorem IFlt.done (ha : H a = some (.lst (ns.map V.int))) {ys : List V} {H2 : Hp} (h : IFlt H ns p f ns.length ys H2) : (Itl K a).stop ns.length H2 ∧ H = H2 ∧ ys = (ns.filter p).map f := by
  obtain ⟨rfl, rfl⟩ := h
  rw [List.take_length]
  exact ⟨⟨_, SqL.ofL ha, by rw [List.length_map]; exact Nat.le_refl _⟩, rfl, rfl⟩
end
/-- over a range: what is told of each number, the heap may grow -/
def IRng (H : Hp) (lo : Int) (f : Int → V) : Nat → List V → Hp → Prop := fun i ys H2 => Same H H2 ∧ ys = (List.range i).map fun (j : Nat) => f (lo + (j : Int))
section
variable {g : TG} {tc : TT} {te : TE} {τ : St} {H : Hp} {f : Int → V} {lo : Int} {n : Nat}
theorem IRng.zero : IRng H lo f 0 [] H := ⟨Same.refl H, rfl⟩
theorem IRng.step (hs : ∀ (j : Nat) H2 (R : VK) (N : Hp → Prop), j < n → Same H H2 → (∀ H3, Same H2 H3 → R (f (lo + (j : Int))) H3) → g (.int (lo + (j : Int))) τ H2 fun σ4 H4 => tc σ4 H4 fun b H5 => if b = true then te σ4 H5 R else N H5) :
    ∀ i ys H2, i < n → IRng H lo f i ys H2 → (Itr lo n).go i H2 ∧ ∀ x H3, (Itr lo n).yld i H2 x H3 → g x τ H3 fun σ4 H4 => tc σ4 H4 fun b H5 => if b = true then te σ4 H5 fun y H6 => IRng H lo f (i + 1) (ys ++ [y]) H6 else IRng H lo f (i + 1) ys H5 := by
  rintro i ys H2 hi ⟨s2, rfl⟩
  refine ⟨hi, ?_⟩
  rintro x H3 ⟨rfl, rfl⟩
  refine hs i _ _ _ hi s2 fun H4 s4 => ⟨s2.trans s4, ?_⟩
  rw [List.range_succ, List.map_append]; rfl
end
end L2

namespace L2
open PySem PySem.Spec PyProof.Rows PySem.W
/-! ### try .. except C: that keeps the names' values -/
def PassesG (σ0 : St) (CX : CXT) (X : Cx) (E : XK) : Prop := ∀ (pins : List (Addr × Obj)) (H : Hp) (s : Shared) (e : Value) (s' : Shared), Inv X pins σ0 H s → CX X.stack H s E e s' → X.xe e s'
def tAtG (σ0 : St) (t : TE) : TE := fun σ H Q => σ = σ0 ∧ t σ H Q
section
variable {X : Cx} {CX : CXT} {k : Nat} {f C : Addr} {fd : FuncData} {ps : List Str} {sp : Sp} {E : XK} {m : Str} {p pos apos : Pos} {e o : Expr} {es : List Expr} {ta : TE} {t : TA} {σ0 : St}
theorem run_fnG {pins : List (Addr × Obj)} {H : Hp} {s : Shared} {Q : VK} {us : List Value} {vs : List V} (F : FnOk X.prog X.w X.K X.mg X.base CX k f fd ps sp) (hr : Room k X.A) (hb : Binds X.K fd ps []) (hx : PassesG σ0 CX X E)
    (I : Inv X pins σ0 H s) (r : Vals vs us) (h : sp (vs ++ []) H Q E) : wpAny (model X.prog X.w) X.A (call (.ref f) us) (EP X pins σ0 Q) X.xe s := by
  have r2 : Vals (vs ++ []) (us ++ []) := r.append .nil
  have hl : (us ++ []).length = ps.length := by rw [← r2.length]; exact F.len _ _ _ _ h
  refine wpAny_call (codeAny_mono (F.run X.A X.stack s H ⟨us, []⟩ (us ++ []) (vs ++ []) Q E hr I.env0 (hb s us I.kIn hl) r2 h) fun r s' hq => ?_)
  cases r with
  | error e => exact hx pins H s e s' I hq
  | ok fl =>
    cases fl with
    | ret u => exact I.after hq
    | next => exact False.elim hq
    | brk => exact False.elim hq
    | cont => exact False.elim hq
theorem as_methG {pl : Sem Bool} (M : CalleeMX X.prog X.w X.K X.mg X.base k C m ps sp) (c : Cls X.K C) (hr : Room k X.A) (hx : PassesG σ0 (CXF X.prog X.w) X E) (he : PE X o ta) (ha : PAt X e es t)
    (ht : eval (.Call (.Attribute o m apos) (e :: es) [] pos) X.env = (do
      let ov ← eval o X.env
      standAt apos.atName
      let (f, first) ← holding [ov] (getMethod ov m pl)
      callWith pos f first (backTo pos (starEach (e :: es) X.env)) (backToKw pos (keywordEach [] X.env))) := by rfl) :
    PE X (.Call (.Attribute o m apos) (e :: es) [] pos) (tAtG σ0 (tMeth C m sp [] E ta t)) := by
  obtain ⟨f, fd, F, hm, hb⟩ := M.ex
  have hst := ha.all.he ha.tl
  have hpl : (backTo pos (starEach es X.env)).any (·.1) = false := by rw [ha.tl]; exact back_any _ _ _
  intro pins s σ H Q I h
  obtain ⟨rfl, h⟩ := h
  refine PySem.W.methodCall_KW (pl := pl) (thn (he pins s σ H _ I h) fun u s1 ⟨x, H1, I1, rx, a, dx, fs, ex, ea, l, q⟩ => ?_) ht
  subst ex
  obtain rfl : u = Value.ref a := rx
  refine getmeth_ok I1 ea c hm l ?_
  refine PySem.W.callWith_K (first := [.ref a]) (h₀ := X.base) I.ok.mod.kin hm.kp (thn (ha.all.pa pos pins s1 σ H1 _ I1 q) fun us s2 ⟨vs, H2, I2, r, q2⟩ => ⟨I2.kIn, ?_⟩) hst hpl
  exact run_fnG (us := .ref a :: us) (vs := .ref a :: vs) F hr hb hx I2 (.cons rfl r) q2
end
def tTryK (K : PySem.W.Frag) (C : Addr) (tb : XK → St → TS) (ts : TS) : TS := fun D σ H => ∃ E : XK, tb E σ D σ H ∧ ∀ cls a H', E cls none H' → H' a = none → PySem.W.exmOne K cls (.ref C) = some true ∧ ts D σ H'
section
variable {X : Cx} {body : List Stmt} {x : Str} {b0 : Stmt} {suite : List Stmt} {np hpos pos : Pos} {tb : XK → St → TS} {ts : TS} {C : Addr}
theorem ps_tryK (K : PySem.W.Frag) (hb : ∀ E σ0 pn xe, PassesG σ0 (CXF X.prog X.w) (X.tries pn xe) E → PSs (X.tries pn xe) body (tb E σ0)) (hm : X.mg x = some (.ref C)) (hs : ∀ a, PSs (X.held (.ref a)) (b0 :: suite) ts)
    (hst : X.stack = X.env :: X.outer) (hfr : X.env.frame = some X.env.locals) (hK : X.K = K := by rfl) (hg : Gl X x := by rfl) (hd : (x == ("__debug__" : Str)) = false := by decide) :
    PS X (.Try body [.ExceptHandler (some (.Name x np)) none (b0 :: suite) hpos] [] [] pos) (tTryK K C tb ts) := by
  subst hK
  intro pins s σ H D I h
  obtain ⟨E, h1, h2⟩ := h
  have hp : PassesG σ (CXF X.prog X.w) (X.tries (X.pn ++ pins) fun e s' => ∃ H0 s0, Inv X pins σ H0 s0 ∧ CXF X.prog X.w X.stack H0 s0 E e s') E := fun pins' H' s' e s'' I' c => ⟨H', s', I'.untries, c⟩
  have B := hb _ _ _ _ hp [] s σ H D I.tries h1
  refine wpAny_Try_except (wpAny_mono B (fun f s1 q => ?_) (fun e s1 q => ?_))
  · cases f with
    | next => obtain ⟨σ', H', I', q'⟩ := q; exact wpAny_execs_nil ⟨σ', H', I'.untries, q'⟩
    | brk => obtain ⟨σ', H', I', q'⟩ := q; exact ⟨σ', H', I'.untries, q'⟩
    | cont => obtain ⟨σ', H', I', q'⟩ := q; exact ⟨σ', H', I'.untries, q'⟩
    | ret u => obtain ⟨v, σ', H', I', r, q'⟩ := q; exact ⟨v, σ', H', I'.untries, r, q'⟩
  · obtain ⟨H0, s0, I0, a, cls, H', rfl, os, bare, ⟨B', a0, hr, Ls, fl, un, hok, cov, hL, sm, han⟩, ha, hE⟩ := q
    obtain ⟨hh, g, d, t, os'⟩ := s1
    obtain rfl : os' = s0.os := os
    have fl' : Heap.FlyingW B' (X.env :: X.outer) a cls a0 hh := by rw [← hst]; exact fl
    refine wpAny_looks_onW (by rw [I0.ok.frames, hst]) hfr fl' fun h4 held4 sm4 => ?_
    refine wpAny_landsW held4 fun h5 fl5 sm5 => ?_
    have sm5' := sm.trans (sm4.trans sm5)
    have I5 := (I0.flown (g' := g) (d' := d) (t' := t) un hok cov hL fl5.1 sm5' bare).held (e := .ref a)
    obtain ⟨hx1, hsu⟩ := h2 cls a H' hE ha
    refine wpAny_handleBy_cons (codeAny_handlers_test (ld_glob (X := X.held (.ref a)) I5 hg hm ?_ hd)) (by intro q; cases q)
    obtain ⟨ob, hob, hobc⟩ := fl5.there
    have LT : Looks (model X.prog X.w) h5 (typeOf (.ref a)) cls := by rw [← hobc]; exact (Looks.ld hob).andThen .now
    refine (exm_one I5.kIn LT hx1).here ?_
    show codeAny _ _ _ _ _
    refine codeAny_handlers_suite ?_
    refine lands_againW fl5 fun h6 fl6 sm6 => ?_
    have sm6' := sm5'.trans sm6
    have I6 := (I0.flown (g' := g) (d' := d) (t' := t) un hok cov hL fl6.1 sm6' bare).held (e := .ref a)
    refine wpAny_mono (hs a pins _ _ _ _ I6 hsu) (fun f s10 q => ?_) (fun _ _ z => z.elim)
    cases f with
    | next => obtain ⟨σ', H2, I10, q'⟩ := q; exact ⟨σ', H2, I10.unheld I.ok.hd, q'⟩
    | brk => obtain ⟨σ', H2, I10, q'⟩ := q; exact ⟨σ', H2, I10.unheld I.ok.hd, q'⟩
    | cont => obtain ⟨σ', H2, I10, q'⟩ := q; exact ⟨σ', H2, I10.unheld I.ok.hd, q'⟩
    | ret u => obtain ⟨v, σ', H2, I10, r, q'⟩ := q; exact ⟨v, σ', H2, I10.unheld I.ok.hd, r, q'⟩
end
end L2

namespace L2
open PySem PySem.Spec PyProof.Rows PySem.W
theorem pass_none {X : Cx} : Passes (CXF X.prog X.w) X E0 := by
  rintro pins σ H s e s' I ⟨a, cls, H', _, _, _, _, _, h⟩
  exact h.elim
/-! ### a window -/
structure WS where
  room : Int
  way : List Msg
  rows : List Msg
  arr : Int
def nF (room : Int) (w r : Addr) (a : Int) : List (Str × V) := [("room", .int room), ("on_way", .ref w), ("row", .ref r), ("arrived", .int a)]
section
variable {room : Int} {w r : Addr} {a : Int}
end
structure WAt (C : Addr) (H : Hp) (p : Addr) (s : WS) (w r : Addr) : Prop where
  ob : ∃ dx, H p = some (.ins C dx (nF s.room w r s.arr))
  wy : ∃ ys, H w = some (.lst ys) ∧ Ms H ys s.way
  ro : ∃ ys, H r = some (.lst ys) ∧ Ms H ys s.rows
  ne : w ≠ r
section
variable {C : Addr} {H H' : Hp} {p : Addr} {s : WS} {w r : Addr}
theorem WAt.step {ps ps' : List Addr} (h : WAt C H p s w r) (st : Stp ps H ps' H') (hd : ∀ c ∈ [p, w, r], c ∉ ps) : WAt C H' p s w r := by
  obtain ⟨⟨dx, h1⟩, ⟨ys, h2, h3⟩, ⟨zs, h4, h5⟩, h6⟩ := h
  exact ⟨⟨dx, st.keep h1 (hd _ (by simp))⟩, ⟨ys, st.keep h2 (hd _ (by simp)), h3.step st⟩, ⟨zs, st.keep h4 (hd _ (by simp)), h5.step st⟩, h6⟩
theorem WAt.out {ps ps' : List Addr} (h : WAt C H p s w r) (st : Stp ps H ps' H') (hd : ∀ c ∈ [p, w, r], c ∉ ps) : ∀ c ∈ [p, w, r], c ∉ ps' := by
  obtain ⟨⟨dx, h1⟩, ⟨ys, h2, h3⟩, ⟨zs, h4, h5⟩, h6⟩ := h
  intro c hc
  have hc' := hd c hc
  simp only [List.mem_cons, List.not_mem_nil, or_false] at hc
  rcases hc with rfl | rfl | rfl
  · exact st.out h1 hc'
  · exact st.out h2 hc'
  · exact st.out h4 hc'
theorem WAt.same (h : WAt C H p s w r) (e : Same H H') : WAt C H' p s w r := h.step (e.step []) fun _ _ => List.not_mem_nil
theorem WAt.free (h : WAt C H p s w r) {c : Addr} (hc : H c = none) : c ∉ [p, w, r] := by
  obtain ⟨⟨dx, h1⟩, ⟨ys, h2, h3⟩, ⟨zs, h4, h5⟩, h6⟩ := h
  simp [(ne_of_none h1 hc).symm, (ne_of_none h2 hc).symm, (ne_of_none h4 hc).symm]
theorem WAt.npr (h : WAt C H p s w r) : p ≠ r := by
  obtain ⟨⟨dx, h1⟩, ⟨ys, h2, h3⟩, ⟨zs, h4, h5⟩, h6⟩ := h
  exact ne_of h1 h4 (by intro z; cases z)
end
end L2

namespace L2
open PySem PySem.Spec PyProof.Rows PySem.W
/-! ### range(lo, hi, step) -/
section
variable {X : Cx} {tg : Expr}
end
/-! ### zip(xs, ys) -/
def Itz (K : PySem.W.Frag) (l1 l2 : Addr) : It :=
  ⟨fun i H => ∃ xs ys x y, SqL K H l1 xs ∧ SqL K H l2 ys ∧ xs[i]? = some x ∧ ys[i]? = some y,
   fun i H v H' => ∃ T x y, v = .ref T ∧ H T = none ∧ H' = upd H T (.tup [x, y]) ∧ (∀ xs, SqL K H l1 xs → xs[i]? = some x) ∧ (∀ ys, SqL K H l2 ys → ys[i]? = some y),
   fun i H => ∃ xs ys, SqL K H l1 xs ∧ SqL K H l2 ys ∧ min xs.length ys.length = i⟩
section
variable {X : Cx} {pins : List (Addr × Obj)} {σ : St} {H : Hp} {s : Shared}
/-- some records of ours have turned -/
theorem Inv.turnedL {h' : Heap} {t' : Nat} {ch : List Addr} (I : Inv X pins σ H s) (k : ∀ b o, b ∉ ch → s.heap.get? b = some o → h'.get? b = some o) (hf : ∀ b ∈ ch, FpOk X pins H b) : Inv X pins σ H { s with heap := h', toks := t' } := by
  have nt : ∀ b u, H b = some u → b ∉ ch := fun b u q z => by rw [(hf b z).1] at q; cases q
  refine I.step (g' := s.gens) (d' := s.drawn) (ch := ch) (fun b hb => ?_) (fun b o _ _ hc q _ => k b o hc q) (fun b o _ _ hc q _ => ⟨o.slots, k b o hc q⟩) (fun _ _ _ _ n => n) (fun b o hc q => ⟨o, k b o hc q⟩)
    (fun _ _ q => q) (fun _ _ _ q => q) (fun b ps q => ⟨#[], by rw [q]; simp⟩) (fun m hm => ?_) (fun b u q => ?_) I.bare
  · obtain ⟨e0, e1, e2, e3, e4, e5⟩ := hf b hb
    exact ⟨e3, e1, e4, e5⟩
  · obtain ⟨o, es, ep, ho, r⟩ := hm
    exact ⟨o, es, ep, k _ _ (fun z => (hf _ z).2.1 rfl) ho, r⟩
  · refine (I.hok b u q).stay (fun c v hc z => ?_) (fun _ z => z) fun _ _ z => z
    rcases hc with rfl | hc
    · exact k _ _ (nt _ _ q) z
    · exact k _ _ (nt _ _ hc) z
end
theorem addr_ne {a b : Nat} (h : a < b ∨ b < a) : @Ne Addr a b := fun e => by
  have : a = b := e
  omega
def ZipSt (z TI TO i1 i2 l1 l2 : Addr) (i : Nat) (h : Heap) : Prop := IsZip h z TI TO .none ∧ IsPair h TI (.ref i1) (.ref i2) ∧ (∃ a b, IsPair h TO a b) ∧ h.IsListIter i1 l1 i ∧ h.IsListIter i2 l2 i
theorem turn_zip {P : Program} {w : World} {K : PySem.W.Frag} {elts : List Expr} {k : Nat} {pos : Pos} (z TI TO i1 i2 l1 l2 : Addr) (D : ZipApart z TI TO i1 i2 l1 l2) : Turn P w K (.Tuple elts k pos) (Itz K l1 l2) [z, TI, TO, i1, i2] z (ZipSt z TI TO i1 i2 l1 l2) where
  mem := by simp
  obj := fun i h st b hb => by
    obtain ⟨hz, hTI, ⟨a, b', hTO⟩, ⟨o1, ho1, _, hd1⟩, ⟨o2, ho2, _, hd2⟩⟩ := st
    simp only [List.mem_cons, List.not_mem_nil, or_false] at hb
    rcases hb with rfl | rfl | rfl | rfl | rfl
    · exact ⟨_, hz, fun v z => by cases z⟩
    · exact ⟨_, hTI, fun v z => by cases z⟩
    · exact ⟨_, hTO, fun v z => by cases z⟩
    · exact ⟨o1, ho1, fun v z => by rw [hd1] at z; cases z⟩
    · exact ⟨o2, ho2, fun v z => by rw [hd2] at z; cases z⟩
  keep := fun i h h' st k => by
    obtain ⟨hz, hTI, ⟨a, b', hTO⟩, ⟨o1, ho1, r1⟩, ⟨o2, ho2, r2⟩⟩ := st
    exact ⟨k z (by simp) _ hz, k TI (by simp) _ hTI, ⟨a, b', k TO (by simp) _ hTO⟩, ⟨o1, k i1 (by simp) _ ho1, r1⟩, ⟨o2, k i2 (by simp) _ ho2, r2⟩⟩
  item := by
    intro X hP hw hK hc i pins s σ H E I hf st hg
    subst hP hw hK
    obtain ⟨xs, ys, x, y, hq1, hq2, hx, hy⟩ := hg
    obtain ⟨its1, rv1, p1, hz1⟩ := I.list hq1
    obtain ⟨its2, rv2, p2, hz2⟩ := I.list hq2
    obtain ⟨u1, hu1, ru1⟩ := rv1.get hx
    obtain ⟨u2, hu2, ru2⟩ := rv2.get hy
    obtain ⟨hz, hTI, hTO, hi1, hi2⟩ := st
    have W := WalksT.zip2 (prog := X.prog) (w := X.w) (A := X.A) (I.ok.hd hc) z TI TO i1 i2 l1 l2 D its1.toArray its2.toArray
    have hin : i < min its1.toArray.size its2.toArray.size := by
      have a1 := (List.getElem?_eq_some_iff.mp hu1).1
      have a2 := (List.getElem?_eq_some_iff.mp hu2).1
      simp only [List.size_toArray]
      omega
    refine W.item i s _ _ hin ⟨hz, hTI, hTO, hi1, hi2, p1.isList, p2.isList⟩ fun T vals h' tk hPt hT hIs hMid kk => ?_
    obtain ⟨x1, y1, hPx, hPy, rfl⟩ := hPt
    have hx1 : x1 = u1 := by
      have q : its1.toArray[i]? = some x1 := hPx
      rw [show its1.toArray[i]? = its1[i]? by simp, hu1] at q
      exact (Option.some.inj q).symm
    have hy1 : y1 = u2 := by
      have q : its2.toArray[i]? = some y1 := hPy
      rw [show its2.toArray[i]? = its2[i]? by simp, hu2] at q
      exact (Option.some.inj q).symm
    subst hx1 hy1
    refine ⟨_, rfl, W.go elts k pos i T _ _ _ hMid fun h2 st2 kk2 => ?_⟩
    have kall : ∀ b o, b ∉ [z, TO, i1, i2] → s.heap.get? b = some o → h2.get? b = some o := fun b o hb q => kk2 b o (fun e => hb (by simp at e ⊢; simp [e])) (kk b o hb q)
    have I2 : Inv X pins σ H { s with heap := h2, toks := tk } := I.turnedL kall (fun b hb => hf b (by simp only [List.mem_cons, List.not_mem_nil, or_false] at hb ⊢; rcases hb with e | e | e | e <;> simp [e]))
    have hTe : T ∉ [z, TO, i1, i2] := W.apart i T h' hMid
    have hTn : H T = none := I.hok.fresh hT
    have hTI' : T ≠ TI := fun e => by
      have q : s.heap.get? TI = some _ := hTI
      exact absurd (Heap.lt_size q) (by rw [← e]; exact Nat.not_lt.mpr hT)
    obtain ⟨oT, hoT, hcT, nT, hdT⟩ := hIs
    have hoT2 := kk2 T oT (fun e => hTe (by simp at e ⊢; simp [e])) hoT
    have I3 := I2.track (D := T) (o := .tup [x, y]) (I.fpOk hT hTn) ⟨(show 2 ≤ sizeLine by decide), [x1, y1], .cons ru1 (.cons ru2 .nil), oT, hoT2, hcT, nT, hdT⟩
    refine ⟨.ref T, _, I3, rfl, ⟨T, x, y, rfl, hTn, rfl, fun zs hy => by rw [I.list_inj hy hq1]; exact hx, fun zs hy' => by rw [I.list_inj hy' hq2]; exact hy⟩, ⟨st2.1, st2.2.1, st2.2.2.1, st2.2.2.2.1, st2.2.2.2.2.1⟩, fun b hb => ?_⟩
    have hTb : b ≠ T := fun e => by
      rw [e] at hb
      simp only [List.mem_cons, List.not_mem_nil, or_false] at hb hTe
      rcases hb with e | e | e | e | e
      · exact hTe (.inl e)
      · exact hTI' e
      · exact hTe (.inr (.inl e))
      · exact hTe (.inr (.inr (.inl e)))
      · exact hTe (.inr (.inr (.inr e)))
    rw [upd_ne hTb]
    exact (hf b hb).1
  done := by
    intro X hP hw hK hc i pins s σ H E I hf st hg
    subst hP hw hK
    obtain ⟨xs, ys, hq1, hq2, hx⟩ := hg
    obtain ⟨its1, rv1, p1, hz1⟩ := I.list hq1
    obtain ⟨its2, rv2, p2, hz2⟩ := I.list hq2
    obtain ⟨hz, hTI, hTO, hi1, hi2⟩ := st
    have W := WalksT.zip2 (prog := X.prog) (w := X.w) (A := X.A) (I.ok.hd hc) z TI TO i1 i2 l1 l2 D its1.toArray its2.toArray
    have hin : min its1.toArray.size its2.toArray.size = i := by
      rw [← hx, rv1.length, rv2.length]; simp
    refine W.done s _ _ (by rw [hin]; exact ⟨hz, hTI, hTO, hi1, hi2, p1.isList, p2.isList⟩) fun h' tk kk => ⟨rfl, I.turnedL (fun b o hb q => kk b o hb q) (fun b hb => hf b (by simp only [List.mem_cons, List.not_mem_nil, or_false] at hb ⊢; rcases hb with e | e | e | e <;> simp [e]))⟩
  self := fun A i s Q E st h => wpAny_pyIter_zip st.1 h
def iZip (K : PySem.W.Frag) (ta : TA) : TI := fun σ H R => ta σ H fun vs H1 => ∃ a b, vs = [.ref a, .ref b] ∧ (∃ xs, SqL K H1 a xs) ∧ (∃ ys, SqL K H1 b ys) ∧ R (Itz K a b) H1
section
variable {X : Cx} {elts : List Expr} {k : Nat} {tpos : Pos}
theorem pi_zip (K : PySem.W.Frag) {a b : Expr} {ta : TA} {p pos : Pos} (hm : X.mg "zip" = none) (ha : PA X [a, b] ta) (hK : X.K = K := by rfl) (hg : Gl X "zip" := by rfl) (hs : starEach [a, b] X.env = [(false, eval a X.env), (false, eval b X.env)] := by rfl) (hs2 : starEach [b] X.env = [(false, eval b X.env)] := by rfl) :
    PI X (.Tuple elts k tpos) (.Call (.Name "zip" p) [a, b] [] pos) (iZip K ta) := by
  subst hK
  intro pins s σ H R I h
  refine Call_ (ld_blt I hg hm boot_zip (PyProof.Rows.callWith_type1 (thn (ha pos pins s σ H _ I h) fun us s1 ⟨vs, H1, I1, r1, q1⟩ => ?_) (by rw [hs, hs2]) (by rw [hs2]; rfl)))
  obtain ⟨l1, l2, e, ⟨xs, hq1⟩, ⟨ys, hq2⟩, q⟩ := q1
  subst e
  cases r1 with
  | cons r rr =>
    cases rr with
    | cons r' rr =>
      cases rr
      cases r
      cases r'
      obtain ⟨its1, rv1, pl1, hz1⟩ := I1.list hq1
      obtain ⟨its2, rv2, pl2, hz2⟩ := I1.list hq2
      have lt1 : l1 < s1.heap.objs.size := by obtain ⟨o, ho, _⟩ := pl1.isList; exact Heap.lt_size ho
      have lt2 : l2 < s1.heap.objs.size := by obtain ⟨o, ho, _⟩ := pl2.isList; exact Heap.lt_size ho
      refine call_zip_2 pl1.isList pl2.isList fun h2 hz hTI hTO hi1 hi2 hsz kk => ?_
      refine wpAny_pyIter_zip hz ?_
      have I2 : Inv X pins σ H1 { s1 with heap := h2 } := I1.kept (t' := s1.toks) kk
      refine ⟨s1.heap.objs.size + 4, [s1.heap.objs.size + 4, s1.heap.objs.size + 2, s1.heap.objs.size + 3, s1.heap.objs.size, s1.heap.objs.size + 1], _, _, H1, rfl, I2,
        turn_zip _ _ _ _ _ l1 l2 ⟨addr_ne (by omega), addr_ne (by omega), addr_ne (by omega), addr_ne (by omega), addr_ne (by omega), addr_ne (by omega), addr_ne (by omega), addr_ne (by omega), addr_ne (by omega), addr_ne (by omega), addr_ne (.inl (Nat.lt_add_right 4 lt1)), addr_ne (.inl (Nat.lt_add_right 3 lt1)), addr_ne (.inl lt1), addr_ne (.inl (Nat.lt_add_right 1 lt1)), addr_ne (.inl (Nat.lt_add_right 4 lt2)), addr_ne (.inl (Nat.lt_add_right 3 lt2)), addr_ne (.inl lt2), addr_ne (.inl (Nat.lt_add_right 1 lt2))⟩, ⟨hz, hTI, ⟨_, _, hTO⟩, hi1, hi2⟩, fun b hb => ?_, q⟩
      have hle : s1.heap.objs.size ≤ b := by
        simp only [List.mem_cons, List.not_mem_nil, or_false] at hb
        rcases hb with e | e | e | e | e
        · rw [e]; exact Nat.le_add_right _ _
        · rw [e]; exact Nat.le_add_right _ _
        · rw [e]; exact Nat.le_add_right _ _
        · rw [e]; exact Nat.le_refl _
        · rw [e]; exact Nat.le_add_right _ _
      exact I1.fpOk hle (I1.hok.fresh hle)
end
end L2

namespace L2
open PySem PySem.Spec PyProof.Rows PySem.W
/-! ### a set's table: its places rise -/
def Ris (xs : Array Nat) : Prop := ∀ (i j : Nat) (hi : i < xs.size) (hj : j < xs.size), i < j → xs[i] < xs[j]
theorem Ris.le {xs : Array Nat} (h : Ris xs) {i j : Nat} (hi : i < xs.size) (hj : j < xs.size) (e : i ≤ j) : xs[i] ≤ xs[j] := by
  rcases Nat.lt_or_eq_of_le e with z | z
  · exact Nat.le_of_lt (h i j hi hj z)
  · subst z; exact Nat.le_refl _
theorem below_go {xs : Array Nat} {j : Nat} (hr : Ris xs) : ∀ (fuel lo hi : Nat), hi - lo ≤ fuel → lo ≤ hi → hi ≤ xs.size → (∀ i (h : i < xs.size), i < lo → xs[i] < j) → (∀ i (h : i < xs.size), hi ≤ i → j ≤ xs[i]) →
    SetTable.below.go xs j fuel lo hi ≤ xs.size ∧ (∀ i (h : i < xs.size), i < SetTable.below.go xs j fuel lo hi → xs[i] < j) ∧ (∀ i (h : i < xs.size), SetTable.below.go xs j fuel lo hi ≤ i → j ≤ xs[i])
  | 0, lo, hi, hf, hl, hs, h1, h2 => by
    have e : hi = lo := by omega
    subst e
    exact ⟨hs, h1, h2⟩
  | fuel + 1, lo, hi, hf, hl, hs, h1, h2 => by
    unfold SetTable.below.go
    by_cases z : lo < hi
    · rw [if_pos z]
      have hm : (lo + hi) / 2 < xs.size := by omega
      dsimp only
      rw [Array.getD_eq_getD_getElem?, Array.getElem?_eq_getElem hm, Option.getD_some]
      by_cases y : xs[(lo + hi) / 2] < j
      · rw [if_pos y]
        exact below_go hr fuel _ _ (by omega) (by omega) hs (fun i h hi => Nat.lt_of_le_of_lt (hr.le h hm (by omega)) y) h2
      · rw [if_neg y]
        exact below_go hr fuel _ _ (by omega) (by omega) (by omega) h1 (fun i h hi => Nat.le_trans (Nat.not_lt.mp y) (hr.le hm h hi))
    · rw [if_neg z]
      have e : hi = lo := by omega
      subst e
      exact ⟨hs, h1, h2⟩
theorem below_spec {xs : Array Nat} (hr : Ris xs) (j : Nat) : SetTable.below xs j ≤ xs.size ∧ (∀ i (h : i < xs.size), i < SetTable.below xs j → xs[i] < j) ∧ (∀ i (h : i < xs.size), SetTable.below xs j ≤ i → j ≤ xs[i]) :=
  below_go hr xs.size 0 xs.size (by omega) (Nat.zero_le _) (Nat.le_refl _) (fun i h z => by omega) (fun i h z => by omega)
/-- a table in order, of n -/
structure OkT (t : SetTable) (n : Nat) : Prop where
  fits : t.fits n = true
  ris : Ris t.place
  nd : t.dummies = #[]
end L2

namespace L2
open PySem PySem.Spec PyProof.Rows PySem.W
/-! ### a set in the heap, its order kept -/
section
variable {prog : Program} {w : World} {K : Type} [DecidableEq K] (knd : KeyKind prog w K)
def Apart (e f : Int × Value) : Prop := ∀ k, knd.is k e.2 = true → knd.is k f.2 = true → False
structure KObj (o : Obj) (es : Array (Int × Value)) (ep : Nat) (t : SetTable) (S : K → Prop) : Prop where
  ex : o.ExactSet
  data : o.data = .set es ep t
  el : ElemsOf knd es.toList
  mem : ∀ k, S k ↔ ∃ e ∈ es.toList, knd.is k e.2 = true
  apart : es.toList.Pairwise (Apart knd)
  few : es.size < scanBound
  ok : OkT t es.size
  led : t.led = !w.params.followText "set-order"
def KSet (h : Heap) (a : Addr) (S : K → Prop) (n : Nat) : Prop := ∃ o es ep t, h.get? a = some o ∧ KObj knd o es ep t S ∧ es.size ≤ n
variable {knd} {A : Around} {E : Value → Shared → Prop} {s : Shared}
theorem KSet.at' {h h' : Heap} {a : Addr} {S : K → Prop} {n : Nat} (x : KSet knd h a S n) (e : ∀ o, h.get? a = some o → h'.get? a = some o) : KSet knd h' a S n := let ⟨o, es, ep, t, ho, r⟩ := x; ⟨o, es, ep, t, e _ ho, r⟩
theorem KObj.store {h : Heap} {a : Addr} {o : Obj} {es : Array (Int × Value)} {ep : Nat} {t : SetTable} {S : K → Prop} (x : KObj knd o es ep t S) (ho : h.get? a = some o) {es' : Array (Int × Value)} {t' : SetTable} {S' : K → Prop}
    (hel : ElemsOf knd es'.toList) (hmem : ∀ k, S' k ↔ ∃ e ∈ es'.toList, knd.is k e.2 = true) (hap : es'.toList.Pairwise (Apart knd)) (hb : es'.size < scanBound) (hok : OkT t' es'.size) (hl : t'.led = !w.params.followText "set-order") :
    (h.update a (Obj.putSet es' t')).get? a = some { o with data := .set es' (ep + 1) t' } ∧ KObj knd { o with data := .set es' (ep + 1) t' } es' (ep + 1) t' S' := by
  have hg : (h.update a (Obj.putSet es' t')).get? a = some { o with data := .set es' (ep + 1) t' } := by
    have := Heap.get?_update_self (Obj.putSet es' t') ho (by rw [putSet_of es' t' x.data]; rfl)
    rw [putSet_of es' t' x.data] at this; exact this
  exact ⟨hg, x.ex, rfl, hel, hmem, hap, hb, hok, hl⟩
end
/-! ### set(xs) -/
section
variable {prog : Program} {w : World} {K : Type} [DecidableEq K] {knd : KeyKind prog w K} {A : Around} {R : Result → Shared → Prop} {I : Addr} {fp wr : List Addr} {G : Array GenState → Array GenState → Prop} {n : Nat} {P : Nat → Value → Prop} {St : Nat → Shared → Prop}
end
section
variable {prog : Program} {w : World} {K : Type} [DecidableEq K] {knd : KeyKind prog w K} {A : Around} {E : Value → Shared → Prop} {s : Shared}
end
end L2

namespace L2
open PySem PySem.Spec PyProof.Rows PySem.W
/-! ### a set walked -/
section
variable {prog : Program} {w : World} {K : Type} [DecidableEq K] {knd : KeyKind prog w K} {A : Around} {E : Value → Shared → Prop} {s : Shared}
theorem wp_byText {Q : Bool → Shared → Prop} (h : Q (w.params.followText "set-order") s) : wpAny (model prog w) A setsByText Q E s := by
  unfold setsByText
  exact wpAny_bind (wpAny_askSetting (wpAny_pure h))
theorem set_it_next : Slot "set_iterator" "__next__" "set_iterator.__next__" :=
  .of (owner := "set_iterator") (n := "__next__") (by rw [typeLookup_type, builtinLookup_eq_fast]; kernel_rfl) (by decide +kernel) (by decide +kernel) (by decide +kernel)
    (by first | exact .inl (by decide +kernel) | exact .inr (by decide +kernel)) (by rw [isSubtype_type]; kernel_rfl)
theorem set_it_entry : entryFor table "set_iterator.__next__" = some Builtin.«set_iterator.__next__» := entryFor_of_tree (by kernel_rfl)
theorem owner_set_it : Manifest.owners.lookup (String.ofList ['r', 'o', 't', 'a', 'r', 'e', 't', 'i', '_', 't', 'e', 's'].reverse) = some Manifest.sig_set_iterator := by kernel_rfl
theorem set_it_args (a : Value) : argsOk "set_iterator.__next__" ⟨[a], []⟩ := by
  unfold argsOk; rw [signature?_of (id := "set_iterator.__next__") (n := ['_', '_', 't', 'x', 'e', 'n', '_', '_']) (o := ['r', 'o', 't', 'a', 'r', 'e', 't', 'i', '_', 't', 'e', 's']) (by kernel_rfl) owner_set_it]; kernel_rfl
theorem set_it_iter : Slot "set_iterator" "__iter__" "set_iterator.__iter__" :=
  .of (owner := "set_iterator") (n := "__iter__") (by rw [typeLookup_type, builtinLookup_eq_fast]; kernel_rfl) (by decide +kernel) (by decide +kernel) (by decide +kernel)
    (by first | exact .inl (by decide +kernel) | exact .inr (by decide +kernel)) (by rw [isSubtype_type]; kernel_rfl)
theorem set_it_ientry : entryFor table "set_iterator.__iter__" = some Builtin.«dict_keyiterator.__iter__» := entryFor_alias (id' := "dict_keyiterator.__iter__") (by kernel_rfl) rfl (by decide +kernel) (by kernel_rfl)
theorem set_it_iargs (a : Value) : argsOk "set_iterator.__iter__" ⟨[a], []⟩ := by
  unfold argsOk; rw [signature?_of (id := "set_iterator.__iter__") (n := ['_', '_', 'r', 'e', 't', 'i', '_', '_']) (o := ['r', 'o', 't', 'a', 'r', 'e', 't', 'i', '_', 't', 'e', 's']) (by kernel_rfl) owner_set_it]; kernel_rfl
/-- the places where a plain table's walk stands -/
def slotAt (t : SetTable) : Nat → Nat
  | 0 => 0
  | i + 1 => (t.place[i]?).getD 0 + 1
theorem slot_below {t : SetTable} (hr : Ris t.place) {i : Nat} (hi : i ≤ t.place.size) : SetTable.below t.place (slotAt t i) = i := by
  obtain ⟨h0, h1, h2⟩ := below_spec hr (slotAt t i)
  cases i with
  | zero =>
    by_cases z : SetTable.below t.place (slotAt t 0) = 0
    · exact z
    · exfalso
      have := h1 0 (by omega) (by omega)
      exact absurd this (Nat.not_lt_zero _)
  | succ i =>
    have hs : slotAt t (i + 1) = t.place[i]'(by omega) + 1 := by
      show (t.place[i]?).getD 0 + 1 = _
      rw [Array.getElem?_eq_getElem (by omega)]; rfl
    have a : ¬ SetTable.below t.place (slotAt t (i + 1)) ≤ i := fun z => by
      have := h2 i (by omega) z
      omega
    have b : ¬ i + 1 < SetTable.below t.place (slotAt t (i + 1)) := fun z => by
      have := h1 (i + 1) (by omega) z
      have := hr i (i + 1) (by omega) (by omega) (Nat.lt_succ_self _)
      omega
    omega
def SDrawn (es : Array (Int × Value)) (t : SetTable) : Bool := !t.plain && decide (es.size > 1)
/-- a set's iterator, i given of ord -/
def SIt (w : World) (I a T : Addr) (o : Obj) (es : Array (Int × Value)) (ep : Nat) (t : SetTable) (ord : List (Int × Value)) (i : Nat) (h : Heap) : Prop :=
  h.get? a = some o ∧ ∃ first oI, h.get? I = some oI ∧ oI.cls = .type "set_iterator" ∧ oI.data = .fields #[first, .int i 0, .ref a, .int es.size 0, .int ep 0] ∧
    ((w.params.followText "set-order" = true ∧ (∃ sl : Nat, first = .int sl 0) ∧ ord = (pickOrder (w.params.setOrder a ep) es).toList) ∨
     (w.params.followText "set-order" = false ∧ SDrawn es t = false ∧ first = .int (slotAt t i) 0 ∧ ord = es.toList) ∨
     (w.params.followText "set-order" = false ∧ SDrawn es t = true ∧ first = .ref T ∧ ∃ oT places c, h.get? T = some oT ∧ oT.data = .seq (places.map fun (i : Nat) => rawInt i).toArray c ∧ List.Perm places (List.range es.size) ∧ ord = places.filterMap fun i => es[i]?))
/-- how an iterator that counts by ints goes on -/
def SMode (w : World) (a : Addr) (es : Array (Int × Value)) (ep : Nat) (t : SetTable) (ord : List (Int × Value)) (i sl : Nat) : Prop :=
  (w.params.followText "set-order" = true ∧ ord = (pickOrder (w.params.setOrder a ep) es).toList) ∨ (w.params.followText "set-order" = false ∧ SDrawn es t = false ∧ sl = slotAt t i ∧ ord = es.toList)
theorem wp_setWalkT {a : Addr} {o : Obj} {es : Array (Int × Value)} {ep : Nat} {t : SetTable} {S : K → Prop} (ho : s.heap.get? a = some o) (X : KObj knd o es ep t S) (hb : w.params.followText "set-order" = true) {Q : Array (Int × Value) → Shared → Prop}
    (h : Q (pickOrder (w.params.setOrder a ep) es) s) : wpAny (model prog w) A (setWalk a) Q E s := by
  unfold setWalk
  refine wpAny_bind (wpAny_setState_of ho X.data X.ok.fits ?_)
  dsimp only
  refine wpAny_bind (wp_byText ?_)
  rw [hb]
  simp only [if_true]
  exact wpAny_bind (wpAny_askSetting (wpAny_pure h))
theorem wp_setNext {a : Addr} {o : Obj} {es : Array (Int × Value)} {ep : Nat} {t : SetTable} {S : K → Prop} {ord : List (Int × Value)} {i sl : Nat} (ho : s.heap.get? a = some o) (X : KObj knd o es ep t S) (hm : SMode w a es ep t ord i sl) (hil : i ≤ es.size) {Q : Option (Value × Nat) → Shared → Prop}
    (h0 : ord[i]? = none → Q none s) (h1 : ∀ e sl', ord[i]? = some e → SMode w a es ep t ord (i + 1) sl' → Q (some (e.2, sl')) s) : wpAny (model prog w) A (setNext a sl i ep) Q E s := by
  unfold setNext
  refine wpAny_bind (wpAny_setState_of ho X.data X.ok.fits ?_)
  dsimp only
  refine wpAny_bind (wp_byText ?_)
  rcases hm with ⟨hb, hord⟩ | ⟨hb, hdr, hsl, hord⟩
  · rw [hb]
    simp only [if_true, bne_self_eq_false, Bool.false_eq_true, if_false]
    refine wpAny_bind (wp_setWalkT ho X hb (wpAny_pure ?_))
    have e : (pickOrder (w.params.setOrder a ep) es)[i]? = ord[i]? := by rw [hord, Array.getElem?_toList]
    rw [e]
    cases hq : ord[i]? with
    | none => exact h0 hq
    | some x => exact h1 x sl hq (.inl ⟨hb, hord⟩)
  · rw [hb]
    simp only [Bool.false_eq_true, if_false]
    show wpAny _ _ (if SDrawn es t = true then _ else _) _ _ s
    rw [hdr]
    simp only [Bool.false_eq_true, if_false]
    have hled : t.led = true := by rw [X.led, hb]; rfl
    show wpAny _ _ ((if (!t.led && !es.isEmpty) = true then unsupported "set:maker-not-led" else pure ()) >>= _) _ _ s
    rw [hled]
    simp only [Bool.not_true, Bool.false_and, Bool.false_eq_true, if_false]
    refine wpAny_bind (wpAny_pure ?_)
    have hps : t.place.size = es.size := by
      have := X.ok.fits
      simp only [SetTable.fits, Bool.and_eq_true, beq_iff_eq] at this
      exact this.1
    rw [hsl, slot_below X.ok.ris (by omega)]
    refine wpAny_pure ?_
    have e : ord[i]? = es[i]? := by rw [hord, Array.getElem?_toList]
    by_cases z : i < es.size
    · have hz : es[i]? = some es[i] := Array.getElem?_eq_getElem z
      have hz2 : t.place[i]? = some (t.place[i]'(by omega)) := Array.getElem?_eq_getElem (by omega)
      have := h1 es[i] (t.place[i]'(by omega) + 1) (by rw [e, hz]) (.inr ⟨hb, hdr, by show _ = (t.place[i]?).getD 0 + 1; rw [hz2]; rfl, hord⟩)
      rw [hz, hz2]
      exact this
    · have hz : es[i]? = none := Array.getElem?_eq_none (by omega)
      rw [hz]
      exact h0 (by rw [e, hz])
theorem stop_set {I : Addr} {oI : Obj} {vs : Array Value} (hh : A.handled = none) (hoI : s.heap.get? I = some oI) (hd : oI.data = .fields vs) (hv : 2 < vs.size) {Q : Option Value → Shared → Prop} (hQ : ∀ h', Heap.ExtBut I s.heap h' → Q none { s with heap := h' }) :
    wpAny (model prog w) A.in1 (do
        setField (Value.ref I) 2 Value.none
        let x ← newExc (Value.type "StopIteration") []
        raiseNew x : Sem Fin)
      (fun fin s' => ∃ v, fin = Fin.done (Flow.ret v) ∧ wpAny (model prog w) A (pure (some v)) Q E s')
      (fun e s' => wpAny (model prog w) A (do
          let b ← isInstance e (Value.type "StopIteration")
          if b = true then pure none else throw e) Q E s') s := by
  refine wpAny_bind (wpAny_setField hoI hd hv ?_)
  refine wpAny_bind ?_
  simp only [newExc, newTuple]
  refine wpAny_bind (wpAny_newObj_type ?_ (by size_fits))
  refine wpAny_bind (m := firstArgMember _ _) (wpAny_of_eq (a := Value.none) (by first | rfl | (simp only [firstArgMember]; rfl)) ?_)
  refine wpAny_newObj_type ?_ (by size_fits)
  simp only [raiseNew]
  refine wpAny_bind (wpAny_handled ?_)
  rw [show A.in1.handled = none from hh]
  refine wpAny_bind (wpAny_pure (wpAny_throw ?_))
  refine wpAny_bind (wpAny_isInstance (T := "StopIteration") (b := true) ⟨_, Heap.get?_push_size _ rfl, rfl⟩ isSubtype_stop ?_)
  exact wpAny_pure (hQ _ (((Heap.SameBut.update ..).extBut.push _).push _))
theorem pick_at {es : Array (Int × Value)} : ∀ {places : List Nat} {i : Nat}, (∀ p ∈ places, p < es.size) → (places.filterMap fun j => es[j]?)[i]? = (places[i]?).bind fun j => es[j]?
  | [], i, _ => by simp
  | p :: r, i, h => by
    have hp : p < es.size := h p (by simp)
    rw [List.filterMap_cons_some (Array.getElem?_eq_getElem hp)]
    cases i with
    | zero => simp [Array.getElem?_eq_getElem hp]
    | succ i => simpa using pick_at (places := r) (i := i) fun q hq => h q (by simp [hq])
theorem pyNext_set {I a T : Addr} {o : Obj} {es : Array (Int × Value)} {ep : Nat} {t : SetTable} {S : K → Prop} {ord : List (Int × Value)} {i : Nat} (hh : A.handled = none) (X : KObj knd o es ep t S) (haI : a ≠ I) (hTI : SDrawn es t = true → T ≠ I) (hil : i ≤ es.size) (st : SIt w I a T o es ep t ord i s.heap) {Q : Option Value → Shared → Prop}
    (h0 : ord[i]? = none → ∀ h', (∀ b u, b ≠ I → s.heap.get? b = some u → h'.get? b = some u) → Q none { s with heap := h' })
    (hQ : ∀ e h', ord[i]? = some e → SIt w I a T o es ep t ord (i + 1) h' → (∀ b u, b ≠ I → s.heap.get? b = some u → h'.get? b = some u) → Q (some e.2) { s with heap := h' }) :
    wpAny (model prog w) A (pyNext (.ref I)) Q E s := by
  obtain ⟨ho, first, oI, hoI, hc, hd, hm⟩ := st
  have hTy : s.TypeIs (.ref I) "set_iterator" := ⟨oI, hoI, hc⟩
  unfold pyNext
  refine wpAny_bind (wpAny_attempt (wpAny_callSpecial?_slot (name := Str.ofString "__next__") hTy set_it_next (wpAny_call_entry set_it_next hTy set_it_entry ?_ (set_it_args _))))
  unfold Builtin.«set_iterator.__next__»
  refine wpAny_bind (wpAny_pure ?_)
  refine wpAny_bind (wpAny_fieldsOf hoI hd ?_)
  dsimp only
  refine wpAny_bind (wpAny_setEntries_of ho X.data X.ok.fits ?_)
  simp only [bne_self_eq_false, Bool.false_eq_true, if_false]
  have key : ∀ sl : Nat, first = .int sl 0 → SMode w a es ep t ord i sl → (∀ sl' : Nat, SMode w a es ep t ord (i + 1) sl' → (w.params.followText "set-order" = true ∧ (∃ x : Nat, Value.int (sl' : Int) 0 = .int x 0) ∧ ord = (pickOrder (w.params.setOrder a ep) es).toList) ∨
     (w.params.followText "set-order" = false ∧ SDrawn es t = false ∧ Value.int (sl' : Int) 0 = .int (slotAt t (i + 1)) 0 ∧ ord = es.toList)) →
    wpAny (model prog w) A.in1 (do
        let r ← setNext a sl i ep
        match r with
        | some (x, next) => do
          setField (Value.ref I) 0 (rawInt ↑next)
          setField (Value.ref I) 1 (rawInt (↑i + 1))
          ret x
        | none => do
          setField (Value.ref I) 2 Value.none
          let x ← newExc (Value.type "StopIteration") []
          raiseNew x)
      (fun fin s' => ∃ v, fin = Fin.done (Flow.ret v) ∧ wpAny (model prog w) A (pure (some v)) Q E s')
      (fun e s' => wpAny (model prog w) A (do
          let b ← isInstance e (Value.type "StopIteration")
          if b = true then pure none else throw e) Q E s') s := fun sl hf hmo hnx => by
    subst hf
    refine wpAny_bind (wp_setNext ho X hmo hil (fun hn => ?_) (fun e sl' he hmo' => ?_))
    · exact stop_set hh hoI hd (by simp) fun h' hx => h0 hn h' fun b u hb hu => hx b u hb hu
    · dsimp only
      refine wpAny_bind (wpAny_setField hoI hd (by simp) ?_)
      have g1 := Heap.get?_update_self (Obj.mapFields (·.setIfInBounds 0 (rawInt (sl' : Int)))) hoI (Obj.isFreed_of_fields (Obj.data_mapFields hd _))
      have d1 := Obj.data_mapFields hd (·.setIfInBounds 0 (rawInt (sl' : Int)))
      refine wpAny_bind (wpAny_setField g1 d1 (by simp) ?_)
      have g2 := Heap.get?_update_self (Obj.mapFields (·.setIfInBounds 1 (rawInt ((i : Int) + 1)))) g1 (Obj.isFreed_of_fields (Obj.data_mapFields d1 _))
      refine wpAny_pure ⟨_, rfl, wpAny_pure (hQ e _ he ⟨?_, _, _, g2, (Obj.cls_mapFields ..).trans ((Obj.cls_mapFields ..).trans hc), by rw [Obj.data_mapFields d1]; rfl, (hnx sl' hmo').elim .inl fun z => .inr (.inl z)⟩ fun b u hb hu => ?_)⟩
      · exact (Heap.get?_update_other _ _ (Ne.symm haI)).trans ((Heap.get?_update_other _ _ (Ne.symm haI)).trans ho)
      · exact (Heap.get?_update_other _ _ (Ne.symm hb)).trans ((Heap.get?_update_other _ _ (Ne.symm hb)).trans hu)
  rcases hm with ⟨hb, ⟨sl, rfl⟩, hord⟩ | ⟨hb, hdr, rfl, hord⟩ | ⟨hb, hdr, rfl, oT, places, c, hT, hTd, hp, hord⟩
  · have := key sl rfl (.inl ⟨hb, hord⟩) fun sl' _ => .inl ⟨hb, ⟨sl', rfl⟩, hord⟩
    exact this
  · have := key (slotAt t i) rfl (.inr ⟨hb, hdr, rfl, hord⟩) fun sl' hm' => .inr (by
      rcases hm' with ⟨hb', _⟩ | ⟨_, _, e, _⟩
      · rw [hb] at hb'; cases hb'
      · exact ⟨hb, hdr, by rw [e], hord⟩)
    exact this
  · dsimp only
    refine wpAny_bind (wpAny_seqItems hT hTd ?_)
    dsimp only
    have hat : ((places.map fun (i : Nat) => rawInt (i : Int)).toArray)[((i : Int)).toNat]? = (places[i]?).map fun (i : Nat) => rawInt (i : Int) := by
      rw [List.getElem?_toArray, List.getElem?_map]; rfl
    have hlt : ∀ p ∈ places, p < es.size := fun p hp' => by simpa using hp.mem_iff.mp hp'
    have hoi : ord[i]? = (places[i]?).bind fun j => es[j]? := by rw [hord]; exact pick_at hlt
    cases hq : places[i]? with
    | none =>
      rw [hq] at hat hoi
      rw [hat]
      refine wpAny_bind (wpAny_setField hoI hd (by simp) ?_)
      have g1 := Heap.get?_update_self (Obj.mapFields (·.setIfInBounds 0 (rawInt 0))) hoI (Obj.isFreed_of_fields (Obj.data_mapFields hd _))
      have d1 := Obj.data_mapFields hd (·.setIfInBounds 0 (rawInt 0))
      exact stop_set (s := { s with heap := s.heap.update I (Obj.mapFields (·.setIfInBounds 0 (rawInt 0))) }) hh g1 d1 (by simp) fun h' hx => h0 hoi h' fun b u hb hu => hx b u hb ((Heap.get?_update_other _ _ (Ne.symm hb)).trans hu)
    | some p =>
      have hps : p < es.size := hlt p (List.mem_of_getElem? hq)
      rw [hq] at hat hoi
      rw [hat]
      dsimp only [Option.map, rawInt]
      have hoi' : ord[i]? = some es[p] := by rw [hoi]; exact Array.getElem?_eq_getElem hps
      have hnd : wpAny (model prog w) A.in1 (setNextDrawn a p ep) (fun x s' => x = es[p].2 ∧ s' = s) (fun e s' => False) s := by
        unfold setNextDrawn
        refine wpAny_bind (wpAny_setState_of ho X.data X.ok.fits ?_)
        dsimp only
        simp only [bne_self_eq_false, Bool.false_eq_true, if_false]
        rw [Array.getElem?_eq_getElem hps]
        exact wpAny_pure ⟨rfl, rfl⟩
      refine wpAny_bind (wpAny_mono hnd (fun x s' hx => ?_) fun _ _ z => z.elim)
      obtain ⟨rfl, rfl⟩ := hx
      refine wpAny_bind (wpAny_setField hoI hd (by simp) ?_)
      have g1 := Heap.get?_update_self (Obj.mapFields (·.setIfInBounds 1 (rawInt ((i : Int) + 1)))) hoI (Obj.isFreed_of_fields (Obj.data_mapFields hd _))
      refine wpAny_pure ⟨_, rfl, wpAny_pure (hQ es[p] _ hoi' ⟨?_, _, _, g1, (Obj.cls_mapFields ..).trans hc, by rw [Obj.data_mapFields hd]; rfl, .inr (.inr ⟨hb, hdr, rfl, oT, places, c, ?_, hTd, hp, hord⟩)⟩ fun b u hb hu => ?_)⟩
      · exact (Heap.get?_update_other _ _ (Ne.symm haI)).trans ho
      · exact (Heap.get?_update_other _ _ (Ne.symm (hTI hdr))).trans hT
      · exact (Heap.get?_update_other _ _ (Ne.symm hb)).trans hu
theorem SIt.frame {I a T : Addr} {o : Obj} {es : Array (Int × Value)} {ep : Nat} {t : SetTable} {ord : List (Int × Value)} {i : Nat} {h h' : Heap} (st : SIt w I a T o es ep t ord i h) (k : ∀ b ∈ [I, a, T], ∀ u, h.get? b = some u → h'.get? b = some u) : SIt w I a T o es ep t ord i h' := by
  obtain ⟨ho, first, oI, hoI, hc, hd, hm⟩ := st
  refine ⟨k a (by simp) _ ho, first, oI, k I (by simp) _ hoI, hc, hd, ?_⟩
  rcases hm with h1 | h1 | ⟨hb, hdr, rfl, oT, places, c, hT, r⟩
  · exact .inl h1
  · exact .inr (.inl h1)
  · exact .inr (.inr ⟨hb, hdr, rfl, oT, places, c, k T (by simp) _ hT, r⟩)
theorem Walks.set {I a T : Addr} {o : Obj} {es : Array (Int × Value)} {ep : Nat} {t : SetTable} {S : K → Prop} {ord : List (Int × Value)} (hh : A.handled = none) (X : KObj knd o es ep t S) (haI : a ≠ I) (hTI : SDrawn es t = true → T ≠ I) (hp : List.Perm ord es.toList) :
    Walks prog w A I [I, a, T] [I] ord.length (fun i v => ∃ e, ord[i]? = some e ∧ e.2 = v) (fun i h => SIt w I a T o es ep t ord i h) where
  sub := fun b hb => by simp at hb; simp [hb]
  frame := fun i h h' st k => st.frame k
  item := fun i s Q E hi st hQ => by
    have hl : ord.length = es.size := by rw [hp.length_eq, Array.length_toList]
    refine pyNext_set hh X haI hTI (by omega) st (fun hn => ?_) (fun e h' he st' hk => hQ _ _ s.toks ⟨e, he, rfl⟩ st' fun b u hb hu => hk b u (fun z => hb (by simp [z])) hu)
    rw [List.getElem?_eq_getElem hi] at hn; cases hn
  done := fun s Q E st hQ => by
    have hl : ord.length = es.size := by rw [hp.length_eq, Array.length_toList]
    refine pyNext_set hh X haI hTI (by omega) st (fun hn h' hk => hQ _ s.toks fun b u hb hu => hk b u (fun z => hb (by simp [z])) hu) (fun e h' he _ _ => ?_)
    rw [List.getElem?_eq_none (Nat.le_refl _)] at he; cases he
  self := fun i s Q E st h => by
    obtain ⟨ho, first, oI, hoI, hc, hd, hm⟩ := st
    have hTy : s.TypeIs (.ref I) "set_iterator" := ⟨oI, hoI, hc⟩
    refine wpAny_pyIter_slot hTy set_it_iter (wpAny_call_entry set_it_iter hTy set_it_ientry ?_ (set_it_iargs _))
    show wpAny _ _ (ret (.ref I)) _ _ s
    exact wpAny_pure ⟨_, rfl, "set_iterator", _, hTy, set_it_next.lookup, h⟩
end
end L2

namespace L2
open PySem PySem.Spec PyProof.Rows PySem.W
/-! ### sets of ints and texts: set(xs), sorted(set(xs)) -/
def SetO (P : Program) (w : World) (p : Addr) (ks : List Key) : HO := .ext fun h => ∃ n, KSet (mixKind P w) h p (fun k => k ∈ ks) n
section
variable {X : Cx}
end
end L2

namespace L2
open PySem PySem.Spec PyProof.Rows PySem.W
/-! ### dict(a list of pairs) -/
section
variable {prog : Program} {w : World} {A : Around} {E : Value → Shared → Prop} {s : Shared}
end
section
variable {prog : Program} {w : World} {K : Type} [DecidableEq K] {knd : KeyKind prog w K} {A : Around} {R : Result → Shared → Prop} {I : Addr} {fp wr : List Addr} {G : Array GenState → Array GenState → Prop} {n : Nat} {P : Nat → Value → Prop} {St : Nat → Shared → Prop}
end
section
variable {prog : Program} {w : World} {K : Type} [DecidableEq K] {knd : KeyKind prog w K} {A : Around} {E : Value → Shared → Prop} {s : Shared}
end
section
variable {X : Cx}
end
end L2

namespace L2
open PySem PySem.Spec PyProof.Rows PySem.W
/-! ### a dict walked: it is known to the object while it is -/
section
variable {P : Program} {w : World} {H : Hp} {h : Heap} {a : Addr} {o : Obj} {u : HO}
/-- what is told of the others stands when a mutable one is told otherwise -/
theorem hok_tell {v : HO} (x : HOk P w H h) (hm : ∀ xs, H a ≠ some (.tup xs)) (ho : ∀ y, H a ≠ some (.own y)) (new : ObjOk P w (upd H a v) h a v) : HOk P w (upd H a v) h := fun b q e => by
  by_cases hb : b = a
  · subst hb; rw [upd_same] at e; cases e; exact new
  · rw [upd_ne hb] at e
    refine (x b q e).stay (fun c v _ q => q) (fun c q => ?_) fun c xs q => ?_
    · rw [upd_ne (fun z => ho _ (z ▸ q))]; exact q
    · rw [upd_ne (fun z => hm _ (z ▸ q))]; exact q
end
section
variable {X : Cx} {pins : List (Addr × Obj)} {σ : St} {H : Hp} {s : Shared} {a : Addr} {kvs : List (Key × V)}
theorem un_tell {fs ex : List Addr} {H0 H : Hp} {h0 h : Heap} {a : Addr} {v : HO} (u : Un fs ex H0 H h0 h) (hn : H a ≠ none) (hm : ∀ xs, H a ≠ some (.tup xs)) (hf : ∀ o u, H0 a = some (.frz o u) → False) (ht : ∀ ps, H a ≠ some (.tbl ps)) : Un fs ex H0 (upd H a v) h0 h where
  keep := u.keep
  slot := u.slot
  free := fun b o q n hx => by
    have e := u.free b o q n hx
    rw [upd_ne (fun z : b = a => hn (by rw [← z]; exact e))]; exact e
  there := u.there
  tups := fun b xs q => by
    have e := u.tups b xs q
    rw [upd_ne (fun z => hm _ (z ▸ e))]; exact e
  frzs := fun b o w q => by
    have e := u.frzs b o w q
    by_cases z : b = a
    · subst z; exact (hf _ _ q).elim
    · rw [upd_ne z]; exact e
  tbls := fun b ps q => by
    obtain ⟨more, e⟩ := u.tbls b ps q
    exact ⟨more, by rw [upd_ne (fun z => ht _ (z ▸ e))]; exact e⟩
theorem Inv.tell {v : HO} (I : Inv X pins σ H s) (hn : H a ≠ none) (hm : ∀ xs, H a ≠ some (.tup xs)) (ho : ∀ y, H a ≠ some (.own y)) (ht : ∀ ps, H a ≠ some (.tbl ps)) (hf : ∀ o u, X.H₀ a = some (.frz o u) → False) (new : ObjOk X.prog X.w (upd H a v) s.heap a v) : Inv X pins σ (upd H a v) s where
  ok := I.ok
  os := I.os
  bare := I.bare
  base := un_tell I.base hn hm hf ht
  loc := I.loc
  cell := I.cell
  free := by rw [upd_ne (fun z : X.env.locals = a => hn (by rw [← z]; exact I.free))]; exact I.free
  freeC := fun x c e => by rw [upd_ne (fun z : c = a => hn (by rw [← z]; exact I.freeC x c e))]; exact I.freeC x c e
  pin := fun p hp => by
    obtain ⟨h1, h2, h3⟩ := I.pin p hp
    exact ⟨h1, by rw [upd_ne (fun z : p.1 = a => hn (by rw [← z]; exact h2))]; exact h2, h3⟩
  hok := hok_tell I.hok hm ho new
  len := I.len
end
section
variable {X : Cx}
end
section
variable {X : Cx} {tg : Expr}
end
end L2

namespace L2
open PySem PySem.Spec PyProof.Rows PySem.W
/-! ### d.items(), walked -/
section
variable {X : Cx}
end
section
variable {X : Cx} {elts : List Expr} {kk : Nat} {tpos : Pos}
end
/-- over a walk of n turns: the forms one uses -/
theorem for_it {J : It} {n : Nat} {g : TG} {tb : TS} {D : Ends} {σ : St} {H : Hp} (Pv : Nat → St → Hp → Prop) (h0 : Pv 0 σ H)
    (hs : ∀ i σ H, i < n → Pv i σ H → J.go i H ∧ ∀ x H', J.yld i H x H' → g x σ H' fun σ2 H2 => tb { D with nx := Pv (i + 1), ct := Pv (i + 1), bk := D.nx } σ2 H2) (hd : ∀ σ H, Pv n σ H → J.stop n H ∧ D.nx σ H) :
    ∃ W : Nat → Nat → St → Hp → Prop, (∃ m, W 0 m σ H) ∧ ∀ i m σ H, W i m σ H →
      (J.stop i H ∧ D.nx σ H) ∨ (J.go i H ∧ ∃ N : St → Hp → Prop, (∀ σ' H', N σ' H' → ∃ m', m' < m ∧ W (i + 1) m' σ' H') ∧ ∀ x H', J.yld i H x H' → g x σ H' fun σ2 H2 => tb { D with nx := N, ct := N, bk := D.nx } σ2 H2) := by
  refine ⟨fun i m σ H => m = n - i ∧ i ≤ n ∧ Pv i σ H, ⟨n, by simp, Nat.zero_le _, h0⟩, ?_⟩
  rintro i m σ H ⟨rfl, hi, p⟩
  by_cases z : i < n
  · obtain ⟨g1, g2⟩ := hs i σ H z p
    exact .inr ⟨g1, Pv (i + 1), fun σ' H' q => ⟨n - (i + 1), by omega, rfl, z, q⟩, g2⟩
  · have e : i = n := by omega
    subst e
    exact .inl (hd σ H p)
end L2

namespace L2
open PySem PySem.Spec PyProof.Rows PySem.W
/-! ### sorted(x) of texts -/
/-- by signs -/
def leT (a b : Str) : Prop := ltCps b.cps.toList a.cps.toList = false
theorem leT_lt {a b : Str} : leT a b ↔ ¬ (b.cps.toList < a.cps.toList) := by
  unfold leT; rw [ltCps_eq]; exact decide_eq_false_iff_not
theorem leT_anti {a b : Str} (h : leT a b) (h' : leT b a) : a = b := by
  rw [leT_lt] at h h'
  have e : a.cps.toList = b.cps.toList := List.le_antisymm (List.not_lt.mp h) (List.not_lt.mp h')
  have e2 : a.cps = b.cps := Array.toList_inj.mp e
  cases a; cases b; simp only at e2; subst e2; rfl
theorem txt_uniq : ∀ {a b : List Str}, a.Perm b → a.Pairwise leT → b.Pairwise leT → a = b
  | [], b, h, _, _ => (List.nil_perm.mp h).symm ▸ rfl
  | x :: r, [], h, _, _ => by have := h.length_eq; simp at this
  | x :: r, y :: t, h, ha, hb => by
    have hx : x ∈ y :: t := h.mem_iff.mp List.mem_cons_self
    have hy : y ∈ x :: r := h.mem_iff.mpr List.mem_cons_self
    have e : x = y := by
      rcases List.mem_cons.mp hx with z | z
      · exact z
      rcases List.mem_cons.mp hy with w | w
      · exact w.symm
      exact leT_anti ((List.pairwise_cons.mp ha).1 y w) ((List.pairwise_cons.mp hb).1 x z)
    subst e
    rw [txt_uniq (List.Perm.cons_inv h) (List.pairwise_cons.mp ha).2 (List.pairwise_cons.mp hb).2]
section
variable {X : Cx}
/-- ts: the texts, by rising -/
structure SortT (ss ts : List Str) : Prop where
  perm : ts.Perm ss
  rise : ts.Pairwise leT
theorem SortT.eq {ss ts : List Str} (h : SortT ss ts) {us : List Str} (hp : us.Perm ss) (hu : us.Pairwise leT) : ts = us := txt_uniq (h.perm.trans hp.symm) h.rise hu
/-! a set of texts -/
end
end L2

namespace L2
open PySem PySem.Spec PyProof.Rows PySem.W
/-! ### the sort's questions, answered by a strict order of n different things -/
structure SOrd (n : Nat) (lt : Nat → Nat → Bool) : Prop where
  tri : ∀ i j, i < n → j < n → i ≠ j → lt i j = !lt j i
  tr : ∀ i j k, i < n → j < n → k < n → lt i j = true → lt j k = true → lt i k = true
def Pm (n : Nat) (p : Array Nat) : Prop := p.toList.Perm (List.range n)
theorem Pm.size {n : Nat} {p : Array Nat} (h : Pm n p) : p.size = n := by
  have := List.Perm.length_eq h
  rwa [Array.length_toList, List.length_range] at this
theorem Pm.get {n : Nat} {p : Array Nat} (h : Pm n p) {i : Nat} (hi : i < n) : p[i]? = some (p.getD i 0) := by
  have hs := h.size
  rw [Array.getD_eq_getD_getElem?, Array.getElem?_eq_getElem (by omega)]; rfl
theorem Pm.lt {n : Nat} {p : Array Nat} (h : Pm n p) {i : Nat} (hi : i < n) : p.getD i 0 < n := by
  have e := h.get hi
  have : p.getD i 0 ∈ p.toList := by
    rw [← Array.getElem?_toList] at e
    exact List.mem_of_getElem? e
  exact List.mem_range.mp ((List.Perm.mem_iff h).mp this)
theorem Pm.ne {n : Nat} {p : Array Nat} (h : Pm n p) {i j : Nat} (hi : i < n) (hj : j < n) (hij : i ≠ j) : p.getD i 0 ≠ p.getD j 0 := by
  have hs := h.size
  have hn : p.toList.Nodup := (List.Perm.nodup_iff h).mpr List.nodup_range
  intro e
  have e1 := h.get hi
  have e2 := h.get hj
  rw [← Array.getElem?_toList] at e1 e2
  rw [← e] at e2
  exact hij ((List.getElem?_inj (by rw [Array.length_toList]; omega) hn).mp (e1.trans e2.symm))
def AscT (lt : Nat → Nat → Bool) (p : Array Nat) (b : Nat) : Prop := ∀ i j, i < j → j < b → lt (p.getD i 0) (p.getD j 0) = true
section
variable {cmp : Nat → Nat → (Bool → Shared → Prop) → Shared → Prop} {lt : Nat → Nat → Bool} {n : Nat} {s : Shared}
theorem AscT.more {p : Array Nat} (S : SOrd n lt) (hp : Pm n p) {k : Nat} (h : AscT lt p k) (hk : 1 ≤ k) (hn : k < n) (hl : lt (p.getD (k - 1) 0) (p.getD k 0) = true) : AscT lt p (k + 1) := by
  intro i j hij hj
  by_cases e : j = k
  · subst e
    by_cases e2 : i = j - 1
    · subst e2; exact hl
    · exact S.tr _ _ _ (hp.lt (by omega)) (hp.lt (by omega)) (hp.lt hn) (h i (j - 1) (by omega) (by omega)) hl
  · exact h i j hij (by omega)
end
end L2
namespace L2
open PySem PySem.Spec PyProof.Rows PySem.W
/-! ### sorted(x) of tuples, by their first items, all different: ints, or texts -/
section
variable {X : Cx} {pins : List (Addr × Obj)} {σ : St} {H : Hp} {s : Shared} {A : Around} {E : Value → Shared → Prop} {a : Addr} {vs : List Value} {P : PySem.Fin → Shared → Prop}
end
section
variable {X : Cx}
end
end L2
namespace L2
open PySem PySem.Spec PyProof.Rows PySem.W
end L2

namespace L2
open PySem PySem.Spec PyProof.Rows PySem.W
section
variable {X : Cx} {pins : List (Addr × Obj)} {σ : St} {H : Hp} {s : Shared}
/-! x.startswith(y) -/
def rStarts : V → List V → Hp → VK → Prop := fun x vs H Q => ∃ z y, x = .str z ∧ vs = [.str y] ∧ Q (.bl (PySem.Txt.startswith z y)) H
theorem mt_startswith : MtM X "str.startswith" rStarts := by
  intro pins s σ H x vs v us Q I rx rv h
  obtain ⟨z, y, rfl, rfl, q⟩ := h
  obtain ⟨t, rfl⟩ := rx
  obtain ⟨u, rfl, ru⟩ := rv.one
  obtain ⟨t', rfl⟩ := ru
  exact SC.startswith ⟨.bl _, H, I, rfl, q⟩
/-! x in a tuple of data -/
end
/-! a def that calls itself -/
end L2

namespace L2
open PySem PySem.Spec PyProof.Rows PySem.W Builtin.Str
section
variable {X : Cx} {pins : List (Addr × Obj)} {σ : St} {H : Hp} {s : Shared}
/-! x is True, x is not True -/
/-! x[a:b] of texts -/
def rSlS : V → Option Int → Option Int → Hp → VK → Prop := fun x lo hi H Q => ∃ z, x = .str z ∧ z.length ≤ sizeLine ∧ Q (.str (PySem.Txt.slice z lo hi)) H
theorem part_of {v : Value} {o : Option Int} (h : IsPart v o) : ∃ p : Option (Int × Tok), v = partValue p ∧ p.map (·.1) = o := by
  cases h with
  | none => exact ⟨none, rfl, rfl⟩
  | int i t => exact ⟨some (i, t), rfl, rfl⟩
theorem sl_str : SlR X rSlS := by
  intro pins s σ H x v vl vu lo hi sl Q I rx hs pl pu h
  obtain ⟨z, rfl, hz, q⟩ := h
  obtain ⟨t, rfl⟩ := rx
  obtain ⟨l, rfl, rfl⟩ := part_of pl
  obtain ⟨u, rfl, rfl⟩ := part_of pu
  refine ⟨"str", _, PySem.F.slot_str_getitem.lookup, typeIs_str _ _ _, wpAny_getItem_str_slice (l := l) (u := u) (st := none) hs rfl ?_⟩
  exact post_val_or_str ⟨Nat.le_trans (PySem.Txt.slice_le z _ _) hz, fun t' k => ⟨.str _, H, I.tok _, ⟨t', rfl⟩, q⟩⟩
/-! x.split(y) -/
theorem vals_strs : ∀ l : List (Str × Tok), Vals ((l.map (·.1)).map V.str) (strValues l)
  | [] => .nil
  | p :: r => .cons ⟨p.2, rfl⟩ (vals_strs r)
theorem list_new {s' : Shared} {l : List (Str × Tok)} {ts : List Str} {k : Nat} (I : Inv X pins σ H s) (hl : l.map (·.1) = ts) (hz : ts.length ≤ sizeLine) {Q : VK} (q : ∀ p, H p = none → Q (.ref p) (upd H p (.lst (ts.map V.str)))) :
    EP X pins σ Q (.ref s.heap.objs.size) { s with toks := k, heap := s.heap.push { cls := .type "list", data := .seq (strValues l).toArray } } := by
  refine ⟨.ref s.heap.objs.size, _, I.laid (t' := k) (o := .lst (ts.map V.str)) (fun b ob q => Heap.get?_push_of_some _ q) (Nat.le_refl _) ?_, rfl, q _ (I.hok.fresh (Nat.le_refl _))⟩
  subst hl
  exact ⟨by rw [List.length_map]; exact hz, strValues l, 0, vals_strs l, Heap.get?_push_size _ rfl⟩
theorem split_len (x y : Str) : (PySem.Txt.split x y).length ≤ x.length + 2 := by
  have e1 := StrLaws.occ_length_le x y 0 x.length (x.length + 1)
  unfold PySem.Txt.split
  split
  · simp
  · split
    · simp
    · rw [length_partsBetween]; omega
def rSplit : V → List V → Hp → VK → Prop := fun x vs H Q => ∃ z y, x = .str z ∧ vs = [.str y] ∧ 1 ≤ y.length ∧ z.length + 2 ≤ sizeLine ∧ ∀ p, H p = none → Q (.ref p) (upd H p (.lst ((PySem.Txt.split z y).map V.str)))
theorem mt_split : MtM X "str.split" rSplit := by
  intro pins s σ H x vs v us Q I rx rv h
  obtain ⟨x, y, rfl, rfl, hy1, hsz, q⟩ := h
  obtain ⟨t, rfl⟩ := rx
  obtain ⟨u, rfl, ru⟩ := rv.one
  obtain ⟨u', rfl⟩ := ru
  have hy : (y.length == 0) = false := beq_eq_false_iff_ne.mpr (by omega)
  have hn : (partsBetween x (occurrences x y 0 x.length (x.length + 1)) y.length).length ≤ sizeLine := by
    have e1 := StrLaws.occ_length_le x y 0 x.length (x.length + 1)
    rw [length_partsBetween]; omega
  have hll : (PySem.Txt.split x y).length ≤ sizeLine := Nat.le_trans (split_len x y) hsz
  cases h1 : (decide (x.length < y.length) || decide (Builtin.Str.strKind x < Builtin.Str.strKind y))
  · cases hf : (occurrences x y 0 x.length (x.length + 1)).isEmpty
    · refine call_meets PySem.F.slot_str_split (typeIs_str _ _ _) PySem.F.entry_str_split (PySem.F.args_str_split_2 _ _) (meets_str_split_sep x y t u' h1 hy hf (by omega) hn) ?_
      show EP X pins σ Q (.ref s.heap.objs.size) { s with toks := _, heap := s.heap.push { cls := .type "list", data := .seq (strsFrom s.toks (partsBetween x (occurrences x y 0 x.length (x.length + 1)) y.length)).toArray } }
      rw [strsFrom_eq]
      exact list_new (s' := s) I ((numbered_texts _ _).trans ((if_neg (ne_true_of_eq_false h1)).trans (if_neg (ne_true_of_eq_false hf))).symm) hll q
    · exact call_meets PySem.F.slot_str_split (typeIs_str _ _ _) PySem.F.entry_str_split (PySem.F.args_str_split_2 _ _) (meets_str_split_not_found x y t u' h1 hy hf)
        (list_new (s' := s) (l := [(x, t)]) I ((if_neg (ne_true_of_eq_false h1)).trans (if_pos hf)).symm hll q)
  · exact call_meets PySem.F.slot_str_split (typeIs_str _ _ _) PySem.F.entry_str_split (PySem.F.args_str_split_2 _ _) (meets_str_split_cannot_occur x y t u' h1)
      (list_new (s' := s) (l := [(x, t)]) I (if_pos h1).symm hll q)
end
/-! the mathematics: found, split, starts -/
end L2

namespace L2
open PySem PySem.Spec PyProof.Rows PySem.W
/-! ### a display of constants at one stroke -/
section
variable {X : Cx}
end
end L2

namespace L2
open PySem PySem.Spec PyProof.Rows PySem.W Builtin.Str
/-! what int(text) reads: the shape of the model's reading, for any four words that it may answer with -/
def dgV (c : Nat) : Option Nat :=
  if 48 ≤ c && c ≤ 57 then some (c - 48)
  else if 97 ≤ c && c ≤ 122 then some (c - 87)
  else if 65 ≤ c && c ≤ 90 then some (c - 55)
  else none
def blkV (c : Nat) : Bool := c == 32 || (9 ≤ c && c ≤ 13)
def ndStep (base : Nat) : Array Nat × Bool → Nat → Option (Array Nat × Bool) := fun (ds, afterDigit) c =>
    if c == 95 then (if afterDigit then some (ds, false) else none)
    else match dgV c with
      | some d => if d < base then some (ds.push d, true) else none
      | none => none
def ndV (base : Nat) (cs : List Nat) : Option (Array Nat) := do
  let (ds, afterDigit) ← cs.foldlM (init := ((#[] : Array Nat), false)) (ndStep base)
  if afterDigit then some ds else none
def pbV : List Nat → Option Nat
  | 48 :: c :: _ =>
    if c == 120 || c == 88 then some 16 else if c == 111 || c == 79 then some 8 else if c == 98 || c == 66 then some 2 else none
  | _ => none
def sgV (t : List Nat) : Bool × List Nat := match t with
    | 45 :: r => (true, r)
    | 43 :: r => (false, r)
    | _ => (false, t)
def rnB {N : Type} (inv : N) (tl : Nat → N) (bl : N) (vl : Int → N) (limit base : Nat) (text : List Nat) : N :=
  let t := text.dropWhile blkV
  let (negative, t) := sgV t
  let afterPrefix := match t.drop 2 with
    | 95 :: r => r
    | r => r
  let (b, zeroOnly, t) := match pbV t with
    | some p => if base == 0 || base == p then (p, false, afterPrefix) else (base, false, t)
    | none => if base == 0 then (10, t.head? == some 48, t) else (base, false, t)
  match ndV b (t.reverse.dropWhile blkV).reverse with
  | none => inv
  | some ds =>
    if ![2, 4, 8, 16, 32].contains b && limit != 0 && ds.size > limit then tl ds.size else
    if b == 10 && ds.size > 6000 then bl else
    let n := ds.foldl (fun acc d => acc * b + d) 0
    if zeroOnly && n != 0 then inv else vl (if negative then -(n : Int) else n)
def DigL (cs : List Nat) : Prop := ∀ c ∈ cs, 48 ≤ c ∧ c ≤ 57
def digN (cs : List Nat) : Nat := cs.foldl (fun a c => a * 10 + (c - 48)) 0
theorem nd_fold : ∀ (cs : List Nat) (ds : Array Nat) (b : Bool), DigL cs → cs.foldlM (init := (ds, b)) (ndStep 10) = some (ds ++ (cs.map (· - 48)).toArray, b || !cs.isEmpty)
  | [], ds, b, _ => by simp
  | c :: r, ds, b, h => by
    have hc := h c List.mem_cons_self
    rw [List.foldlM_cons]
    have e : ndStep 10 (ds, b) c = some (ds.push (c - 48), true) := by
      have h1 : (c == 95) = false := beq_eq_false_iff_ne.mpr (by omega)
      have h2 : dgV c = some (c - 48) := by
        unfold dgV
        exact if_pos (by rw [Bool.and_eq_true, decide_eq_true_eq, decide_eq_true_eq]; exact hc)
      have h3 : c - 48 < 10 := by omega
      simp only [ndStep, h1, h2, h3, Bool.false_eq_true, if_false, if_true]
    rw [e]
    show List.foldlM (ndStep 10) (ds.push (c - 48), true) r = _
    rw [nd_fold r _ _ (fun x hx => h x (List.mem_cons_of_mem _ hx))]
    simp
theorem blk_dig {c : Nat} (h : 48 ≤ c ∧ c ≤ 57) : blkV c = false := by unfold blkV; simp; omega
theorem drop_dig : ∀ {cs : List Nat}, DigL cs → cs.dropWhile blkV = cs
  | [], _ => rfl
  | c :: r, h => by rw [List.dropWhile_cons, blk_dig (h c List.mem_cons_self)]; rfl
theorem rn_eq {N : Type} {rn : Nat → Nat → List Nat → N} {inv : N} {tl : Nat → N} {bl : N} {vl : Int → N} {cs : List Nat} {r : N} (heq : rn 0 10 cs = r) (h : rn = rnB inv tl bl vl)
    (hd : DigL cs) (hn : cs ≠ []) (hz : cs.length ≤ 6000) : vl (digN cs : Nat) = r := by
  rw [← heq, h]
  unfold rnB
  dsimp only
  rw [drop_dig hd]
  have e1 : sgV cs = (false, cs) := by
    cases cs with
    | nil => rfl
    | cons c r =>
      have hc := hd c List.mem_cons_self
      unfold sgV
      split
      · next r' e => injection e with e _; omega
      · next r' e => injection e with e _; omega
      · rfl
  rw [e1]
  dsimp only
  have e2 : pbV cs = none := by
    unfold pbV
    split
    · next c r =>
      have hc := hd c (List.mem_cons_of_mem _ List.mem_cons_self)
      have h1 : (c == 120 || c == 88) = false := by simp; omega
      have h2 : (c == 111 || c == 79) = false := by simp; omega
      have h3 : (c == 98 || c == 66) = false := by simp; omega
      simp only [h1, h2, h3, Bool.false_eq_true, if_false]
    · rfl
  rw [e2]
  dsimp only
  rw [if_neg (by decide)]
  dsimp only
  have hr : DigL cs.reverse := fun c hc => hd c (List.mem_reverse.mp hc)
  rw [drop_dig hr, List.reverse_reverse]
  have e3 : ndV 10 cs = some (cs.map (· - 48)).toArray := by
    unfold ndV
    rw [nd_fold cs _ _ hd]
    cases cs with
    | nil => exact absurd rfl hn
    | cons c r => simp
  rw [e3]
  dsimp only
  rw [if_neg (by simp), if_neg (by simp; omega), if_neg (by simp)]
  simp only [Bool.false_eq_true, if_false]
  congr 1
  unfold digN
  rw [List.foldl_toArray]
  simp [List.foldl_map]
theorem str_no_int : typeLookup (.type "str") (Str.ofString "__int__") = pure none := by rw [typeLookup_type, builtinLookup_eq_fast]; kernel_rfl
theorem str_no_index : typeLookup (.type "str") (Str.ofString "__index__") = pure none := by rw [typeLookup_type, builtinLookup_eq_fast]; kernel_rfl
theorem str_no_trunc : typeLookup (.type "str") (Str.ofString "__trunc__") = pure none := by rw [typeLookup_type, builtinLookup_eq_fast]; kernel_rfl
theorem dig_seen : ∀ {cs : List Nat}, DigL cs → cs.takeWhile (fun x => x != 0) = cs
  | [], _ => rfl
  | c :: r, h => by
    have hc := h c List.mem_cons_self
    have e : (c != 0) = true := by rw [bne_iff_ne]; omega
    rw [List.takeWhile_cons, if_pos e, dig_seen (fun x hx => h x (List.mem_cons_of_mem _ hx))]
theorem dig_ascii {x : Str} (h : DigL x.cps.toList) : (x.cps.all fun x => decide (x < 128)) = true := by
  rw [Array.all_eq_true']
  intro c hc
  have := h c (Array.mem_toList_iff.mpr hc)
  simp; omega
theorem int_of_text {prog : Program} {w : World} {A : Around} {E : Value → Shared → Prop} {s : Shared} {x : Str} {t : Tok} {Q : Value → Shared → Prop} (hd : DigL x.cps.toList) (hn : x.cps.toList ≠ []) (hz : x.cps.toList.length ≤ 640)
    (h : Q (.int (digN x.cps.toList : Nat) s.toks) { s with toks := s.toks + 1 }) :
   wpAny (model prog w) A (call (.type "int") [.str x t]) Q E s := by
  refine callType_new PySem.F.called_int PySem.F.newNe_int (PySem.F.typeCall_int_1 _) (PySem.F.newCall_int_1 _) (fun obj => PySem.F.args_object_init_2 obj _) PySem.F.entry_int_new (S := fun _ R s => R (.ok (.ret (.int (digN x.cps.toList : Nat) s.toks))) { s with toks := s.toks + 1 }) (Meets.of_wp fun prog w A R s h => ?_) ⟨typeIs_int _ _ _, h⟩
  obtain ⟨hp, g, d, tk, os⟩ := s
  have f1 := PySem.F.conv_sub_int
  have f2 := PySem.F.madeHere_int
  repeat (any_goals (first | assumption | wp_step))
  refine wpAny_of_eq str_no_int ?_
  repeat (any_goals (first | assumption | wp_step))
  refine wpAny_of_eq str_no_index ?_
  repeat (any_goals (first | assumption | wp_step))
  refine wpAny_of_eq str_no_trunc ?_
  repeat (any_goals (first | assumption | wp_step))
  rw [if_pos (dig_ascii hd), dig_seen hd, if_pos hz]
  refine wpAny_bind (wpAny_pure ?_)
  dsimp only
  split
  · next n heq =>
    have e := rn_eq heq rfl hd hn (by omega)
    nomatch e
  · next heq =>
    have e := rn_eq heq rfl hd hn (by omega)
    nomatch e
  · next i heq =>
    have e := rn_eq heq rfl hd hn (by omega)
    injection e with e
    subst e
    rw [if_pos (beq_self_eq_true _)]
    repeat (any_goals (first | assumption | wp_step))
    exact ⟨_, rfl, h⟩
  · next heq =>
    have e := rn_eq heq rfl hd hn (by omega)
    nomatch e

/-! str(n), int(x) -/
section
variable {X : Cx}
def nT (n : Int) : Str := Str.ofString (toString n)
def rStrI : List V → Hp → VK → Prop := fun xs H Q => ∃ n : Int, xs = [.int n] ∧ n.natAbs.log2 < 1920 ∧ Q (.str (nT n)) H
theorem call_strI : CallR X (.type "str") rStrI := by
  intro pins s σ H xs us Q I r h
  obtain ⟨n, rfl, hn, q⟩ := h
  obtain ⟨u, rfl, ru⟩ := vals1 r
  obtain ⟨t, rfl⟩ := ru
  exact PySem.P.str_of_int hn ⟨.str _, H, I.tok _, ⟨_, rfl⟩, q⟩
def rIntS : List V → Hp → VK → Prop := fun xs H Q => ∃ x : Str, xs = [.str x] ∧ DigL x.cps.toList ∧ x.cps.toList ≠ [] ∧ x.cps.toList.length ≤ 640 ∧ Q (.int (digN x.cps.toList : Nat)) H
theorem call_intS : CallR X (.type "int") rIntS := by
  intro pins s σ H xs us Q I r h
  obtain ⟨x, rfl, h1, h2, h3, q⟩ := h
  obtain ⟨u, rfl, ru⟩ := vals1 r
  obtain ⟨t, rfl⟩ := ru
  exact int_of_text h1 h2 h3 ⟨.int _, H, I.tok _, ⟨_, rfl⟩, q⟩
end
/-! numbers as they are written -/
def dgT (n : Nat) : List Nat := (Nat.toDigits 10 n).map Char.toNat
theorem nT_cps (n : Nat) : (nT n).cps.toList = dgT n := by
  unfold nT dgT
  rw [signs_ofString]
  rw [Int.toString_eq_repr, Int.repr_eq_if, if_pos (Int.natCast_nonneg n), Nat.toList_repr]
  rfl
theorem dgc : ∀ n, n < 10 → (Nat.digitChar n).toNat = 48 + n := by decide
theorem dgT_lt {n : Nat} (h : n < 10) : dgT n = [48 + n] := by
  unfold dgT; rw [Nat.toDigits_of_lt_base h]; simp [dgc n h]
theorem dgT_ge {n : Nat} (h : 10 ≤ n) : dgT n = dgT (n / 10) ++ [48 + n % 10] := by
  unfold dgT; rw [Nat.toDigits_of_base_le (by decide) h, List.map_append]; simp [dgc _ (Nat.mod_lt n (by decide : 0 < 10))]
theorem digN_snoc (cs : List Nat) (c : Nat) : digN (cs ++ [c]) = digN cs * 10 + (c - 48) := by unfold digN; rw [List.foldl_append]; rfl
theorem dgT_val (n : Nat) : digN (dgT n) = n := by
  induction n using Nat.strongRecOn with
  | _ n ih =>
    by_cases h : n < 10
    · rw [dgT_lt h]; show 0 * 10 + (48 + n - 48) = n; omega
    · rw [dgT_ge (by omega), digN_snoc, ih (n / 10) (by omega)]; omega
theorem dgT_dig (n : Nat) : DigL (dgT n) := by
  induction n using Nat.strongRecOn with
  | _ n ih =>
    by_cases h : n < 10
    · rw [dgT_lt h]; intro c hc; rw [List.mem_singleton] at hc; omega
    · rw [dgT_ge (by omega)]
      intro c hc
      rcases List.mem_append.mp hc with hc | hc
      · exact ih (n / 10) (by omega) c hc
      · rw [List.mem_singleton] at hc; omega
theorem dgT_ne (n : Nat) : dgT n ≠ [] := by
  by_cases h : n < 10
  · rw [dgT_lt h]; exact nofun
  · rw [dgT_ge (by omega)]; simp
theorem dgT_len : ∀ (k n : Nat), n < 10 ^ (k + 1) → (dgT n).length ≤ k + 1
  | 0, n, h => by rw [dgT_lt (by omega)]; simp
  | k + 1, n, h => by
    by_cases hn : n < 10
    · rw [dgT_lt hn]; simp
    · have := dgT_len k (n / 10) (by rw [Nat.pow_succ] at h; omega)
      rw [dgT_ge (by omega), List.length_append, List.length_singleton]; omega
theorem dgT_head (n : Nat) (h0 : 1 ≤ n) : (dgT n).head? ≠ some 48 := by
  induction n using Nat.strongRecOn with
  | _ n ih =>
    by_cases h : n < 10
    · rw [dgT_lt h]; intro e; injection e with e; omega
    · rw [dgT_ge (by omega)]
      have := ih (n / 10) (by omega) (by omega)
      revert this
      cases e : dgT (n / 10) with
      | nil => exact absurd e (dgT_ne _)
      | cons a r => exact id
theorem snoc_ind {P : List Nat → Prop} (nil : P []) (append_singleton : ∀ l c, P l → P (l ++ [c])) (l : List Nat) : P l := by
  have h : ∀ m : List Nat, P m.reverse := by
    intro m
    induction m with
    | nil => exact nil
    | cons a r ih => rw [List.reverse_cons]; exact append_singleton _ _ ih
  have := h l.reverse
  rwa [List.reverse_reverse] at this
theorem digN_pos : ∀ {cs : List Nat}, DigL cs → cs ≠ [] → cs.head? ≠ some 48 → 1 ≤ digN cs := by
  intro cs
  induction cs using snoc_ind with
  | nil => exact fun _ h _ => absurd rfl h
  | append_singleton l c ih =>
    intro hd _ hh
    rw [digN_snoc]
    by_cases hl : l = []
    · subst hl
      have hc := hd c (List.mem_append_right _ List.mem_cons_self)
      have : c ≠ 48 := fun e => hh (by rw [e]; rfl)
      show 1 ≤ 0 * 10 + (c - 48); omega
    · have := ih (fun x hx => hd x (List.mem_append_left _ hx)) hl (by cases l with | nil => exact absurd rfl hl | cons a r => exact hh)
      omega
theorem dgT_uniq : ∀ {cs : List Nat}, DigL cs → cs ≠ [] → cs.head? ≠ some 48 → dgT (digN cs) = cs := by
  intro cs
  induction cs using snoc_ind with
  | nil => exact fun _ h _ => absurd rfl h
  | append_singleton l c ih =>
    intro hd _ hh
    have hc := hd c (List.mem_append_right _ List.mem_cons_self)
    rw [digN_snoc]
    by_cases hl : l = []
    · subst hl
      have e : digN [] * 10 + (c - 48) = c - 48 := by show 0 * 10 + (c - 48) = _; omega
      rw [e, dgT_lt (by omega)]
      show [48 + (c - 48)] = [c]
      rw [show 48 + (c - 48) = c by omega]
    · have hd' : DigL l := fun x hx => hd x (List.mem_append_left _ hx)
      have hh' : l.head? ≠ some 48 := by cases l with | nil => exact absurd rfl hl | cons a r => exact hh
      have hp := digN_pos hd' hl hh'
      rw [dgT_ge (by omega), show (digN l * 10 + (c - 48)) / 10 = digN l by omega, show 48 + (digN l * 10 + (c - 48)) % 10 = c by omega, ih hd' hl hh']
theorem digN_lt : ∀ (cs : List Nat), DigL cs → digN cs < 10 ^ cs.length := by
  intro cs
  induction cs using snoc_ind with
  | nil => intro _; decide
  | append_singleton l c ih =>
    intro hd
    have hc := hd c (List.mem_append_right _ List.mem_cons_self)
    have := ih (fun x hx => hd x (List.mem_append_left _ hx))
    rw [digN_snoc, List.length_append, List.length_singleton, Nat.pow_succ]
    omega
end L2

/-! Streams, by themselves: lines, frames, what a reader does sign by sign. -/
namespace L2
open PySem PySem.Spec PyProof.Rows PySem.W Builtin.Str
theorem str_ext' {x y : Str} (h : x.cps.toList = y.cps.toList) : x = y := by
  cases x; cases y; congr; exact Array.ext' h
theorem str_mk (x : Str) : (⟨x.cps.toList.toArray⟩ : Str) = x := by cases x; simp
theorem nl_cps : ("\n" : Str).cps = #[10] := by decide +kernel
theorem cat_cps (x y : Str) : (x ++ y).cps.toList = x.cps.toList ++ y.cps.toList := by
  show (x.cps ++ y.cps).toList = _; rw [Array.toList_append]
theorem join_codes' : ∀ ys : List Str, (Txt.join "" ys).cps.toList = (ys.map (·.cps.toList)).flatten := by
  have key : ∀ ys : List Str, (Str.join "" ys).cps.toList = (ys.map (·.cps.toList)).flatten := by
    intro ys
    induction ys with
    | nil => rfl
    | cons y r ih =>
      cases r with
      | nil => simp [Str.join]
      | cons z q =>
        have e : Str.join "" (y :: z :: q) = y ++ ("" : Str) ++ Str.join "" (z :: q) := rfl
        have e2 : (y ++ ("" : Str) ++ Str.join "" (z :: q)).cps.toList = y.cps.toList ++ (Str.join "" (z :: q)).cps.toList := by
          show ((y.cps ++ ("" : Str).cps) ++ (Str.join "" (z :: q)).cps).toList = _
          have e0 : ("" : Str).cps = #[] := by decide +kernel
          rw [e0]; simp
        rw [e, e2, ih]
        simp
  intro ys
  unfold Txt.join
  rw [StrLaws.glued_eq_join]
  exact key ys
def jn : List (List Nat) → List Nat
  | [] => []
  | [x] => x
  | x :: y :: r => x ++ 10 :: jn (y :: r)
def spl : List Nat → List (List Nat)
  | [] => [[]]
  | c :: r => if c = 10 then [] :: spl r else (c :: (spl r).headD []) :: (spl r).tail
theorem spl_ne : ∀ l, spl l ≠ []
  | [] => by unfold spl; exact nofun
  | c :: r => by unfold spl; split <;> exact nofun
theorem spl_app : ∀ {x : List Nat} {r : List Nat}, 10 ∉ x → spl (x ++ 10 :: r) = x :: spl r
  | [], r, _ => by show spl (10 :: r) = _; rw [spl, if_pos rfl]
  | c :: x, r, h => by
    have hc : c ≠ 10 := fun e => h (by rw [e]; exact List.mem_cons_self)
    rw [List.cons_append, spl, if_neg hc, spl_app (fun z => h (List.mem_cons_of_mem _ z))]; rfl
theorem spl_free : ∀ {x : List Nat}, 10 ∉ x → spl x = [x]
  | [], _ => rfl
  | c :: x, h => by
    have hc : c ≠ 10 := fun e => h (by rw [e]; exact List.mem_cons_self)
    rw [spl, if_neg hc, spl_free (fun z => h (List.mem_cons_of_mem _ z))]; rfl
theorem spl_jn : ∀ {ps : List (List Nat)}, ps ≠ [] → (∀ p ∈ ps, 10 ∉ p) → spl (jn ps) = ps
  | [], h, _ => absurd rfl h
  | [x], _, h => by show spl x = _; exact spl_free (h x List.mem_cons_self)
  | x :: y :: r, _, h => by
    show spl (x ++ 10 :: jn (y :: r)) = _
    rw [spl_app (h x List.mem_cons_self), spl_jn (List.cons_ne_nil _ _) (fun p hp => h p (List.mem_cons_of_mem _ hp))]
theorem jn_cons {x : List Nat} {ps : List (List Nat)} (h : ps ≠ []) : jn (x :: ps) = x ++ 10 :: jn ps := by
  cases ps with
  | nil => exact absurd rfl h
  | cons y r => rfl
theorem jn_spl : ∀ l, jn (spl l) = l
  | [] => rfl
  | c :: r => by
    have ih := jn_spl r
    rw [spl]
    split
    · next e => rw [jn_cons (spl_ne r), ih, e]; rfl
    · next e =>
      cases hs : spl r with
      | nil => exact absurd hs (spl_ne r)
      | cons h t =>
        rw [hs] at ih
        show jn ((c :: h) :: t) = _
        cases t with
        | nil => show c :: h = _; rw [show h = r from ih]
        | cons y q => show (c :: h) ++ 10 :: jn (y :: q) = _; rw [← ih]; rfl
theorem spl_all : ∀ l, ∀ p ∈ spl l, 10 ∉ p
  | [], p, hp => by rw [spl, List.mem_singleton] at hp; rw [hp]; exact nofun
  | c :: r, p, hp => by
    have ih := spl_all r
    rw [spl] at hp
    split at hp
    · rcases List.mem_cons.mp hp with e | e
      · rw [e]; exact nofun
      · exact ih p e
    · next e =>
      cases hs : spl r with
      | nil => exact absurd hs (spl_ne r)
      | cons h t =>
        rw [hs] at hp ih
        rcases List.mem_cons.mp hp with q | q
        · rw [q]
          intro z
          rcases List.mem_cons.mp z with z | z
          · exact e z.symm
          · exact ih h List.mem_cons_self z
        · exact ih p (List.mem_cons_of_mem _ q)
theorem spl_len : ∀ l, (spl l).length ≤ l.length + 1
  | [] => Nat.le_refl _
  | c :: r => by
    have := spl_len r
    rw [spl]
    split
    · simp; omega
    · simp; omega
theorem spl_part : ∀ l, ∀ p ∈ spl l, p.length ≤ l.length
  | [], p, hp => by rw [spl, List.mem_singleton] at hp; rw [hp]; exact Nat.le_refl _
  | c :: r, p, hp => by
    have ih := spl_part r
    rw [spl] at hp
    split at hp
    · rcases List.mem_cons.mp hp with e | e
      · rw [e]; exact Nat.zero_le _
      · have := ih p e; simp; omega
    · cases hs : spl r with
      | nil => exact absurd hs (spl_ne r)
      | cons h t =>
        rw [hs] at hp ih
        rcases List.mem_cons.mp hp with q | q
        · have := ih h List.mem_cons_self
          rw [q]; simp; omega
        · have := ih p (List.mem_cons_of_mem _ q); simp; omega
theorem join_jn : ∀ ps : List Str, (Txt.join "\n" ps).cps.toList = jn (ps.map (·.cps.toList)) := by
  have key : ∀ ys : List Str, (Str.join "\n" ys).cps.toList = jn (ys.map (·.cps.toList)) := by
    intro ys
    induction ys with
    | nil => rfl
    | cons y r ih =>
      cases r with
      | nil => simp [Str.join, jn]
      | cons z q =>
        have e : Str.join "\n" (y :: z :: q) = y ++ ("\n" : Str) ++ Str.join "\n" (z :: q) := rfl
        rw [e, cat_cps, cat_cps, ih, nl_cps]
        simp [jn]
  intro ys
  unfold Txt.join
  rw [StrLaws.glued_eq_join]
  exact key ys
theorem split_spl (x : Str) : Txt.split x "\n" = (spl x.cps.toList).map (fun l => (⟨l.toArray⟩ : Str)) := by
  have e0 : ("\n" : Str) = ⟨#[10]⟩ := by decide +kernel
  have h1 := StrLaws.join_split x "\n"
  have h2 : ∀ p ∈ Txt.split x "\n", 10 ∉ p.cps.toList := by rw [e0]; exact StrLaws.split_free x 10
  have h3 : Txt.split x "\n" ≠ [] := by
    unfold Txt.split
    split
    · exact nofun
    · split
      · exact nofun
      · intro e
        have := congrArg List.length e
        rw [length_partsBetween] at this
        simp at this
  generalize Txt.split x "\n" = ps at h1 h2 h3
  have h4 : jn (ps.map (·.cps.toList)) = x.cps.toList := by
    rw [← join_jn]
    unfold Txt.join
    rw [StrLaws.glued_eq_join, h1]
  rw [← h4, spl_jn (by simpa using h3) (by intro p hp; obtain ⟨q, hq, rfl⟩ := List.mem_map.mp hp; exact h2 q hq), List.map_map]
  have : (fun l => (⟨l.toArray⟩ : Str)) ∘ (fun (y : Str) => y.cps.toList) = id := by funext y; exact str_mk y
  rw [this, List.map_id]
/-! frames -/
def idF : List Nat := [105, 100, 58, 32]
def tpF : List Nat := [116, 111, 112, 105, 99, 58, 32]
def dtF : List Nat := [100, 97, 116, 97, 58, 32]
def frB (m : Msg) : List (List Nat) := (idF ++ dgT m.n.toNat) :: (tpF ++ m.t.cps.toList) :: (spl m.x.cps.toList).map (dtF ++ ·)
def lnC (ls : List (List Nat)) : List Nat := (ls.map (· ++ [10])).flatten
def frC (m : Msg) : List Nat := lnC (frB m ++ [[]])
theorem lnC_cons (l : List Nat) (r : List (List Nat)) : lnC (l :: r) = l ++ 10 :: lnC r := by simp [lnC]
theorem lnC_app (a b : List (List Nat)) : lnC (a ++ b) = lnC a ++ lnC b := by simp [lnC]
theorem spl_lnC : ∀ {ls : List (List Nat)} {r : List Nat}, (∀ l ∈ ls, 10 ∉ l) → spl (lnC ls ++ r) = ls ++ spl r
  | [], r, _ => rfl
  | l :: ls, r, h => by
    rw [lnC_cons, List.append_assoc, List.cons_append, spl_app (h l List.mem_cons_self), spl_lnC (fun x hx => h x (List.mem_cons_of_mem _ hx))]; rfl
theorem jn_end : ∀ {ls : List (List Nat)}, jn (ls ++ [[]]) = lnC ls
  | [] => rfl
  | l :: ls => by rw [List.cons_append, jn_cons (by simp), jn_end, lnC_cons]
def OkM (m : Msg) : Prop := (1 ≤ m.n ∧ m.n ≤ 999999) ∧ (1 ≤ m.t.cps.toList.length ∧ m.t.cps.toList.length ≤ 3 ∧ ∀ c ∈ m.t.cps.toList, 97 ≤ c ∧ c ≤ 122) ∧ m.x.cps.toList.length ≤ 8 ∧ ∀ c ∈ m.x.cps.toList, (97 ≤ c ∧ c ≤ 122) ∨ c = 32 ∨ c = 10
instance (m : Msg) : Decidable (OkM m) := by unfold OkM; infer_instance
def minF (ls : List (List Nat)) : Msg := ⟨(digN ((ls.headD []).drop 4) : Nat), ⟨((ls.tail.headD []).drop 7).toArray⟩, ⟨(jn (ls.tail.tail.map (·.drop 6))).toArray⟩⟩
def minG (ls : List (List Nat)) : Option Msg := if ls = frB (minF ls) ∧ OkM (minF ls) then some (minF ls) else none
theorem minF_fr {m : Msg} (h : 0 ≤ m.n) : minF (frB m) = m := by
  obtain ⟨n, t, x⟩ := m
  unfold minF frB
  simp only [List.headD_cons, List.tail_cons, List.map_map]
  have e1 : (idF ++ dgT n.toNat).drop 4 = dgT n.toNat := rfl
  have e2 : (tpF ++ t.cps.toList).drop 7 = t.cps.toList := rfl
  have e3 : (List.drop 6 ∘ fun x => dtF ++ x) = id := by funext y; rfl
  rw [e1, e2, e3, List.map_id, jn_spl, dgT_val, str_mk, str_mk, Int.toNat_of_nonneg h]
theorem minG_fr {m : Msg} (h : OkM m) : minG (frB m) = some m := by
  have e := minF_fr (m := m) (by have := h.1.1; omega)
  unfold minG; rw [e, if_pos ⟨rfl, h⟩]
theorem minG_some {ls : List (List Nat)} {m : Msg} (h : minG ls = some m) : ls = frB m ∧ OkM m := by
  unfold minG at h
  split at h
  · next q => injection h with h; rw [← h]; exact q
  · cases h
theorem dig_no10 {cs : List Nat} (h : DigL cs) : 10 ∉ cs := fun z => by have := h 10 z; omega
theorem frB_free {m : Msg} (h : OkM m) : ∀ l ∈ frB m, 10 ∉ l := by
  intro l hl z
  unfold frB at hl
  rcases List.mem_cons.mp hl with e | hl
  · rw [e] at z
    rcases List.mem_append.mp z with z | z
    · exact absurd z (by decide)
    · exact dig_no10 (dgT_dig _) z
  rcases List.mem_cons.mp hl with e | hl
  · rw [e] at z
    rcases List.mem_append.mp z with z | z
    · exact absurd z (by decide)
    · have := h.2.1.2.2 10 z; omega
  obtain ⟨q, hq, rfl⟩ := List.mem_map.mp hl
  rcases List.mem_append.mp z with z | z
  · exact absurd z (by decide)
  · exact spl_all _ q hq z
theorem frB_ne (m : Msg) : ∀ l ∈ frB m, l ≠ [] ∧ l.head? ≠ some 58 := by
  intro l hl
  unfold frB at hl
  rcases List.mem_cons.mp hl with e | hl
  · rw [e]; exact ⟨nofun, by show some 105 ≠ some 58; decide⟩
  rcases List.mem_cons.mp hl with e | hl
  · rw [e]; exact ⟨nofun, by show some 116 ≠ some 58; decide⟩
  obtain ⟨q, hq, rfl⟩ := List.mem_map.mp hl
  exact ⟨nofun, by show some 100 ≠ some 58; decide⟩
/-! a reader, sign by sign -/
def closeL (st : List Msg × List (List Nat)) (line : List Nat) : Option (List Msg × List (List Nat)) :=
  if line = [] then (if st.2 = [] then some st else (minG st.2).map fun m => (st.1 ++ [m], [])) else if line.head? = some 58 then some st else some (st.1, st.2 ++ [line])
def stepC (st : List Msg × List (List Nat) × List Nat) (c : Nat) : Option (List Msg × List (List Nat) × List Nat) :=
  if c = 10 then (closeL (st.1, st.2.1) st.2.2).map fun q => (q.1, q.2, []) else some (st.1, st.2.1, st.2.2 ++ [c])
def rdC (st : List Msg × List (List Nat) × List Nat) (cs : List Nat) : Option (List Msg × List (List Nat) × List Nat) := cs.foldlM stepC st
theorem run_nil (st : List Msg × List (List Nat) × List Nat) : rdC st [] = some st := rfl
theorem run_cons (st : List Msg × List (List Nat) × List Nat) (c : Nat) (r : List Nat) : rdC st (c :: r) = (stepC st c).bind fun q => rdC q r := rfl
theorem run_app (st : List Msg × List (List Nat) × List Nat) (a b : List Nat) : rdC st (a ++ b) = (rdC st a).bind fun q => rdC q b := by
  unfold rdC; rw [List.foldlM_append]; rfl
/-- what feed does with the lines is what is done sign by sign -/
theorem run_lines : ∀ (p : List Nat) (fd : List Msg) (ls : List (List Nat)) (cur : List Nat), 10 ∉ cur →
    rdC (fd, ls, cur) p = ((spl (cur ++ p)).dropLast.foldlM closeL (fd, ls)).map fun q => (q.1, q.2, (spl (cur ++ p)).getLastD [])
  | [], fd, ls, cur, h => by rw [run_nil, List.append_nil, spl_free h]; rfl
  | c :: r, fd, ls, cur, h => by
    rw [run_cons]
    by_cases hc : c = 10
    · subst hc
      rw [spl_app h]
      obtain ⟨a, q, e⟩ : ∃ a q, spl r = a :: q := by
        cases hs : spl r with
        | nil => exact absurd hs (spl_ne r)
        | cons a q => exact ⟨a, q, rfl⟩
      rw [e, List.dropLast_cons₂, List.foldlM_cons]
      unfold stepC
      rw [if_pos rfl]
      dsimp only
      cases hcl : closeL (fd, ls) cur with
      | none => rfl
      | some st =>
        obtain ⟨fd', ls'⟩ := st
        show rdC (fd', ls', []) r = _
        rw [run_lines r fd' ls' [] nofun, List.nil_append, e]
        rfl
    · have e : stepC (fd, ls, cur) c = some (fd, ls, cur ++ [c]) := by unfold stepC; rw [if_neg hc]
      rw [e]
      show rdC (fd, ls, cur ++ [c]) r = _
      rw [run_lines r fd ls (cur ++ [c]) (by simp; exact ⟨h, fun z => hc z.symm⟩), List.append_assoc]
      rfl
theorem run_free {q : List Nat} (h : 10 ∉ q) (fd : List Msg) (ls : List (List Nat)) : rdC (fd, ls, []) q = some (fd, ls, q) := by
  rw [run_lines q fd ls [] nofun, List.nil_append, spl_free h]; rfl
theorem run_ln {G : List (List Nat)} (h : ∀ l ∈ G, 10 ∉ l) (fd : List Msg) (ls : List (List Nat)) : rdC (fd, ls, []) (lnC G) = (G.foldlM closeL (fd, ls)).map fun q => (q.1, q.2, []) := by
  have e : spl (lnC G) = G ++ [[]] := by have := spl_lnC (ls := G) (r := []) h; rw [List.append_nil] at this; exact this
  rw [run_lines _ fd ls [] nofun, List.nil_append, e, List.dropLast_concat]
  congr 1
  funext q
  simp
/-- silent lines: notes and empty ones, where no line has come -/
theorem fold_silent : ∀ {P : List (List Nat)} (fd : List Msg), (∀ l ∈ P, l = [] ∨ l.head? = some 58) → P.foldlM closeL (fd, []) = some (fd, [])
  | [], _, _ => rfl
  | l :: P, fd, h => by
    have e : closeL (fd, []) l = some (fd, []) := by
      unfold closeL
      rcases h l List.mem_cons_self with e | e
      · rw [if_pos e, if_pos rfl]
      · rw [if_neg (fun z => by rw [z] at e; cases e), if_pos e]
    rw [List.foldlM_cons, e]
    exact fold_silent fd (fun x hx => h x (List.mem_cons_of_mem _ hx))
theorem fold_lines : ∀ {L : List (List Nat)} (fd : List Msg) (ls : List (List Nat)), (∀ l ∈ L, l ≠ []) → L.foldlM closeL (fd, ls) = some (fd, ls ++ L.filter fun l => decide (l.head? ≠ some 58))
  | [], _, ls, _ => by simp
  | l :: L, fd, ls, h => by
    have hl := h l List.mem_cons_self
    rw [List.foldlM_cons]
    unfold closeL
    rw [if_neg hl]
    by_cases e : l.head? = some 58
    · rw [if_pos e, List.filter_cons, if_neg (by simp [e])]
      exact fold_lines fd ls (fun x hx => h x (List.mem_cons_of_mem _ hx))
    · rw [if_neg e, List.filter_cons, if_pos (by simp [e])]
      show List.foldlM closeL (fd, ls ++ [l]) L = _
      rw [fold_lines fd (ls ++ [l]) (fun x hx => h x (List.mem_cons_of_mem _ hx)), List.append_assoc]
      rfl
/-- a place within lines: whole lines, and the front of one -/
theorem ln_cut : ∀ {LL : List (List Nat)} {p : List Nat}, p <+: lnC LL → p ≠ lnC LL → ∃ G1 l G2 q, LL = G1 ++ l :: G2 ∧ p = lnC G1 ++ q ∧ q <+: l
  | [], p, h, hn => by
    have : p = [] := List.prefix_nil.mp h
    exact absurd this hn
  | l :: LL, p, h, hn => by
    rw [lnC_cons] at h hn
    by_cases hp : p.length ≤ l.length
    · refine ⟨[], l, LL, p, rfl, rfl, ?_⟩
      obtain ⟨r, hr⟩ := h
      have := List.prefix_append l (10 :: lnC LL)
      exact List.prefix_of_prefix_length_le ⟨r, hr⟩ this hp
    · have h2 : l ++ [10] <+: p := by
        refine List.prefix_of_prefix_length_le (l₃ := l ++ 10 :: lnC LL) ⟨lnC LL, by simp⟩ h ?_
        simp; omega
      obtain ⟨p', rfl⟩ := h2
      have h3 : p' <+: lnC LL := by
        have : (l ++ [10]) ++ p' <+: (l ++ [10]) ++ lnC LL := by simpa using h
        exact (List.prefix_append_right_inj _).mp this
      have hn' : p' ≠ lnC LL := fun e => hn (by rw [e]; simp)
      obtain ⟨G1, l', G2, q, e, ep, hq⟩ := ln_cut h3 hn'
      exact ⟨l :: G1, l', G2, q, by rw [e]; rfl, by rw [ep, lnC_cons]; simp, hq⟩
/-- signs that are read as one message, which is found with the last of them -/
structure SegOk (m : Msg) (s : List Nat) : Prop where
  ne : s ≠ []
  all : ∀ fd, rdC (fd, [], []) s = some (fd ++ [m], [], [])
  part : ∀ fd p, p <+: s → p ≠ s → ∃ ls cur, rdC (fd, [], []) p = some (fd, ls, cur)
theorem seg_of {m : Msg} (hm : OkM m) {P L : List (List Nat)} (hP : ∀ l ∈ P, (l = [] ∨ l.head? = some 58) ∧ 10 ∉ l) (hL : ∀ l ∈ L, l ≠ [] ∧ 10 ∉ l) (hf : (L.filter fun l => decide (l.head? ≠ some 58)) = frB m) : SegOk m (lnC (P ++ L ++ [[]])) := by
  have hfree : ∀ l ∈ P ++ L ++ [[]], 10 ∉ l := by
    intro l hl
    rcases List.mem_append.mp hl with hl | hl
    · rcases List.mem_append.mp hl with hl | hl
      · exact (hP l hl).2
      · exact (hL l hl).2
    · rw [List.mem_singleton] at hl; rw [hl]; exact nofun
  refine ⟨?_, fun fd => ?_, fun fd p hp hn => ?_⟩
  · rw [lnC_app]; simp [lnC]
  · rw [run_ln hfree, List.foldlM_append, List.foldlM_append, fold_silent fd (fun l hl => (hP l hl).1)]
    show Option.map _ ((List.foldlM closeL (fd, []) L).bind fun q => List.foldlM closeL q [[]]) = _
    rw [fold_lines fd [] (fun l hl => (hL l hl).1), hf, List.nil_append]
    show Option.map _ ((closeL (fd, frB m) []).bind fun q => some q) = _
    have e : closeL (fd, frB m) [] = some (fd ++ [m], []) := by
      unfold closeL
      rw [if_pos rfl, if_neg (by unfold frB; exact nofun), minG_fr hm]; rfl
    rw [e]; rfl
  · obtain ⟨G1, l, G2, q, e, rfl, hq⟩ := ln_cut hp hn
    have h1 : ∀ x ∈ G1, 10 ∉ x := fun x hx => hfree x (by rw [e]; exact List.mem_append_left _ hx)
    have h2 : 10 ∉ q := fun z => hfree l (by rw [e]; exact List.mem_append_right _ List.mem_cons_self) (hq.subset z)
    -- G1 is a front of P ++ L
    have hG : G1 <+: P ++ L := by
      have : G1 <+: P ++ L ++ [[]] := ⟨l :: G2, e.symm⟩
      refine List.prefix_of_prefix_length_le this (List.prefix_append _ _) ?_
      have := congrArg List.length e
      simp at this ⊢
      omega
    have h3 : ∃ ls, G1.foldlM closeL (fd, []) = some (fd, ls) := by
      by_cases hl : G1.length ≤ P.length
      · have : G1 <+: P := List.prefix_of_prefix_length_le hG (List.prefix_append _ _) hl
        exact ⟨[], fold_silent fd (fun x hx => (hP x (this.subset hx)).1)⟩
      · have : P <+: G1 := List.prefix_of_prefix_length_le (List.prefix_append P L) hG (by omega)
        obtain ⟨L1, rfl⟩ := this
        have hL1 : L1 <+: L := (List.prefix_append_right_inj _).mp hG
        refine ⟨[] ++ L1.filter fun l => decide (l.head? ≠ some 58), ?_⟩
        rw [List.foldlM_append, fold_silent fd (fun l hl => (hP l hl).1)]
        exact fold_lines fd [] (fun x hx => (hL x (hL1.subset hx)).1)
    obtain ⟨ls, h3⟩ := h3
    refine ⟨ls, q, ?_⟩
    rw [run_app, run_ln h1, h3]
    exact run_free h2 fd ls
theorem seg_frame {m : Msg} (hm : OkM m) : SegOk m (frC m) := by
  have := seg_of hm (P := []) (L := frB m) nofun (fun l hl => ⟨(frB_ne m l hl).1, frB_free hm l hl⟩) (List.filter_eq_self.mpr fun l hl => by simpa using (frB_ne m l hl).2)
  simpa [frC] using this
inductive Segs : List Msg → List (List Nat) → Prop
  | nil : Segs [] []
  | cons {m ms s ss} : SegOk m s → Segs ms ss → Segs (m :: ms) (s :: ss)
theorem run_segs : ∀ {ms : List Msg} {ss : List (List Nat)}, Segs ms ss → ∀ fd, rdC (fd, [], []) ss.flatten = some (fd ++ ms, [], []) := by
  intro ms ss hs
  induction hs with
  | nil => intro fd; simp [run_nil]
  | cons hm hr ih =>
    intro fd
    rw [List.flatten_cons, run_app, hm.all fd]
    show rdC (fd ++ [_], [], []) _ = _
    rw [ih]; simp
theorem segs_frames : ∀ {ms : List Msg}, (∀ m ∈ ms, OkM m) → Segs ms (ms.map frC)
  | [], _ => .nil
  | m :: r, h => .cons (seg_frame (h m List.mem_cons_self)) (segs_frames fun x hx => h x (List.mem_cons_of_mem _ hx))
end L2

namespace L2
open PySem PySem.Spec PyProof.Rows PySem.W Builtin.Str
section
variable {X : Cx}
/-! xs * k -/
theorem vals_rep {xs : List V} {its : List Value} (h : Vals xs its) : ∀ k : Nat, Vals (List.replicate k xs).flatten (List.replicate k its).flatten
  | 0 => .nil
  | k + 1 => by rw [List.replicate_succ, List.replicate_succ, List.flatten_cons, List.flatten_cons]; exact h.append (vals_rep h k)
end
/-! a comprehension without a question, while the heap grows -/
def GMap (H : Hp) (vs : List V) : Nat → List V → Hp → Prop := fun i ys H2 => Same H H2 ∧ ys = vs.take i
section
variable {K : PySem.W.Frag} {a : Addr} {xs vs : List V} {g : TG} {tc : TT} {te : TE} {τ : St} {H : Hp}
theorem GMap.zero : GMap H vs 0 [] H := ⟨Same.refl H, by simp⟩
theorem GMap.step (ha : ∀ H', Same H H' → SqL K H' a xs) (hl : vs.length = xs.length)
    (hs : ∀ (i : Nat) x v H3 (R : VK) (N : Hp → Prop), xs[i]? = some x → vs[i]? = some v → Same H H3 → (∀ H4, Same H H4 → R v H4) → g x τ H3 fun σ4 H4 => tc σ4 H4 fun b H5 => if b = true then te σ4 H5 R else N H5) :
    ∀ i ys H2, i < xs.length → GMap H vs i ys H2 → (Itl K a).go i H2 ∧ ∀ x H3, (Itl K a).yld i H2 x H3 → g x τ H3 fun σ4 H4 => tc σ4 H4 fun b H5 => if b = true then te σ4 H5 fun y H6 => GMap H vs (i + 1) (ys ++ [y]) H6 else GMap H vs (i + 1) ys H5 := by
  rintro i ys H2 hi ⟨s2, rfl⟩
  have ec : xs[i]? = some xs[i] := List.getElem?_eq_getElem hi
  have ev : vs[i]? = some (vs[i]'(by omega)) := List.getElem?_eq_getElem (by omega)
  refine ⟨⟨xs, xs[i], ha _ s2, ec⟩, ?_⟩
  rintro x H3 ⟨rfl, hx⟩
  have hx' := hx _ (ha _ s2)
  rw [ec] at hx'
  obtain rfl := Option.some.inj hx'
  refine hs i _ _ _ _ _ ec ev s2 fun H4 s4 => ⟨s4, ?_⟩
  rw [List.take_add_one, ev]; rfl
theorem GMap.done (ha : ∀ H', Same H H' → SqL K H' a xs) (hl : vs.length = xs.length) {ys : List V} {H2 : Hp} (h : GMap H vs xs.length ys H2) : (Itl K a).stop xs.length H2 ∧ Same H H2 ∧ ys = vs := by
  obtain ⟨s2, rfl⟩ := h
  rw [List.take_of_length_le (by omega)]
  exact ⟨⟨xs, ha _ s2, Nat.le_refl _⟩, s2, rfl⟩
end
/-! a reader -/
def sV (l : List Nat) : V := .str ⟨l.toArray⟩
def rdF (z : Str) (l : Addr) : List (Str × V) := [("line_begun", .str z), ("lines_begun", .ref l)]
theorem rdF_line {z : Str} {l : Addr} : (rdF z l).lookup ("line_begun" : Str) = some (V.str z) := lk_hit
theorem rdF_lines {z : Str} {l : Addr} : (rdF z l).lookup ("lines_begun" : Str) = some (V.ref l) := (lk_miss (by decide +kernel)).trans lk_hit
theorem rdF_no {z : Str} {l : Addr} {f : Str} (h1 : ¬ f = "line_begun") (h2 : ¬ f = "lines_begun") : (rdF z l).lookup f = none := (lk_miss h1).trans (lk_miss h2)
theorem rdF_make {z : Str} {l : Addr} : putF "lines_begun" (.ref l) (putF "line_begun" (.str z) []) = rdF z l := by
  show putF "lines_begun" (.ref l) [("line_begun", .str z)] = _
  rw [pf_miss (by decide +kernel)]; rfl
theorem rdF_set {z z' : Str} {l l' : Addr} : putF "lines_begun" (.ref l') (putF "line_begun" (.str z') (rdF z l)) = rdF z' l' := by
  unfold rdF
  rw [pf_hit, pf_miss (by decide +kernel), pf_hit]
structure DAt (C : Addr) (H : Hp) (p : Addr) (ls : List (List Nat)) (cur : List Nat) (l : Addr) : Prop where
  ob : ∃ dx, H p = some (.ins C dx (rdF ⟨cur.toArray⟩ l))
  li : H l = some (.lst (ls.map sV))
section
variable {C : Addr} {H H' : Hp} {p l : Addr} {ls : List (List Nat)} {cur : List Nat}
theorem DAt.step {ps ps' : List Addr} (h : DAt C H p ls cur l) (st : Stp ps H ps' H') (hd : ∀ c ∈ [p, l], c ∉ ps) : DAt C H' p ls cur l := by
  obtain ⟨⟨dx, h1⟩, h2⟩ := h
  exact ⟨⟨dx, st.keep h1 (hd _ (by simp))⟩, st.keep h2 (hd _ (by simp))⟩
theorem DAt.same (h : DAt C H p ls cur l) (e : Same H H') : DAt C H' p ls cur l := h.step (e.step []) fun _ _ => List.not_mem_nil
theorem DAt.npl (h : DAt C H p ls cur l) : p ≠ l := by
  obtain ⟨⟨dx, h1⟩, h2⟩ := h
  exact ne_of h1 h2 (by intro z; cases z)
theorem DAt.free (h : DAt C H p ls cur l) {c : Addr} (hc : H c = none) : c ∉ [p, l] := by
  obtain ⟨⟨dx, h1⟩, h2⟩ := h
  simp [(ne_of_none h1 hc).symm, (ne_of_none h2 hc).symm]
end
structure ReaderC (K : PySem.W.Frag) (mg : Str → Option Value) (C : Addr) : Prop where
  cl_Reader : Cls K C
  mg_Reader : mg "Reader" = some (.ref C)
  n_line_begun : NoAttr K C "line_begun"
  n_lines_begun : NoAttr K C "lines_begun"
def spDInit (C : Addr) : Sp := fun vs H Q _ => ∃ (p dx : Addr), vs = [.ref p] ∧ H p = some (.ins C dx []) ∧ ∀ l H', DAt C H' p [] [] l → Stp [p] H [p, l] H' → Q .non H'
def spBetween (C : Addr) : Sp := fun vs H Q _ => ∃ (p l : Addr) (ls : List (List Nat)) (cur : List Nat), vs = [.ref p] ∧ DAt C H p ls cur l ∧ ∀ H', Same H H' → Q (.bl (decide (cur = []) && decide (ls = []))) H'
end L2

namespace L2
open PySem PySem.Spec PyProof.Rows PySem.W Builtin.Str
theorem cps_len (w : Str) : w.cps.toList.length = w.length := by rw [Array.length_toList]; rfl
theorem starts_is (z y : Str) : Txt.startswith z y = decide (z.cps.toList.take y.length = y.cps.toList) := by
  by_cases h : y.length ≤ z.length
  · have e2 : Txt.startswith z y = subAt z y 0 := by
      unfold Txt.startswith
      rw [decide_eq_true (by omega : 0 + y.length ≤ z.length)]; rfl
    rw [e2]
    unfold subAt
    have e3 : z.cps.extract 0 (0 + y.length) = (z.cps.toList.take y.length).toArray := by
      apply Array.toList_inj.mp
      simp
    rw [e3]
    cases hb : ((z.cps.toList.take y.length).toArray == y.cps) with
    | true => exact (decide_eq_true (by rw [← eq_of_beq hb])).symm
    | false =>
      refine (decide_eq_false fun w => ?_).symm
      have : (z.cps.toList.take y.length).toArray = y.cps := by rw [w]
      rw [this] at hb
      simp at hb
  · have e2 : Txt.startswith z y = false := by
      unfold Txt.startswith
      rw [decide_eq_false (by omega : ¬ 0 + y.length ≤ z.length)]; rfl
    rw [e2]
    refine (decide_eq_false fun w => ?_).symm
    have := congrArg List.length w
    rw [List.length_take, cps_len, cps_len] at this
    omega
theorem starts_one (z : Str) (c : Nat) : Txt.startswith z ⟨#[c]⟩ = decide (z.cps.toList.head? = some c) := by
  rw [starts_is]
  have e : (⟨#[c]⟩ : Str).length = 1 := rfl
  rw [e]
  cases h : z.cps.toList with
  | nil => simp
  | cons a r => simp
theorem slice_drop {z : Str} {k : Nat} (h : k ≤ z.cps.toList.length) : Txt.slice z (some (k : Int)) none = ⟨(z.cps.toList.drop k).toArray⟩ := by
  have e := eq_of_beq (slice_closes_from (x := z) (i := (k : Int)) ⟨by omega, by omega⟩)
  rw [e]
  apply str_ext'
  simp only [Int.toNat_natCast]
  rw [List.take_of_length_le (by rw [List.length_drop]; omega)]
theorem same_none {H H' : Hp} {c : Addr} (s : Same H H') (h : H' c = none) : H c = none := by
  cases e : H c with
  | none => rfl
  | some o => rw [s _ _ e] at h; cases h
theorem same_upd {H H' : Hp} {c : Addr} {o : HO} (s : Same H H') (h : H c = none) : Same H (upd H' c o) := by
  intro b u hb
  rw [upd_ne (fun e => by rw [e, h] at hb; cases hb)]
  exact s _ _ hb
theorem cut_last {xs : List V} : cutV xs none (some (-1)) = xs.dropLast := by
  unfold cutV
  rw [HT.sIx_none, List.drop_zero, Nat.sub_zero, List.dropLast_eq_take]
  congr 1
  show (if (-1 : Int) < 0 then ((-1 : Int) + (xs.length : Int)).toNat else min (-1 : Int).toNat xs.length) = _
  rw [if_pos (by decide)]
  omega
theorem slice_mid {z : Str} {i j : Int} (h0 : 0 ≤ i) (h1 : i ≤ j) (h2 : i ≤ z.cps.toList.length) : Txt.slice z (some i) (some j) = ⟨((z.cps.toList.drop i.toNat).take (j - i).toNat).toArray⟩ := by
  by_cases hj : j ≤ z.cps.toList.length
  · exact eq_of_beq (slice_closes (x := z) (i := i) (j := j) ⟨h0, h1, hj⟩)
  · have e : Txt.slice z (some i) (some j) = Txt.slice z (some i) (some (z.length : Int)) := by
      show StrLaws.sliceText z (some i) (some j) = StrLaws.sliceText z (some i) (some (z.length : Int))
      unfold StrLaws.sliceText
      have hl : (z.length : Int) = (z.cps.toList.length : Int) := by rw [cps_len]
      have a1 : ¬ j < 0 := by omega
      have a2 : ¬ ((z.length : Int) < 0) := by omega
      have a3 : ¬ i < 0 := by omega
      have e1 : max (0 : Int) (min j (z.length : Int)) = z.length := by omega
      have e2 : max (0 : Int) (min (z.length : Int) (z.length : Int)) = z.length := by omega
      have : strSliceIndices (some i) (some j) 1 z.length = strSliceIndices (some i) (some (z.length : Int)) 1 z.length := by
        simp [strSliceIndices, a1, a2, a3, e1, e2]
      rw [this]
    have hl : (z.length : Int) = (z.cps.toList.length : Int) := by rw [cps_len]
    rw [e, eq_of_beq (slice_closes (x := z) (i := i) (j := (z.length : Int)) ⟨h0, by omega, by omega⟩)]
    apply str_ext'
    simp only []
    rw [List.take_of_length_le (by rw [List.length_drop]; omega), List.take_of_length_le (by rw [List.length_drop]; omega)]
end L2

namespace L2
open PySem PySem.Spec PyProof.Rows PySem.W Builtin.Str
theorem codes_ok {x : Str} (h : ∀ c ∈ x.cps.toList, c < 1114112) : PyData.strOk x = true := by
  unfold PyData.strOk
  rw [← Array.all_toList, List.all_eq_true]
  intro c hc
  exact decide_eq_true (h c hc)
theorem OkM.mok {m : Msg} (h : OkM m) : mOk m := ⟨codes_ok fun c hc => by have := h.2.1.2.2 c hc; omega, codes_ok fun c hc => by have := h.2.2.2 c hc; omega⟩
end L2

namespace L2
open PySem PySem.Spec PyProof.Rows PySem.W
/-! ### a def that may raise, called by its name -/
structure CalleeX (P : Program) (w : World) (K : PySem.W.Frag) (mg : Str → Option Value) (base : Heap) (k : Nat) (x : Str) (ps : List Str) (sp : Sp) : Prop where
  ex : ∃ f fd, FnOk P w K mg base (CXF P w) k f fd ps sp ∧ mg x = some (.ref f) ∧ PySem.W.keepIn K (.ref f) = true ∧ Binds K fd ps []
section
variable {X : Cx} {k : Nat} {x : Str} {ps : List Str} {sp : Sp} {e : Expr} {es : List Expr} {t : TA} {p pos : Pos} {E : XK} {σ0 : St}
theorem as_fnX (C : CalleeX X.prog X.w X.K X.mg X.base k x ps sp) (hr : Room k X.A) (hx : Passes (CXF X.prog X.w) X E) (ha : PAt X e es t) (hg : Gl X x := by rfl) (hdb : (x == ("__debug__" : Str)) = false := by decide) :
    PE X (.Call (.Name x p) (e :: es) [] pos) (tCall sp [] E t) := by
  obtain ⟨f, fd, F, hm, hk, hb⟩ := C.ex
  exact pe_call F hr hg hm hk hb .nil hx ha.all.pa hdb (ha.all.he ha.tl) (by rw [ha.tl]; exact back_any _ _ _)
end
/-! ### an exception that leaves a comprehension -/
theorem leaves_onF {M : Model} {A : Around} {E : Value → Shared → Prop} {s : Shared} {base : Heap} {env : Env} {outer : List Env} {L e : Addr} {cls a0 fl : Value} {Q : Unit → Shared → Prop}
    (hfr : A.frames = some (env :: outer)) (hf : env.frame = some L) (f1 : base.StaysIn s.heap) (f2 : base.get? e = none) (f3 : s.heap.FunFrames base (env :: outer)) (ht : s.heap.TracedAtW base e cls a0 fl)
    (hQ : ∀ h', Heap.FlyingW base outer e cls a0 h' → s.heap.UpToSlots h' → Q () { s with heap := h' }) : wpAny M A (leaving env (.ref e)) Q E s := by
  obtain ⟨oe, vs, T, oT, ts, he, ⟨hcls, h0⟩, hd, h1, hnT, hTe, hT, hdT, h3⟩ := id ht
  by_cases hb : (fl == rawInt L) = true
  · have e1 : fl = rawInt L := eq_of_beq hb
    subst e1
    unfold leaving
    refine wpAny_bind (wpAny_noteFrame_againW hf ht ?_)
    exact wpAny_landsW (l := env :: outer) (L := L) ⟨f1, f2, f3, ht⟩ fun h' fly sm => hQ h' ⟨fly.1, fly.2.1, fly.2.2.1.2.2, fly.2.2.2⟩ sm
  · subst hcls
    unfold leaving noteFrame
    simp only [hf]
    refine wpAny_bind (wpAny_bind (wpAny_field he hd h1 ?_))
    rw [if_pos (show (Value.ref T != Value.none) = true from by simp)]
    refine wpAny_bind (wpAny_field hT hdT h3 ?_)
    rw [if_neg hb]
    refine wpAny_bind (wpAny_setField hT hdT (Array.getElem?_eq_some_iff.mp h3).1 ?_)
    have other : ∀ b, b ≠ T → (s.heap.update T (Obj.mapFields (·.setIfInBounds 3 Value.none))).get? b = s.heap.get? b := fun b hb => Heap.get?_update_other _ _ (Ne.symm hb)
    have noRecord : ∀ b o, s.heap.get? b = some o → (∀ vs, o.data ≠ .fields vs) → b ≠ T := fun b o hb hnf q => by
      rw [q, hT] at hb; injection hb with hb; subst hb; exact hnf ts hdT
    refine wpAny_newEntryW hfr (f3.of_keeps fun b o hb hnf => ⟨o, (other b (noRecord b o hb hnf)).trans hb, rfl⟩) hf ((other e (Ne.symm hTe)).trans he)
      (fun b o hbo => (other b fun q => by rw [q, hnT] at hbo; cases hbo).trans (f1 b o hbo)) f2 hd (Array.getElem?_eq_some_iff.mp h1).1 h0
      fun h' ⟨x1, x2, x3, x4⟩ => hQ h' ⟨x1, f2, x2.2.2, x3⟩ fun b o hb hnf => x4 b o ((other b (noRecord b o hb hnf)).trans hb) hnf
/-- what leaves a block leaves the def around it -/
def PassesF (X : Cx) (E : XK) : Prop := ∀ (pins : List (Addr × Obj)) (σ : St) (H : Hp) (s : Shared) (a : Addr) (cls : Value) (s' : Shared) (B : Heap) (a0 fl : Value) (Ls : List Addr), Inv X pins σ H s → s'.os = s.os → AllBare s'.gens → B.StaysIn s'.heap → B.get? a = none → s'.heap.FunFrames B X.stack → s'.heap.TracedAtW B a cls a0 fl →
  (∀ b o, s.heap.get? b = some o → b ∉ frs X.stack → b ∉ Ls → B.get? b = some o) → (∀ L ∈ Ls, X.s₀.heap.get? L = none ∧ H L = none) → s.heap.UpToSlots s'.heap → s.heap.get? a = none → H a = none → E cls none H → X.xe (.ref a) s'
theorem passF_on {P : Program} {w : World} {K : PySem.W.Frag} {mg : Str → Option Value} {base : Heap} {N : List Str} {qual : Str} {scope : Scope} {f : Addr} {cd : Value} {A : Around} {outer : List Env} {s : Shared} {H : Hp} {E : XK} :
    PassesF (cxOf (CXF P w) P w K mg base N qual scope f cd A outer s H E) E := by
  intro pins σ H1 s1 a cls s2 B a0 fl Ls I os bare b1 b2 b3 b4 cov hL sm han ha hE
  refine leaves_onF (env := envOfC qual scope s.heap.objs.size f cd) (outer := outer) I.ok.frames rfl b1 b2 b3 b4 fun h' fl2 sm2 => ?_
  refine ⟨a, cls, H1, rfl, os.trans I.os, bare, ⟨B, a0, s1.heap, s.heap.objs.size :: Ls, fl2, I.base, I.hok, fun b o ho hb hL2 => ?_, fun L z => ?_, sm.trans sm2, han⟩, ha, hE⟩
  · refine cov b o ho (fun hm => ?_) fun z => hL2 (List.mem_cons_of_mem _ z)
    have hm' : b ∈ s.heap.objs.size :: frs outer := hm
    rcases List.mem_cons.mp hm' with z | z
    · exact hL2 (by rw [z]; exact List.mem_cons_self)
    · exact hb z
  · rcases List.mem_cons.mp z with z | z
    · rw [z]; exact ⟨Heap.get?_none_of_le (Nat.le_refl _), I.free⟩
    · exact hL L z
theorem funF {h h' B B' : Heap} : ∀ {l : List Env}, (∀ b o, b ∈ frs l → h.get? b = some o → (∀ vs, o.data ≠ .fields vs) → h'.get? b = some o) → (∀ b, B.get? b = none → B'.get? b = none) → h.FunFrames B l → h'.FunFrames B' l
  | [], _, _, _ => trivial
  | env :: r, k, kb, hl => by
    obtain ⟨hk, ⟨L, o, hf, hn, ho, hd⟩, hr⟩ := hl
    refine ⟨hk, ⟨L, o, hf, kb L hn, k L o ?_ ho hd, hd⟩, funF (fun b o hb => k b o ?_) kb hr⟩
    · exact List.mem_filterMap.mpr ⟨env, List.mem_cons_self, hf⟩
    · obtain ⟨e, he, hfe⟩ := List.mem_filterMap.mp hb
      exact List.mem_filterMap.mpr ⟨e, List.mem_cons_of_mem _ he, hfe⟩
def Cx.blkX (X : Cx) (E : XK) (scope : Scope) (N' : List Str) (C : Addr) (s₂ : Shared) (H₂ : Hp) (ex : List Addr) : Cx :=
  { X.blk scope N' C s₂ H₂ ex with xe := fun e s' => ∃ pins0 σ0 H0 s0, Inv (X.blk scope N' C s₂ H₂ ex) pins0 σ0 H0 s0 ∧ CXF X.prog X.w X.stack H0 s0 E e s' }
section
variable {X : Cx} {E : XK} {scope : Scope} {N' : List Str} {ix : List (Option Nat)} {C D : Addr} {s₂ : Shared} {H₂ : Hp} {ex fp : List Addr} {pins : List (Addr × Obj)} {σ : St} {H : Hp} {s : Shared}
theorem Inv.toX (I : Inv (X.blk scope N' C s₂ H₂ ex) pins σ H s) : Inv (X.blkX E scope N' C s₂ H₂ ex) pins σ H s :=
  ⟨⟨I.ok.mod, I.ok.kind, I.ok.glob, I.ok.blt, I.ok.above, I.ok.inj, I.ok.has, I.ok.cab, I.ok.hd, I.ok.frames, I.ok.stk, I.ok.exf, I.ok.bs, I.ok.bsz, I.ok.noex, I.ok.exfs, I.ok.funs, I.ok.frf⟩, I.os, I.bare, I.base, I.loc, I.cell, I.free, I.freeC, I.pin, I.hok, I.len⟩
theorem Inv.unX (I : Inv (X.blkX E scope N' C s₂ H₂ ex) pins σ H s) : Inv (X.blk scope N' C s₂ H₂ ex) pins σ H s :=
  ⟨⟨I.ok.mod, I.ok.kind, I.ok.glob, I.ok.blt, I.ok.above, I.ok.inj, I.ok.has, I.ok.cab, I.ok.hd, I.ok.frames, I.ok.stk, I.ok.exf, I.ok.bs, I.ok.bsz, I.ok.noex, I.ok.exfs, I.ok.funs, I.ok.frf⟩, I.os, I.bare, I.base, I.loc, I.cell, I.free, I.freeC, I.pin, I.hok, I.len⟩
theorem pass_blk : Passes (CXF X.prog X.w) (X.blkX E scope N' C s₂ H₂ ex) E := fun pins σ H s e s' I h => ⟨pins, σ, H, s, I.unX, h⟩
theorem blk_err {use : Option (Value → Sem Unit)} {QQ : Value → Shared → Prop} {acc : Value} {s' : Shared} {e : Value} (I : Inv X pins σ H₂ s₂) (S : CompScope X scope N' ix) (hD : s₂.heap.objs.size ≤ D) (hDC : D < C) (hf : ∀ b ∈ fp, FpOk X pins H₂ b)
    (hF : PassesF X E) (hst : X.stack = X.env :: X.outer) (hfr : X.env.frame = some X.env.locals) (hex : X.ex = []) (h : (X.blkX E scope N' C s₂ H₂ (D :: fp)).xe e s') :
    notedBy (model X.prog X.w) X.A (compEnvC scope (clOf X.env.cells scope.names []) C X.env) (fun x s'' => compPost (model X.prog X.w) X.A X.xe use QQ acc C (.error x) s'') e s' := by
  obtain ⟨pins0, σ0, H0, s0, I0, a, cls, H', rfl, os, bare, ⟨B, a0, hr, Ls, fl, un, hok, cov, hL, sm, han⟩, ha, hE⟩ := h
  have hCs : s₂.heap.objs.size ≤ C := Nat.le_of_lt (Nat.lt_of_le_of_lt hD hDC)
  obtain ⟨m, hn, _⟩ := id I0.loc
  obtain ⟨oC, es, ep, hoC, hdC, rC⟩ := id hn
  have hbase : Un (frs X.stack) (D :: fp) H₂ H0 s₂.heap s0.heap := I0.base
  have hH0C : H0 C = none := I0.free
  have hCfr : C ∉ frs X.stack := fun hm => by
    obtain ⟨_, o, ho, _⟩ := I.stack.mem hm
    exact absurd (Nat.lt_of_lt_of_le (Heap.lt_size ho) hCs) (Nat.lt_irrefl _)
  have hrC : hr.get? C = some oC := un.keep C oC hoC hH0C hCfr (by simp)
  have hH'C : H' C = none := un.free C oC hoC hH0C (by simp)
  have hBC : B.get? C = some oC := cov C oC hrC hCfr fun z => by
    have q := (hL C z).1
    have hoC' : s0.heap.get? C = some oC := hoC
    rw [hoC'] at q; cases q
  have haC : a ≠ C := fun z => by rw [z, hrC] at han; cases han
  show wpAny _ X.A (noteFrame (.ref a) X.env) _ _ s'
  refine wpAny_looks_onW (env := X.env) (outer := X.outer) (by rw [I.ok.frames, hst]) hfr (by rw [← hst]; exact fl) fun h4 held4 sm4 => ?_
  obtain ⟨k1, k2, k3, k4⟩ := held4
  have smX : hr.UpToSlots h4 := sm.trans sm4
  obtain ⟨oe, vs, T, oT, ts, he, hcls, hd, h1, hnT, hTe, hT, hdT, h3⟩ := k4
  have hTC : T ≠ C := fun z => by rw [z, hBC] at hnT; cases hnT
  have nC : ∀ b o, s₂.heap.get? b = some o → b ≠ C := fun b o e => Nat.ne_of_lt (Nat.lt_of_lt_of_le (Heap.lt_size e) hCs)
  have nx : ∀ b o, s₂.heap.get? b = some o → b ∉ fp → b ∉ D :: fp := fun b o e hb z => by
    rcases List.mem_cons.mp z with q | q
    · exact Nat.ne_of_lt (Nat.lt_of_lt_of_le (Heap.lt_size e) hD) q
    · exact hb q
  have key : ∃ m, h4.Ns C m ∧ ∀ h', Heap.SameBut C h4 h' → ∀ cenv : Env, cenv.locals = C → wpAny (model X.prog X.w) X.A (PySem.passOn "comprehension.variables-let-go" (.ref a) cenv : Sem Value) (fun _ _ => False) X.xe { s' with heap := h' } := by
    refine ⟨m, smX.ns ⟨oC, es, ep, hrC, hdC, rC⟩, fun h5 sb cenv hc => ?_⟩
    have he5 : h5.get? a = some oe := (sb.2 a haC).trans he
    have hT5 : h5.get? T = some oT := (sb.2 T hTC).trans hT
    unfold PySem.passOn
    refine wpAny_bind (wpAny_field he5 hd h1 ?_)
    rw [if_neg (show ¬ ((Value.ref T == Value.none) = true) from by simp)]
    refine wpAny_bind ?_
    unfold setFlight
    refine wpAny_bind (wpAny_field he5 hd h1 ?_)
    rw [if_pos (show (Value.ref T != Value.none) = true from by simp)]
    refine wpAny_setField hT5 hdT (Array.getElem?_eq_some_iff.mp h3).1 ?_
    generalize (cenv.frame.elim Value.none fun f => rawInt f) = vf
    refine wpAny_throw ?_
    have oth : ∀ b, b ≠ T → (h5.update T (Obj.mapFields (·.setIfInBounds 3 vf))).get? b = h5.get? b := fun b hb => Heap.get?_update_other _ _ (Ne.symm hb)
    have hself := Heap.get?_update_self (Obj.mapFields (·.setIfInBounds 3 vf)) hT5 (Obj.isFreed_of_fields (Obj.data_mapFields hdT _))
    have hI : Inv X pins σ H' { s' with heap := hideAll hr [C] } := by
      refine I.call' (ch := fp) (s' := { s' with heap := hideAll hr [C] }) (os.trans I0.os) ⟨fun b o e n hb hx => ?_, fun b o e n hb hx => ?_, fun b o e n hx => ?_, fun b o e hx => ?_, fun b xs e => ?_, fun b o u e => ?_, fun b ps e => ?_⟩ (fun b u e => ?_) bare (fun b hb => ⟨(hf b hb).2.2.2.1, (hf b hb).2.1, (hf b hb).2.2.2.2.1, (hf b hb).2.2.2.2.2⟩)
      · exact hideAll_get _ (un.keep b o (hbase.keep b o e n hb (nx b o e hx)) (hbase.free b o e n (nx b o e hx)) hb (by simp)) (by simpa using nC b o e)
      · obtain ⟨sl, q⟩ := hbase.slot b o e n hb (nx b o e hx)
        obtain ⟨sl2, q2⟩ := un.slot b _ q (hbase.free b o e n (nx b o e hx)) hb (by simp)
        exact ⟨sl2, hideAll_get _ q2 (by simpa using nC b o e)⟩
      · obtain ⟨o', q⟩ := hbase.there b o e (nx b o e hx)
        exact un.free b o' q (hbase.free b o e n (nx b o e hx)) (by simp)
      · obtain ⟨o', q⟩ := hbase.there b o e (nx b o e hx)
        obtain ⟨o2, q2⟩ := un.there b o' q (by simp)
        exact ⟨o2, hideAll_get _ q2 (by simpa using nC b o e)⟩
      · exact un.tups b xs (hbase.tups b xs e)
      · exact un.frzs b o u (hbase.frzs b o u e)
      · obtain ⟨m1, q1⟩ := hbase.tbls b ps e
        obtain ⟨m2, q2⟩ := un.tbls b _ q1
        exact ⟨m1 ++ m2, by rw [← Array.append_assoc]; exact q2⟩
      · refine (hok b u e).stay (fun c v hc q => hideAll_get _ q ?_) (fun _ q => q) fun _ _ q => q
        rw [List.mem_singleton]
        intro hcC
        rcases hc with z | z
        · rw [← z, hcC, hH'C] at e; cases e
        · rw [hcC, hH'C] at z; cases z
    have bC : ∀ {h : Heap} {b : Addr} {o : Obj}, (hideAll h [C]).get? b = some o → b ≠ C := fun {h b o} q z => by
      rw [hideAll_none (l := [C]) (h := h) (b := b) (by simp [z])] at q; cases q
    refine hF pins σ H' _ a cls _ (hideAll B [C]) a0 vf Ls hI rfl bare (fun b o hb => ?_) ?_ ?_ ⟨oe, vs, T, _, _, ?_, hcls, hd, h1, ?_, hTe, hself, Obj.data_mapFields hdT _, ?_⟩ (fun b o hb hfr2 hls => hideAll_get _ (cov b o (of_hideAll _ hb) hfr2 hls) (by simpa using bC hb)) (fun L z => ⟨?_, (hL L z).2⟩) (fun b o hb hnf => ?_) ?_ ha hE
    · have hb' := of_hideAll _ hb
      have bT : b ≠ T := fun z => by rw [z, hnT] at hb'; cases hb'
      exact (oth b bT).trans ((sb.2 b (bC hb)).trans (k1 b o hb'))
    · cases q : (hideAll B [C]).get? a with
      | none => rfl
      | some o => have := of_hideAll _ q; rw [k2] at this; cases this
    · rw [hst] at hCfr ⊢
      refine funF (fun b o hb ho hnf => ?_) (fun b hb => ?_) k3
      · have bT : b ≠ T := fun z => by
          rw [z, hT] at ho
          injection ho with ho
          subst ho
          exact hnf ts hdT
        have bc : b ≠ C := fun z => hCfr (by rw [← z]; exact hb)
        exact (oth b bT).trans ((sb.2 b bc).trans ho)
      · cases q : (hideAll B [C]).get? b with
        | none => rfl
        | some o => have := of_hideAll _ q; rw [hb] at this; cases this
    · exact (oth a (Ne.symm hTe)).trans he5
    · cases q : (hideAll B [C]).get? T with
      | none => rfl
      | some o => have := of_hideAll _ q; rw [hnT] at this; cases this
    · have := (Array.getElem?_eq_some_iff.mp h3).1
      simp [this]
    · cases q : X.s₀.heap.get? L with
      | none => rfl
      | some o =>
        exfalso
        obtain ⟨o1, q1⟩ := I.base.there L o q (by rw [hex]; simp)
        by_cases hfp : L ∈ fp
        · rcases (hf L hfp).2.2.2.1 with z | z
          · rw [hex] at z; cases z
          · exact absurd (Nat.lt_of_lt_of_le (Heap.lt_size q) z) (Nat.lt_irrefl _)
        · obtain ⟨o2, q2⟩ := hbase.there L o1 q1 (nx L o1 q1 hfp)
          rw [(hL L z).1] at q2; cases q2
    · have hb' := of_hideAll _ hb
      obtain ⟨sl, q⟩ := smX b o hb' hnf
      have bT : b ≠ T := fun z => by
        rw [z, hT] at q
        injection q with q
        rw [q] at hdT
        exact hnf ts hdT
      exact ⟨sl, (oth b bT).trans ((sb.2 b (bC hb)).trans q)⟩
    · cases q : (hideAll hr [C]).get? a with
      | none => rfl
      | some o => have := of_hideAll _ q; rw [han] at this; cases this
  cases use <;> exact key
end

section
variable {X : Cx} {elt iter tg : Expr} {ifs : List Expr} {scope : Scope} {pos : Pos} {N' : List Str} {ix : List (Option Nat)} {own : List Nat} {wi : TI} {g : TG} {tc : TT} {te : TE}
theorem comp_coreX {E : XK} {use : Option (Value → Sem Unit)} {QQ : Value → Shared → Prop} (hcalm : X.calm = true) (S : CompScope X scope N' ix) (hown : ∀ k ∈ own, ix[k]? = some none) (hi : PI X tg iter wi)
    (hg : ∀ C s₂ H₂ ex, PG (X.blk scope N' C s₂ H₂ ex) tg g) (hgo : TgOwn g own) (hc : ∀ C s₂ H₂ ex, PIfs (X.blk scope N' C s₂ H₂ ex) ifs tc) (he : ∀ C s₂ H₂ ex, PE (X.blkX E scope N' C s₂ H₂ ex) elt te) (hF : PassesF X E) (hst : X.stack = X.env :: X.outer) (hfr : X.env.frame = some X.env.locals) (hex : X.ex = [])
    (hs : ∀ x, foldedSetIterable iter X.env x = pure x) {pins : List (Addr × Obj)} {s : Shared} {σ : St} {H : Hp} {Q : VK} (I : Inv X pins σ H s) (h : tComp wi ix g tc te σ H Q)
    (hend : ∀ (s2 : Shared) (H2 : Hp) (fp : List Addr) (C D : Addr) (s4 : Shared) (H' : Hp) (ys : List V) (its : List Value) (k : Nat) (pins' : List (Addr × Obj)) (σ' : St), Inv X pins σ H2 s2 → s2.heap.objs.size ≤ D → D < C → (∀ b ∈ fp, FpOk X pins H2 b) →
      Inv (X.blk scope N' C s2 H2 (D :: fp)) pins' σ' H' s4 → H' D = none → ys.length ≤ sizeLine → Vals ys its → s4.heap.get? D = some { cls := .type "list", data := .seq its.toArray k } → Q (.ref D) (upd H' D (.lst ys)) →
      compPost (model X.prog X.w) X.A X.xe use QQ (.ref D) C (.ok .next) s4) (p' : Pos) :
    wpAny (model X.prog X.w) X.A (comprehension (.ListComp elt [⟨tg, iter, ifs, 0⟩] scope pos) scope X.env p' (newList []) false (eval iter X.env) use) QQ X.xe s := by
  refine wpAny_comprehension_free (use := use) (cl := clOf X.env.cells scope.names []) rfl hs (closureFor_of (blk_free I S)) S.kind S.own ?_
  refine thn (hi pins s σ H _ I h) fun v s1 h1 => thn h1 fun itv s2 h2 => ?_
  obtain ⟨it, fp, tn, J, H2, e, I2, T, st2, f2, n, Pv, hn, p0, turn, fin⟩ := h2
  subst e
  refine wpAny_newObj_type (wpAny_newFunctionEnv S.cell (by intro y hy; simp at hy) (fun h₁ hns₁ hsb₁ => ?_) S.kind)
  dsimp only at hns₁ hsb₁ ⊢
  generalize hH2 : s2.heap.push { cls := .type "list", dict := none, data := .seq ([] : List Value).toArray } = G2 at hns₁ hsb₁ ⊢
  have hC : G2.objs.size = s2.heap.objs.size + 1 := by rw [← hH2, Heap.size_push]
  have hDC : s2.heap.objs.size < G2.objs.size := by rw [hC]; exact Nat.lt_succ_self _
  have hCle : s2.heap.objs.size ≤ G2.objs.size := Nat.le_of_lt hDC
  have old : ∀ b o, s2.heap.get? b = some o → h₁.get? b = some o := fun b o e => hsb₁.extBut b o (Nat.ne_of_lt (Nat.lt_trans (Heap.lt_size e) hDC)) (Heap.get?_push_of_some _ (hH2 ▸ Heap.get?_push_of_some _ e))
  have hacc : h₁.get? s2.heap.objs.size = some { cls := .type "list", data := .seq #[] } := hsb₁.extBut _ _ (Nat.ne_of_lt hDC) (Heap.get?_push_of_some _ (hH2 ▸ Heap.get?_push_size _ rfl))
  have hDn : H2 s2.heap.objs.size = none := I2.hok.fresh (Nat.le_refl _)
  have fD : ∀ b ∈ s2.heap.objs.size :: fp, FpOk X pins H2 b := fun b hb => by
    rcases List.mem_cons.mp hb with q | q
    · rw [q]; exact I2.fpOk (Nat.le_refl _) hDn
    · exact f2 b q
  have lfp : ∀ b ∈ fp, b < s2.heap.objs.size := fun b hb => by
    obtain ⟨o, ho, _⟩ := T.obj 0 _ st2 b hb
    exact Heap.lt_size ho
  have lD : ∀ b ∈ s2.heap.objs.size :: fp, b < G2.objs.size := fun b hb => by
    rcases List.mem_cons.mp hb with q | q
    · rw [q]; exact hDC
    · exact Nat.lt_trans (lfp b q) hDC
  have I3 : Inv (X.blk scope N' G2.objs.size s2 H2 (s2.heap.objs.size :: fp)) [] (takes ix σ) H2 { s2 with heap := h₁, toks := s2.toks + ([] : List (Str × Value)).length } := blk_inv I2 S hCle fD lD old hns₁
  have st3 : tn 0 h₁ := T.keep 0 _ _ st2 fun b hb o e => old b o e
  have noxE : ∀ {α : Type} {t : Sem α} {Q' : α → Shared → Prop} {E' : Value → Shared → Prop} {s' : Shared}, wpAny (model X.prog X.w) X.A t Q' (fun _ _ => False) s' → wpAny (model X.prog X.w) X.A t Q' E' s' := fun w => wpAny_mono w (fun _ _ q => q) fun _ _ z => False.elim z
  -- a record of the block's own
  have fpB : ∀ {H' : Hp} {pins' : List (Addr × Obj)}, (∀ b ∈ s2.heap.objs.size :: fp, H' b = none) → pins' = [] → ∀ b ∈ s2.heap.objs.size :: fp, FpOk (X.blk scope N' G2.objs.size s2 H2 (s2.heap.objs.size :: fp)) pins' H' b := by
    intro H' pins' hn' hp b hb
    subst hp
    have ok := I3.ok
    exact ⟨hn' b hb, (ok.exf b hb).1, ok.exfs b hb, .inl hb, (ok.exf b hb).2, fun p hp => nomatch hp⟩
  have loop : ∀ s3 : Shared, s3 = { s2 with heap := h₁, toks := s2.toks + ([] : List (Str × Value)).length } →
      codeAny (model X.prog X.w) X.A (.compLoop (.ListComp elt [⟨tg, iter, ifs, 0⟩] scope pos) 0 (.ref it) (.ref s2.heap.objs.size) (compEnvC scope (clOf X.env.cells scope.names []) G2.objs.size X.env))
        (compPost (model X.prog X.w) X.A X.xe use QQ (.ref s2.heap.objs.size) G2.objs.size) s3 := by
    rintro s3 rfl
    refine codeAny_loop rfl (fun mm s' => ∃ i ys its k H', mm = n - i ∧ i ≤ n ∧ ys.length ≤ i ∧ Inv (X.blk scope N' G2.objs.size s2 H2 (s2.heap.objs.size :: fp)) [] (takes ix σ) H' s' ∧ tn i s'.heap ∧
        (∀ b ∈ s2.heap.objs.size :: fp, H' b = none) ∧ Vals ys its ∧ s'.heap.get? s2.heap.objs.size = some { cls := .type "list", data := .seq its.toArray k } ∧ Pv i ys H') ?_ n
      ⟨0, [], [], _, H2, rfl, Nat.zero_le _, Nat.le_refl _, I3, st3, fun b hb => (fD b hb).1, .nil, hacc, p0⟩
    rintro mm s' ⟨i, ys, its, k, H', rfl, hin, hyl, I', st', fr', rv, hob, pv⟩
    show wpAny _ X.A ((compTurn (.ListComp elt [⟨tg, iter, ifs, 0⟩] scope pos) 0 (.ref it) (.ref s2.heap.objs.size) (compEnvC scope (clOf X.env.cells scope.names []) G2.objs.size X.env)).onRaise (fun x => do noteFrame x (compEnvC scope (clOf X.env.cells scope.names []) G2.objs.size X.env); theTreesLotGoes x)) _ _ s'
    refine wpAny_noted ?_
    rw [compTurn_list]
    refine wpAny_bind (wpAny_standAt (wpAny_bind ?_))
    have fpT : ∀ b ∈ fp, FpOk (X.blk scope N' G2.objs.size s2 H2 (s2.heap.objs.size :: fp)) [] H' b := fun b hb => fpB fr' rfl b (List.mem_cons_of_mem _ hb)
    by_cases hlt : i < n
    · obtain ⟨go, step⟩ := turn i ys H' hlt pv
      -- the list is pinned while the iterator turns
      refine noxE (thn (T.item (X.blk scope N' G2.objs.size s2 H2 (s2.heap.objs.size :: fp)) rfl rfl rfl hcalm i [(s2.heap.objs.size, ({ cls := .type "list", data := .seq its.toArray k } : Obj))] s' _ H' (fun _ _ => False) (I'.pins_of fun p hp => ?_) (fun b hb => ?_) st' go) fun r s4 ⟨u, hr, h4⟩ => ?_)
      · obtain rfl := List.mem_singleton.mp hp
        refine ⟨hob, fr' _ List.mem_cons_self, Nat.ne_of_lt hDC, ?_, fun v z => ?_⟩
        · exact I3.ok.exfs _ List.mem_cons_self
        · have z' : Data.seq _ _ = Data.cell v := z
          cases z'
      · obtain ⟨f0, f1, f2', f3, f4, f5⟩ := fpT b hb
        refine ⟨f0, f1, f2', f3, f4, fun p hp => ?_⟩
        obtain rfl := List.mem_singleton.mp hp
        exact Nat.ne_of_gt (lfp b hb)
      · subst hr
        refine wpAny_bind (noxE (thn h4 fun _ s5 ⟨x, H5, I5, r5, y5, st5, fr5⟩ => ?_))
        -- from here on the iterator's records and the list are pinned
        have D5 := I5.pin (s2.heap.objs.size, ({ cls := .type "list", data := .seq its.toArray k } : Obj)) (by simp [Cx.blk])
        have fr5' : ∀ b ∈ s2.heap.objs.size :: fp, H5 b = none := fun b hb => by
          rcases List.mem_cons.mp hb with q | q
          · rw [q]; exact D5.2.1
          · exact fr5 b q
        have I5' : Inv (X.blk scope N' G2.objs.size s2 H2 (s2.heap.objs.size :: fp)) ([] ++ pinsAt (s2.heap.objs.size :: fp) s5.heap) (takes ix σ) H5 s5 :=
          (I5.pins_of (pins' := []) fun p hp => nomatch hp).pinned (fpB fr5' rfl) fun b hb => by
            rcases List.mem_cons.mp hb with q | q
            · subst q
              exact ⟨_, D5.1, D5.2.2.2.2⟩
            · exact T.obj _ _ st5 b q
        refine wpAny_bind (noxE (thn (hg _ _ _ _ _ s5 _ H5 x u _ I5' r5 (hgo _ _ _ _ (step x H5 y5))) fun _ s6 ⟨σ6, H6, I6, q6, l6, k6⟩ => ?_))
        refine wpAny_bind (noxE (thn (hc _ _ _ _ _ s6 σ6 H6 _ I6 q6) fun ok s7 ⟨H7, I7, q7⟩ => ?_))
        have back : ∀ {H8 : Hp} {s8 : Shared}, Inv (X.blk scope N' G2.objs.size s2 H2 (s2.heap.objs.size :: fp)) ([] ++ pinsAt (s2.heap.objs.size :: fp) s5.heap) σ6 H8 s8 →
            Inv (X.blk scope N' G2.objs.size s2 H2 (s2.heap.objs.size :: fp)) [] (takes ix σ) H8 s8 ∧ tn (i + 1) s8.heap ∧ (∀ b ∈ s2.heap.objs.size :: fp, H8 b = none) ∧ s8.heap.get? s2.heap.objs.size = some { cls := .type "list", data := .seq its.toArray k } := by
          intro H8 s8 I8
          have hp : ∀ b ∈ s2.heap.objs.size :: fp, ∀ o, s5.heap.get? b = some o → s8.heap.get? b = some o ∧ H8 b = none := fun b hb o e =>
            let z := I8.pin (b, o) (List.mem_append_right _ (List.mem_append_right _ (mem_pinsAt hb e)))
            ⟨z.1, z.2.1⟩
          refine ⟨(I8.pins_of (pins' := []) fun p hp => nomatch hp).weak (by rw [l6]) (fun j v ej => ?_), T.keep _ _ _ st5 (fun b hb o e => (hp b (List.mem_cons_of_mem _ hb) o e).1), fun b hb => ?_, (hp _ List.mem_cons_self _ D5.1).1⟩
          · by_cases hj : j ∈ own
            · exfalso
              have e1 : (ix[j]?).map (fun o => o.bind fun j => (σ[j]?).join) = some (some v) := by rw [← List.getElem?_map]; exact ej
              rw [hown j hj] at e1
              cases e1
            · rw [k6 j hj]; exact ej
          · rcases List.mem_cons.mp hb with q | q
            · rw [q]; exact (hp _ List.mem_cons_self _ D5.1).2
            · obtain ⟨o, ho, _⟩ := T.obj _ _ st5 b q
              exact (hp b hb o ho).2
        cases ok with
        | false =>
          have q7' : Pv (i + 1) ys H7 := by simpa using q7
          obtain ⟨b1, b2, b3, b4⟩ := back I7
          exact wpAny_pure ⟨rfl, n - (i + 1), by omega, i + 1, ys, its, k, H7, rfl, hlt, Nat.le_succ_of_le hyl, b1, b2, b3, rv, b4, q7'⟩
        | true =>
          have q7' : te σ6 H7 fun y H6 => Pv (i + 1) (ys ++ [y]) H6 := by simpa using q7
          refine wpAny_bind (wpAny_bind (wpAny_mono (he _ _ _ _ _ s7 σ6 H7 _ I7.toX q7') (fun z s8 ⟨y, H8, I8', r8, q8⟩ => ?_) (fun e9 s9 h9 => blk_err I2 S (Nat.le_refl _) hDC f2 hF hst hfr hex h9)))
          have I8 := I8'.unX
          obtain ⟨b1, b2, b3, b4⟩ := back I8
          have hsz : its.toArray.size ≤ sizeLine := by rw [List.size_toArray, ← rv.length]; omega
          refine wpAny_bind (append_at (hsz := hsz) b4 fun h9 hs9 hD9 => ?_)
          · refine wpAny_pure (wpAny_pure ⟨rfl, n - (i + 1), by omega, i + 1, ys ++ [y], its ++ [z], k + 1, H8, rfl, hlt, ?_, ?_, ?_, b3, ?_, ?_, q8⟩)
            · rw [List.length_append, List.length_singleton]; exact Nat.succ_le_succ hyl
            · have fd := fpB b3 rfl _ List.mem_cons_self
              exact b1.turned (t' := s8.toks) (fun b o hb e => hs9.extBut b o hb e) fd.1 fd.2.1 fd.2.2.2.1 fd.2.2.2.2.1 fd.2.2.2.2.2
            · exact T.keep _ _ _ b2 fun b hb o e => hs9.extBut b o (Nat.ne_of_lt (lfp b hb)) e
            · exact rv.append (.cons r8 .nil)
            · rw [hD9]; simp
    · have hieq : i = n := by omega
      subst hieq
      obtain ⟨stop, qf⟩ := fin ys H' pv
      refine noxE (thn (T.done (X.blk scope N' G2.objs.size s2 H2 (s2.heap.objs.size :: fp)) rfl rfl rfl hcalm i [(s2.heap.objs.size, ({ cls := .type "list", data := .seq its.toArray k } : Obj))] s' _ H' (fun _ _ => False) (I'.pins_of fun p hp => ?_) (fun b hb => ?_) st' stop) fun r s4 ⟨hr, I4⟩ => ?_)
      · obtain rfl := List.mem_singleton.mp hp
        refine ⟨hob, fr' _ List.mem_cons_self, Nat.ne_of_lt hDC, ?_, fun v z => ?_⟩
        · exact I3.ok.exfs _ List.mem_cons_self
        · have z' : Data.seq _ _ = Data.cell v := z
          cases z'
      · obtain ⟨f0, f1, f2', f3, f4, f5⟩ := fpT b hb
        refine ⟨f0, f1, f2', f3, f4, fun p hp => ?_⟩
        obtain rfl := List.mem_singleton.mp hp
        exact Nat.ne_of_gt (lfp b hb)
      · subst hr
        have D4 := I4.pin (s2.heap.objs.size, ({ cls := .type "list", data := .seq its.toArray k } : Obj)) (by simp [Cx.blk])
        refine wpAny_pure ?_
        exact hend s2 H2 fp _ _ s4 H' ys its k _ _ I2 (Nat.le_refl _) hDC f2 I4 D4.2.1 (Nat.le_trans hyl hn) rv D4.1 (qf _ D4.2.1)
  refine codeAny_compStart_list (loop _ rfl) (T.self X.A 0 _ _ _ st3 (loop _ rfl))

theorem pe_compX {E : XK} (hcalm : X.calm = true) (S : CompScope X scope N' ix) (hown : ∀ k ∈ own, ix[k]? = some none) (hi : PI X tg iter wi)
    (hg : ∀ C s₂ H₂ ex, PG (X.blk scope N' C s₂ H₂ ex) tg g) (hgo : TgOwn g own) (hc : ∀ C s₂ H₂ ex, PIfs (X.blk scope N' C s₂ H₂ ex) ifs tc) (he : ∀ C s₂ H₂ ex, PE (X.blkX E scope N' C s₂ H₂ ex) elt te) (hF : PassesF X E) (hst : X.stack = X.env :: X.outer := by rfl) (hfr : X.env.frame = some X.env.locals := by rfl) (hex : X.ex = [] := by rfl)
    (hs : ∀ x, foldedSetIterable iter X.env x = pure x := by intro _; rfl) :
    PE X (.ListComp elt [⟨tg, iter, ifs, 0⟩] scope pos) (tComp wi ix g tc te) := by
  intro pins s σ H Q I h
  rw [eval_ListComp]
  refine comp_coreX (use := none) hcalm S hown hi hg hgo hc he hF hst hfr hex hs I h (fun s2 H2 fp C D s4 H' ys its k pins' σ' I2 hD hDC f2 I4 hDn hl rv ho q => ?_) _
  obtain ⟨m4, hn4, _⟩ := id I4.loc
  exact ⟨m4, hn4, fun h' hs' => ⟨.ref D, upd H' D (.lst ys), blk_back I2 hD hDC f2 I4 hs' hDn hl rv ho, rfl, q⟩⟩
end
end L2

namespace L2
open PySem PySem.Spec PyProof.Rows PySem.W Builtin.Str
section
variable {X : Cx}
/-! xs * k, k of any sign -/
def rMulM : R2 := fun x y H Q => ∃ (a : Addr) (xs : List V) (k : Int), x = .ref a ∧ y = .int k ∧ H a = some (.lst xs) ∧ -5000 < k ∧ k < 5000 ∧ xs.length < 1000 ∧ ∀ p, H p = none → Q (.ref p) (upd H p (.lst (List.replicate k.toNat xs).flatten))
theorem op_mulM : OpR X (binaryOp .Mult) rMulM := by
  intro pins s σ H x y v u Q I rx ry h
  obtain ⟨a, xs, k, rfl, rfl, hS, h0, h1, hl, q⟩ := h
  cases rx
  obtain ⟨t, rfl⟩ := ry
  obtain ⟨its, n, rv, pl', hz⟩ := I.lst hS
  have hlen := rv.length
  have hb : its.length * k.toNat ≤ 5000000 := Nat.le_trans (Nat.mul_le_mul (show its.length ≤ 1000 by omega) (show k.toNat ≤ 5000 by omega)) (by decide)
  refine wpAny_binaryOp_repeat_ref (T := "list") (U := "int") (by decide) ⟨_, pl', rfl⟩ (fun s' => typeIs_int s' k t) noFill_list_mul PySem.F.fills_int_mul PySem.F.slot_int_rmul repeat_list PySem.F.slot_int_index.lookup ?_
  refine call_meets PySem.F.slot_int_rmul (typeIs_int s k t) PySem.F.entry_int_rmul (PySem.F.args_int_rmul_2 _ _) (int___rmul___int_list k t a _ _) ⟨pl', rfl, ⟨_, pl', rfl⟩, ?_⟩
  refine call_meets PySem.F.slot_list_mul ⟨_, pl', rfl⟩ PySem.F.entry_list_mul (PySem.F.args_list_mul_2 _ _)
        (AutoListH.list___mul___list_int_3 a _ _ k t (by simp [Builtin.List.listFitsIndex]; omega) (by simp; omega) (by simp [Builtin.List.listTooLong, sizeLine]; omega)) ⟨pl', ?_⟩
  have e : (List.foldl (fun x1 x2 => x1 ++ x2) #[] (List.replicate (if its.toArray.isEmpty = true then 0 else k.toNat) its.toArray)) = (List.replicate k.toNat its).flatten.toArray := by
    cases its with
    | nil =>
      have : ∀ n : Nat, (List.replicate n ([] : List Value)).flatten = [] := by intro n; induction n with | zero => rfl | succ n ih => rw [List.replicate_succ, List.flatten_cons, ih]; rfl
      rw [this]; rfl
    | cons i r =>
      rw [if_neg (by simp), listMul_foldl]; rfl
  rw [e]
  refine ⟨.ref s.heap.objs.size, _, I.laid (o := .lst (List.replicate k.toNat xs).flatten) (fun b ob q => Heap.get?_push_of_some _ q) (Nat.le_refl _) ?_, rfl, q _ (I.hok.fresh (Nat.le_refl _))⟩
  refine ⟨?_, _, 0, vals_rep rv k.toNat, Heap.get?_push_size _ rfl⟩
  have e2 : (List.replicate k.toNat xs).flatten.length = k.toNat * xs.length := by simp
  rw [e2, sizeLine_eq]
  have := Nat.mul_le_mul (show k.toNat ≤ 5000 by omega) (show xs.length ≤ 1000 by omega)
  omega
end
/-! slices of texts -/
theorem slice_take {z : Str} {j : Int} (h : 0 ≤ j) : Txt.slice z none (some j) = ⟨(z.cps.toList.take j.toNat).toArray⟩ := by
  have e : Txt.slice z none (some j) = Txt.slice z (some 0) (some j) := by
    show StrLaws.sliceText z none (some j) = StrLaws.sliceText z (some 0) (some j)
    unfold StrLaws.sliceText
    rw [StrLaws.sliceIdx_none_lo]
  rw [e, slice_mid (by decide) h (by omega)]
  simp
theorem slice_from {z : Str} {i : Int} (h : 0 ≤ i) : Txt.slice z (some i) none = ⟨(z.cps.toList.drop i.toNat).toArray⟩ := by
  obtain ⟨k, rfl⟩ : ∃ k : Nat, i = (k : Int) := ⟨i.toNat, by omega⟩
  rw [Int.toNat_natCast]
  by_cases hk : k ≤ z.cps.toList.length
  · exact slice_drop hk
  · have hl : (z.length : Int) = (z.cps.toList.length : Int) := by rw [cps_len]
    have e : Txt.slice z (some (k : Int)) none = Txt.slice z (some (z.length : Int)) none := by
      show StrLaws.sliceText z (some (k : Int)) none = StrLaws.sliceText z (some (z.length : Int)) none
      unfold StrLaws.sliceText
      have a1 : ¬ ((k : Int) < 0) := by omega
      have a2 : ¬ ((z.length : Int) < 0) := by omega
      have e1 : max (0 : Int) (min (k : Int) (z.length : Int)) = z.length := by omega
      have e2 : max (0 : Int) (min (z.length : Int) (z.length : Int)) = z.length := by omega
      have : strSliceIndices (some (k : Int)) none 1 z.length = strSliceIndices (some (z.length : Int)) none 1 z.length := by
        simp [strSliceIndices, a1, a2, e1, e2]
      rw [this]
    rw [e, slice_drop (by rw [cps_len]; exact Nat.le_refl _)]
    rw [List.drop_of_length_le (by rw [cps_len]; exact Nat.le_refl _), List.drop_of_length_le (by omega)]
end L2

namespace K82
open PySem L2
def top (i : Nat) : Stmt := PySem.Challenge.pw_tellroads_k82_whole_read.main.body.getD i (.Pass ⟨0, 0, 0, 0⟩)
structure Txt (mg : Str → Option Value) : Prop where
  b_isinstance : mg "isinstance" = none
  b_int : mg "int" = none
  b_bool : mg "bool" = none
  b_str : mg "str" = none
  b_tuple : mg "tuple" = none
  b_all : mg "all" = none
  b_len : mg "len" = none
  b_range : mg "range" = none
  b_list : mg "list" = none
  b_zip : mg "zip" = none
  b_ValueError : mg "ValueError" = none
  g_LETTERS : ∃ u, mg "LETTERS" = some u ∧ RelV (.str "abcdefghijklmnopqrstuvwxyz") u
  g_TEXT_SIGNS : ∃ u, mg "TEXT_SIGNS" = some u ∧ RelV (.str "abcdefghijklmnopqrstuvwxyz \n") u
  g_GREATEST_NUMBER : ∃ u, mg "GREATEST_NUMBER" = some u ∧ RelV (.int 999999) u
  g_LONGEST_TOPIC : ∃ u, mg "LONGEST_TOPIC" = some u ∧ RelV (.int 3) u
  g_LONGEST_TEXT : ∃ u, mg "LONGEST_TEXT" = some u ∧ RelV (.int 8) u
  g_DIGITS : ∃ u, mg "DIGITS" = some u ∧ RelV (.str "0123456789") u
  g_NUMBER_FRONT : ∃ u, mg "NUMBER_FRONT" = some u ∧ RelV (.str "id: ") u
  g_TOPIC_FRONT : ∃ u, mg "TOPIC_FRONT" = some u ∧ RelV (.str "topic: ") u
  g_TEXT_FRONT : ∃ u, mg "TEXT_FRONT" = some u ∧ RelV (.str "data: ") u
  g_LEFT_OUT_FRONT : ∃ u, mg "LEFT_OUT_FRONT" = some u ∧ RelV (.str ":") u
structure TxtC (K : PySem.W.Frag) (mg : Str → Option Value) (C : Addr) : Prop where
  R_Reader : ReaderC K mg C
section
variable {K : PySem.W.Frag} {mg : Str → Option Value} {C : Addr} (h : TxtC K mg C)
include h
theorem TxtC.cl_Reader : Cls K C := h.R_Reader.cl_Reader
theorem TxtC.mg_Reader : mg "Reader" = some (.ref C) := h.R_Reader.mg_Reader
end
/-! ### the draws -/
def cellF (ns : List Int) (k : Int) : Int := if ns = [] then 7 * k else ns.getD (k % (ns.length : Int)).toNat 0 + 6553 * (k / (ns.length : Int))
def draw1 (c k : Int) : Int := (c % 2147483563 * 69069 + 104723 * (k + 1)) % 2147483563
def draw2 (h : Int) : Int := (h * h + h / 3) % 2147483399
def draw3 (h m : Int) : Int := (h * h + h / 7) % 2147483647 / 11 % m
def drawnF (ns : List Int) (k m : Int) : Int := draw3 (draw2 (draw1 (cellF ns k) k)) m
theorem drawn_nn (ns : List Int) (k : Int) {m : Int} (h : 0 < m) : 0 ≤ drawnF ns k m := Int.emod_nonneg _ (by omega)
theorem drawn_lt (ns : List Int) (k : Int) {m : Int} (h : 0 < m) : drawnF ns k m < m := Int.emod_lt_of_pos _ h
def spCell (K : PySem.W.Frag) : Sp := fun vs H Q _ => ∃ (a : Addr) (ns : List Int) (k : Int), vs = [.ref a, .int k] ∧ SqL K H a (ns.map V.int) ∧ ns.length ≤ 63 ∧ 0 ≤ k ∧ ∀ H', Same H H' → Q (.int (cellF ns k)) H'
def spDrawn (K : PySem.W.Frag) : Sp := fun vs H Q _ => ∃ (a : Addr) (ns : List Int) (k m : Int), vs = [.ref a, .int k, .int m] ∧ SqL K H a (ns.map V.int) ∧ ns.length ≤ 63 ∧ 0 ≤ k ∧ 0 < m ∧ ∀ H', Same H H' → Q (.int (drawnF ns k m)) H'
section
variable {P : Program} {w : World} {K : PySem.W.Frag} {mg : Str → Option Value} {base : Heap}
abbrev s_l_cell : Stmt := top 35
abbrev N_l_cell : List Str := ["_law_script", "_law_k"]
theorem sc_l_cell : FnScope N_l_cell ["_law_script", "_law_k"] (defScope s_l_cell) := ⟨rfl, rfl, rfl, by decide +kernel, rfl, by decide +kernel, by decide +kernel⟩
theorem ok_l_cell {f : Addr} {fd : FuncData} (F : Fun K "_law_cell" "_law_cell" s_l_cell f fd) (T : Txt mg) : FnOk P w K mg base CX0 1 f fd ["_law_script", "_law_k"] (spCell K) := by
  refine F.ok sc_l_cell (fun vs H Q E h => ?_) (fun cdv A outer s H vs Q E hr h => ?_)
  · obtain ⟨a, ns, k, rfl, _⟩ := h; rfl
  · obtain ⟨a, ns, k, rfl, hS, hlen, hk, q⟩ := h
    refine ⟨_, (pss_cons (ps_if (pt_cmpR (k_eq0 K hr.units0) (pv 0) (as_lst as_nil) (nomark _)) (pss_one (ps_ret (pe_op op_mul pe_int (pv 1)))) pss_nil)
      (pss_one (ps_ret (pe_op op_add (pe_ix (k_ix_list K) (pv 0) (pe_op op_mod (pv 1) (as_callB (k_len_seq K) (by rfl) T.b_len PySem.boot_len (at_cons (pv 0) as_nil))) (fun _ _ => rfl)) (pe_op op_mul pe_int (pe_op op_fdiv (pv 1) (as_callB (k_len_seq K) (by rfl) T.b_len PySem.boot_len (at_cons (pv 0) as_nil)))))))), ?_⟩
    refine ⟨_, rfl, by decide, fun p hp => ?_⟩
    have s1 : Same H (upd H p (.lst [])) := Same.new hp
    refine ⟨a, p, _, rfl, rfl, s1.seq hS, SqL.ofL upd_same, _, rfl, ?_⟩
    refine ite2 (fun he => ?_) (fun he => ?_)
    · have e : ns = [] := by simpa using he
      refine ⟨_, rfl, _, _, rfl, rfl, .inl ⟨by decide, by decide⟩, ?_⟩
      have z := q _ s1
      unfold cellF at z
      rw [if_pos e] at z
      exact z
    · have e : ns ≠ [] := by simpa using he
      have hl : 0 < ns.length := List.length_pos_iff.mpr e
      refine ⟨_, rfl, _, rfl, _, rfl, a, _, rfl, .inl (s1.seq hS), _, _, rfl, rfl, ?_, ?_⟩
      · show (0 : Int) < ((ns.map V.int).length : Int)
        rw [List.length_map]; omega
      · have hlt : (k % (ns.length : Int)).toNat < ns.length := by
          have h1 := Int.emod_nonneg k (b := (ns.length : Int)) (by omega)
          have h2 := Int.emod_lt_of_pos k (b := (ns.length : Int)) (by omega)
          omega
        have hi : atI (ns.map V.int) (k % ((ns.map V.int).length : Int)) = some (V.int (ns.getD (k % (ns.length : Int)).toNat 0)) := by
          rw [List.length_map]
          have h1 := Int.emod_nonneg k (b := (ns.length : Int)) (by omega)
          have e2 : k % (ns.length : Int) = ((k % (ns.length : Int)).toNat : Int) := by omega
          rw [e2]
          refine atI_nat ?_
          rw [Int.toNat_natCast, List.getElem?_map, List.getElem?_eq_getElem hlt]
          simp [List.getD, List.getElem?_eq_getElem hlt]
        refine ⟨a, _, _, _, rfl, rfl, s1.seq hS, hi, _, rfl, _, rfl, a, _, rfl, .inl (s1.seq hS), _, _, rfl, rfl, ?_, _, _, rfl, rfl, .inl ⟨by decide, by decide⟩, _, _, rfl, rfl, ?_⟩
        · show (0 : Int) < ((ns.map V.int).length : Int) ∧ ((ns.map V.int).length : Int) < 1073741824
          rw [List.length_map]; omega
        · have z := q _ s1
          unfold cellF at z
          rw [if_neg e] at z
          show Q (.int (ns.getD (k % (ns.length : Int)).toNat 0 + 6553 * (k / ((ns.map V.int).length : Int)))) _
          rw [List.length_map]
          exact z
abbrev s_l_drawn : Stmt := top 36
abbrev N_l_drawn : List Str := ["_law_script", "_law_k", "_law_many", "_law_cell_here"]
theorem sc_l_drawn : FnScope N_l_drawn ["_law_script", "_law_k", "_law_many"] (defScope s_l_drawn) := ⟨rfl, rfl, rfl, by decide +kernel, rfl, by decide +kernel, by decide +kernel⟩
theorem ok_l_drawn {f : Addr} {fd : FuncData} (F : Fun K "_law_drawn" "_law_drawn" s_l_drawn f fd) (T : Txt mg) (c_l_cell : Callee P w K mg base 1 "_law_cell" ["_law_script", "_law_k"] (spCell K)) :
    FnOk P w K mg base CX0 2 f fd ["_law_script", "_law_k", "_law_many"] (spDrawn K) := by
  refine F.ok sc_l_drawn (fun vs H Q E h => ?_) (fun cdv A outer s H vs Q E hr h => ?_)
  · obtain ⟨a, ns, k, m, rfl, _⟩ := h; rfl
  · obtain ⟨a, ns, k, m, rfl, hS, hlen, hk, hm, q⟩ := h
    refine ⟨_, (pss_cons (ps_set (i := 3) sc_l_drawn.nd rfl (Or.inl rfl) (pe_op op_mod (pe_op op_add (pe_op op_mul (pe_op op_mod (as_fn c_l_cell (hr.mono (by decide)) (at_cons (pv 0) (as_cons (pv 1) as_nil))) pe_int) pe_int) (pe_op op_mul pe_int (pe_op op_add (pv 1) pe_int))) pe_int))
      (pss_cons (ps_set (i := 3) sc_l_drawn.nd rfl (Or.inl rfl) (pe_op op_mod (pe_op op_add (pe_op op_mul (pv 3) (pv 3)) (pe_op op_fdiv (pv 3) pe_int)) pe_int))
      (pss_one (ps_ret (pe_op op_mod (pe_op op_fdiv (pe_op op_mod (pe_op op_add (pe_op op_mul (pv 3) (pv 3)) (pe_op op_fdiv (pv 3) pe_int)) pe_int) pe_int) (pv 2)))))), ?_⟩
    refine ⟨_, rfl, _, rfl, a, ns, k, rfl, hS, hlen, hk, fun H1 s1 => ?_⟩
    have b1 : ∀ x : Int, 0 ≤ x % 2147483563 ∧ x % 2147483563 < 2147483563 := fun x => ⟨Int.emod_nonneg _ (by decide), Int.emod_lt_of_pos _ (by decide)⟩
    have b2 : ∀ x : Int, 0 ≤ x % 2147483399 ∧ x % 2147483399 < 2147483399 := fun x => ⟨Int.emod_nonneg _ (by decide), Int.emod_lt_of_pos _ (by decide)⟩
    refine ⟨_, _, rfl, rfl, (by decide : (0 : Int) < 2147483563), _, _, rfl, rfl, .inr ⟨by decide, by decide⟩, _, rfl, _, _, rfl, rfl, _, _, rfl, rfl, .inl ⟨by decide, by decide⟩, _, _, rfl, rfl, _, _, rfl, rfl, (by decide : (0 : Int) < 2147483563), ?_⟩
    have c1 := b1 (cellF ns k % 2147483563 * 69069 + 104723 * (k + 1))
    refine ⟨_, rfl, _, rfl, _, _, rfl, rfl, .inl ⟨?_, ?_⟩, _, rfl, _, _, rfl, rfl, ⟨by decide, by decide⟩, _, _, rfl, rfl, _, _, rfl, rfl, (by decide : (0 : Int) < 2147483399), ?_⟩
    · exact Int.lt_of_lt_of_le (by decide) c1.1
    · exact Int.lt_trans c1.2 (by decide)
    have c2 := b2 (draw1 (cellF ns k) k * draw1 (cellF ns k) k + draw1 (cellF ns k) k / 3)
    refine ⟨_, rfl, _, rfl, _, _, rfl, rfl, .inl ⟨?_, ?_⟩, _, rfl, _, _, rfl, rfl, ⟨by decide, by decide⟩, _, _, rfl, rfl, _, _, rfl, rfl, (by decide : (0 : Int) < 2147483647), _, _, rfl, rfl, ⟨by decide, by decide⟩, _, rfl, _, _, rfl, rfl, hm, ?_⟩
    · exact Int.lt_of_lt_of_le (by decide) c2.1
    · exact Int.lt_trans c2.2 (by decide)
    exact q H1 s1
end

section
variable {P : Program} {w : World} {K : PySem.W.Frag} {mg : Str → Option Value} {base : Heap}
abbrev s_number_of : Stmt := top 11
abbrev N_number_of : List Str := ["message"]
theorem sc_number_of : FnScope N_number_of ["message"] (defScope s_number_of) := ⟨rfl, rfl, rfl, by decide +kernel, rfl, by decide +kernel, by decide +kernel⟩
theorem ok_number_of {f : Addr} {fd : FuncData} (F : Fun K "number_of" "number_of" s_number_of f fd) : FnOk P w K mg base CX0 1 f fd ["message"] (spItem 0) := by
  refine F.ok sc_number_of (fun vs H Q E h => ?_) (fun cdv A outer s H vs Q E hr h => ?_)
  · obtain ⟨a, x, y, z, rfl, _⟩ := h; rfl
  · obtain ⟨a, x, y, z, rfl, h1, q⟩ := h
    refine ⟨_, (pss_one (ps_ret (pe_ix (k_ix_tup K) (pv 0) pe_int (fun _ _ => rfl)))), ?_⟩
    exact ⟨_, rfl, a, _, 0, x, rfl, rfl, SqT.ofT h1, rfl, q⟩

abbrev s_topic_of : Stmt := top 12
abbrev N_topic_of : List Str := ["message"]
theorem sc_topic_of : FnScope N_topic_of ["message"] (defScope s_topic_of) := ⟨rfl, rfl, rfl, by decide +kernel, rfl, by decide +kernel, by decide +kernel⟩
theorem ok_topic_of {f : Addr} {fd : FuncData} (F : Fun K "topic_of" "topic_of" s_topic_of f fd) : FnOk P w K mg base CX0 1 f fd ["message"] (spItem 1) := by
  refine F.ok sc_topic_of (fun vs H Q E h => ?_) (fun cdv A outer s H vs Q E hr h => ?_)
  · obtain ⟨a, x, y, z, rfl, _⟩ := h; rfl
  · obtain ⟨a, x, y, z, rfl, h1, q⟩ := h
    refine ⟨_, (pss_one (ps_ret (pe_ix (k_ix_tup K) (pv 0) pe_int (fun _ _ => rfl)))), ?_⟩
    exact ⟨_, rfl, a, _, 1, y, rfl, rfl, SqT.ofT h1, rfl, q⟩

abbrev s_text_of : Stmt := top 13
abbrev N_text_of : List Str := ["message"]
theorem sc_text_of : FnScope N_text_of ["message"] (defScope s_text_of) := ⟨rfl, rfl, rfl, by decide +kernel, rfl, by decide +kernel, by decide +kernel⟩
theorem ok_text_of {f : Addr} {fd : FuncData} (F : Fun K "text_of" "text_of" s_text_of f fd) : FnOk P w K mg base CX0 1 f fd ["message"] (spItem 2) := by
  refine F.ok sc_text_of (fun vs H Q E h => ?_) (fun cdv A outer s H vs Q E hr h => ?_)
  · obtain ⟨a, x, y, z, rfl, _⟩ := h; rfl
  · obtain ⟨a, x, y, z, rfl, h1, q⟩ := h
    refine ⟨_, (pss_one (ps_ret (pe_ix (k_ix_tup K) (pv 0) pe_int (fun _ _ => rfl)))), ?_⟩
    exact ⟨_, rfl, a, _, 2, z, rfl, rfl, SqT.ofT h1, rfl, q⟩

/-! the mathematics -/
def inS (signs : Str) (c : Nat) : Bool := !(Builtin.Str.occurrences signs ⟨#[c]⟩ 0 signs.length 1).isEmpty
def onlyIn (signs z : Str) : Bool := z.cps.toList.all fun c => inS signs c
def isWhole : PyData → Bool
  | .int _ => true
  | _ => false
def isNum : PyData → Bool
  | .int i => decide (1 ≤ i) && decide (i ≤ 999999)
  | _ => false
def isTop : PyData → Bool
  | .str z => (decide ((1 : Int) ≤ (z.length : Int)) && decide ((z.length : Int) ≤ 3)) && onlyIn "abcdefghijklmnopqrstuvwxyz" z
  | _ => false
def isTxt : PyData → Bool
  | .str z => decide ((z.length : Int) ≤ 8) && onlyIn "abcdefghijklmnopqrstuvwxyz \n" z
  | _ => false
/-! the promises -/
/-- a look at a thing: True or False, the heap grows at most -/
def spLook (C : PyData → Prop) (f : PyData → Bool) : Sp := fun vs H Q _ => ∃ v d, vs = [v] ∧ Has H v d ∧ C d ∧ ∀ H', Same H H' → Q (.bl (f d)) H'
def spOnly : Sp := fun vs H Q _ => ∃ z signs, vs = [.str z, .str signs] ∧ z.cps.size ≤ sizeLine ∧ ∀ H', Same H H' → Q (.bl (onlyIn signs z)) H'

abbrev s_is_whole : Stmt := top 14
abbrev N_is_whole : List Str := ["thing"]
theorem sc_is_whole : FnScope N_is_whole ["thing"] (defScope s_is_whole) := ⟨rfl, rfl, rfl, by decide +kernel, rfl, by decide +kernel, by decide +kernel⟩
theorem ok_is_whole {f : Addr} {fd : FuncData} (F : Fun K "is_whole" "is_whole" s_is_whole f fd) (T : Txt mg) : FnOk P w K mg base CX0 1 f fd ["thing"] (spLook (fun _ => True) isWhole) := by
  refine F.ok sc_is_whole (fun vs H Q E h => ?_) (fun cdv A outer s H vs Q E hr h => ?_)
  · obtain ⟨v, d, rfl, _⟩ := h; rfl
  · obtain ⟨v, d, rfl, hv, _, q⟩ := h
    refine ⟨_, (pss_one (ps_ret (pe_and (as_callB (k_isi K (c := .type "int") ty_one) (by rfl) T.b_isinstance PyProof.Rows.boot_isinstance (at_cons (pv 0) (as_cons (pe_bltn (v := .ty "int") (by rfl) T.b_int PyProof.Rows.boot_int rfl) as_nil))) (pe_one (pe_not (as_callB (k_isi K (c := .type "bool") ty_one) (by rfl) T.b_isinstance PyProof.Rows.boot_isinstance (at_cons (pv 0) (as_cons (pe_bltn (v := .ty "bool") (by rfl) T.b_bool PyProof.Rows.boot_bool rfl) as_nil)))))))), ?_⟩
    refine ⟨_, rfl, v, .ty "int", _, rfl, rfl, has_isiInt hv, _, rfl, ?_⟩
    refine ite2 (fun hi => ?_) (fun hi => ?_)
    · refine ⟨_, rfl, v, .ty "bool", _, rfl, rfl, has_isiBool hv, _, rfl, ?_⟩
      have e : (!isiBool d) = isWhole d := by cases d <;> first | rfl | (cases (show false = true from hi))
      rw [e]
      exact q H (Same.refl H)
    · have e : false = isWhole d := by cases d <;> first | rfl | (exact absurd rfl hi)
      rw [e]
      exact q H (Same.refl H)
abbrev s_is_number : Stmt := top 15
abbrev N_is_number : List Str := ["thing"]
theorem sc_is_number : FnScope N_is_number ["thing"] (defScope s_is_number) := ⟨rfl, rfl, rfl, by decide +kernel, rfl, by decide +kernel, by decide +kernel⟩
theorem ok_is_number {f : Addr} {fd : FuncData} (F : Fun K "is_number" "is_number" s_is_number f fd) (T : Txt mg) (c_is_whole : Callee P w K mg base 1 "is_whole" ["thing"] (spLook (fun _ => True) isWhole)) :
    FnOk P w K mg base CX0 2 f fd ["thing"] (spLook (fun _ => True) isNum) := by
  refine F.ok sc_is_number (fun vs H Q E h => ?_) (fun cdv A outer s H vs Q E hr h => ?_)
  · obtain ⟨v, d, rfl, _⟩ := h; rfl
  · obtain ⟨v, d, rfl, hv, _, q⟩ := h
    refine ⟨_, (pss_one (ps_ret (pe_and (as_fn c_is_whole (hr.mono (by decide)) (at_cons (pv 0) as_nil)) (pe_one (pe_chain op_le op_le pe_int (pv 0) (pe_gl T.g_GREATEST_NUMBER)))))), ?_⟩
    refine ⟨_, rfl, v, d, rfl, hv, trivial, fun H1 s1 => ⟨_, rfl, ?_⟩⟩
    refine ite2 (fun hi => ?_) (fun hi => ?_)
    · cases d with
      | int i =>
        unfold Has at hv
        subst hv
        refine ⟨_, rfl, _, _, rfl, rfl, _, rfl, ?_⟩
        refine ite2 (fun h1 => ?_) (fun h1 => ?_)
        · refine ⟨_, _, rfl, rfl, ?_⟩
          have e : isNum (.int i) = decide (i ≤ 999999) := by show (decide (1 ≤ i) && _) = _; rw [h1]; rfl
          have z := q H1 s1
          rw [e] at z
          exact z
        · have e : isNum (.int i) = false := by show (decide (1 ≤ i) && _) = _; rw [Bool.not_eq_true] at h1; rw [h1]; rfl
          have z := q H1 s1
          rw [e] at z
          exact z
      | _ => cases (show false = true from hi)
    · have e : false = isNum d := by cases d <;> first | rfl | (exact absurd rfl hi)
      rw [e]
      exact q H1 s1
abbrev s_has_only : Stmt := top 16
abbrev N_has_only : List Str := ["text", "signs"]
theorem sc_has_only : FnScope N_has_only ["text", "signs"] (defScope s_has_only) := ⟨rfl, rfl, rfl, by decide +kernel, rfl, by decide +kernel, by decide +kernel⟩
theorem ok_has_only {f : Addr} {fd : FuncData} (F : Fun K "has_only" "has_only" s_has_only f fd) (T : Txt mg) : FnOk P w K mg base CX0 1 f fd ["text", "signs"] spOnly := by
  refine F.ok sc_has_only (fun vs H Q E h => ?_) (fun cdv A outer s H vs Q E hr h => ?_)
  · obtain ⟨z, signs, rfl, _⟩ := h; rfl
  · obtain ⟨z, signs, rfl, hz, q⟩ := h
    refine ⟨_, (pss_one (ps_ret (as_callB (k_all K rfl) (by rfl) T.b_all PyProof.Rows.boot_all (at_cons (pe_comp (N' := ["sign", "signs"]) (ix := [none, some 1]) (own := [0]) rfl (cs_of (osc := defScope s_has_only) (ON := N_has_only) rfl rfl (by decide +kernel)) (by decide) (pi_str (pv 0)) (fun _ _ _ _ => (pg_name (i := 0) (show (["sign", "signs"] : List Str).Nodup by decide +kernel) rfl (Or.inl rfl))) own_name (fun _ _ _ _ => pifs_nil) (fun _ _ _ _ => (pe_cmpR op_in_str (pv 0) (pv 1) (by with_unfolding_all rfl)))) as_nil)))), ?_⟩
    refine ⟨_, rfl, z, rfl, z.cps.size, fun i ys H2 => H2 = H ∧ ys = (z.cps.toList.take i).map (fun c => V.bl (inS signs c)), hz, ⟨rfl, rfl⟩, ?_, ?_⟩
    · rintro i ys H2 hi ⟨rfl, rfl⟩
      refine ⟨hi, fun x H3 => ?_⟩
      rintro ⟨rfl, hx⟩
      have hi' : i < z.cps.toList.length := by simpa using hi
      have hx' : x = .str ⟨#[z.cps.toList[i]]⟩ := by
        unfold signV at hx
        rw [List.getElem?_eq_getElem hi'] at hx
        exact (Option.some.inj hx).symm
      subst hx'
      refine rd_name (rd_yes ?_)
      refine iteT ?_
      refine ⟨_, rfl, _, rfl, _, _, rfl, rfl, rfl, ?_⟩
      rw [List.take_add_one, List.getElem?_eq_getElem hi']
      simp [inS]
    · rintro ys H2 ⟨rfl, rfl⟩
      refine ⟨Nat.le_refl _, fun D hD => ⟨D, z.cps.toList.map (fun c => inS signs c), rfl, ?_, ?_⟩⟩
      · refine SqL.ofL ?_
        rw [upd_same, List.take_of_length_le (by simp)]
        simp
      · have e : (z.cps.toList.map (fun c => inS signs c)).all id = onlyIn signs z := by
          unfold onlyIn; rw [List.all_map]; rfl
        rw [e]
        exact q _ (Same.new hD)
abbrev s_is_topic : Stmt := top 17
abbrev N_is_topic : List Str := ["thing"]
theorem sc_is_topic : FnScope N_is_topic ["thing"] (defScope s_is_topic) := ⟨rfl, rfl, rfl, by decide +kernel, rfl, by decide +kernel, by decide +kernel⟩
def fit1 : PyData → Prop
  | .str z => z.length ≤ sizeLine
  | _ => True
def fitT : PyData → Prop
  | .tuple ds => ∀ x ∈ ds, fit1 x
  | _ => True
theorem ok_is_topic {f : Addr} {fd : FuncData} (F : Fun K "is_topic" "is_topic" s_is_topic f fd) (T : Txt mg) (c_has_only : Callee P w K mg base 1 "has_only" ["text", "signs"] spOnly) :
    FnOk P w K mg base CX0 2 f fd ["thing"] (spLook fit1 isTop) := by
  refine F.ok sc_is_topic (fun vs H Q E h => ?_) (fun cdv A outer s H vs Q E hr h => ?_)
  · obtain ⟨v, d, rfl, _⟩ := h; rfl
  · obtain ⟨v, d, rfl, hv, hf, q⟩ := h
    refine ⟨_, (pss_one (ps_ret (pe_and (as_callB (k_isi K (c := .type "str") ty_one) (by rfl) T.b_isinstance PyProof.Rows.boot_isinstance (at_cons (pv 0) (as_cons (pe_bltn (v := .ty "str") (by rfl) T.b_str PyProof.Rows.boot_str rfl) as_nil))) (pe_and (pe_chain op_le op_le pe_int (as_callB call_len_str (by rfl) T.b_len PySem.boot_len (at_cons (pv 0) as_nil)) (pe_gl T.g_LONGEST_TOPIC)) (pe_one (as_fn c_has_only (hr.mono (by decide)) (at_cons (pv 0) (as_cons (pe_gl T.g_LETTERS) as_nil)))))))), ?_⟩
    refine ⟨_, rfl, v, .ty "str", _, rfl, rfl, has_isiStr hv, _, rfl, ?_⟩
    refine ite2 (fun hi => ?_) (fun hi => ?_)
    · cases d with
      | str z =>
        unfold Has at hv
        subst hv
        refine ⟨_, rfl, z, rfl, hf, _, _, rfl, rfl, _, rfl, ?_⟩
        refine ite2 (fun h1 => ?_) (fun h1 => ?_)
        · refine ⟨_, _, rfl, rfl, _, rfl, ?_⟩
          refine ite2 (fun h2 => ?_) (fun h2 => ?_)
          · refine ⟨_, rfl, z, _, rfl, hf, fun H1 s1 => ?_⟩
            have z' := q H1 s1
            have e : isTop (.str z) = onlyIn "abcdefghijklmnopqrstuvwxyz" z := by show ((decide _ && decide _) && _) = _; rw [h1, h2]; rfl
            rw [e] at z'
            exact z'
          · have z' := q H (Same.refl H)
            have e : isTop (.str z) = false := by show ((decide _ && decide _) && _) = _; rw [Bool.not_eq_true] at h2; rw [h1, h2]; rfl
            rw [e] at z'
            exact z'
        · refine ⟨_, rfl, iteF ?_⟩
          have z' := q H (Same.refl H)
          have e : isTop (.str z) = false := by show ((decide _ && decide _) && _) = _; rw [Bool.not_eq_true] at h1; rw [h1]; rfl
          rw [e] at z'
          exact z'
      | _ => cases (show false = true from hi)
    · have z' := q H (Same.refl H)
      have e : isTop d = false := by cases d <;> first | rfl | (exact absurd rfl hi)
      rw [e] at z'
      exact z'
abbrev s_is_text : Stmt := top 18
abbrev N_is_text : List Str := ["thing"]
theorem sc_is_text : FnScope N_is_text ["thing"] (defScope s_is_text) := ⟨rfl, rfl, rfl, by decide +kernel, rfl, by decide +kernel, by decide +kernel⟩
theorem ok_is_text {f : Addr} {fd : FuncData} (F : Fun K "is_text" "is_text" s_is_text f fd) (T : Txt mg) (c_has_only : Callee P w K mg base 1 "has_only" ["text", "signs"] spOnly) :
    FnOk P w K mg base CX0 2 f fd ["thing"] (spLook fit1 isTxt) := by
  refine F.ok sc_is_text (fun vs H Q E h => ?_) (fun cdv A outer s H vs Q E hr h => ?_)
  · obtain ⟨v, d, rfl, _⟩ := h; rfl
  · obtain ⟨v, d, rfl, hv, hf, q⟩ := h
    refine ⟨_, (pss_one (ps_ret (pe_and (as_callB (k_isi K (c := .type "str") ty_one) (by rfl) T.b_isinstance PyProof.Rows.boot_isinstance (at_cons (pv 0) (as_cons (pe_bltn (v := .ty "str") (by rfl) T.b_str PyProof.Rows.boot_str rfl) as_nil))) (pe_and (pe_cmpR op_le (as_callB call_len_str (by rfl) T.b_len PySem.boot_len (at_cons (pv 0) as_nil)) (pe_gl T.g_LONGEST_TEXT) (nomark _)) (pe_one (as_fn c_has_only (hr.mono (by decide)) (at_cons (pv 0) (as_cons (pe_gl T.g_TEXT_SIGNS) as_nil)))))))), ?_⟩
    refine ⟨_, rfl, v, .ty "str", _, rfl, rfl, has_isiStr hv, _, rfl, ?_⟩
    refine ite2 (fun hi => ?_) (fun hi => ?_)
    · cases d with
      | str z =>
        unfold Has at hv
        subst hv
        refine ⟨_, rfl, z, rfl, hf, _, _, rfl, rfl, _, rfl, ?_⟩
        refine ite2 (fun h2 => ?_) (fun h2 => ?_)
        · refine ⟨_, rfl, z, _, rfl, hf, fun H1 s1 => ?_⟩
          have z' := q H1 s1
          have e : isTxt (.str z) = onlyIn "abcdefghijklmnopqrstuvwxyz \n" z := by show (decide _ && _) = _; rw [h2]; rfl
          rw [e] at z'
          exact z'
        · have z' := q H (Same.refl H)
          have e : isTxt (.str z) = false := by show (decide _ && _) = _; rw [Bool.not_eq_true] at h2; rw [h2]; rfl
          rw [e] at z'
          exact z'
      | _ => cases (show false = true from hi)
    · have z' := q H (Same.refl H)
      have e : isTxt d = false := by cases d <;> first | rfl | (exact absurd rfl hi)
      rw [e] at z'
      exact z'

def isMsg : PyData → Bool
  | .tuple [n, t, x] => isNum n && (isTop t && isTxt x)
  | _ => false
abbrev s_is_message : Stmt := top 19
abbrev N_is_message : List Str := ["thing"]
theorem sc_is_message : FnScope N_is_message ["thing"] (defScope s_is_message) := ⟨rfl, rfl, rfl, by decide +kernel, rfl, by decide +kernel, by decide +kernel⟩
theorem ok_is_message {f : Addr} {fd : FuncData} (F : Fun K "is_message" "is_message" s_is_message f fd) (T : Txt mg) (c_number_of : Callee P w K mg base 1 "number_of" ["message"] (spItem 0)) (c_topic_of : Callee P w K mg base 1 "topic_of" ["message"] (spItem 1))
    (c_text_of : Callee P w K mg base 1 "text_of" ["message"] (spItem 2)) (c_is_number : Callee P w K mg base 2 "is_number" ["thing"] (spLook (fun _ => True) isNum)) (c_is_topic : Callee P w K mg base 2 "is_topic" ["thing"] (spLook fit1 isTop))
    (c_is_text : Callee P w K mg base 2 "is_text" ["thing"] (spLook fit1 isTxt)) :
    FnOk P w K mg base CX0 3 f fd ["thing"] (spLook fitT isMsg) := by
  refine F.ok sc_is_message (fun vs H Q E h => ?_) (fun cdv A outer s H vs Q E hr h => ?_)
  · obtain ⟨v, d, rfl, _⟩ := h; rfl
  · obtain ⟨v, d, rfl, hv, hf, q⟩ := h
    refine ⟨_, (pss_cons (ps_if (PW.pt (pw_or (pt_not (pt_val (as_callB (k_isi K (c := .type "tuple") ty_one) (by rfl) T.b_isinstance PyProof.Rows.boot_isinstance (at_cons (pv 0) (as_cons (pe_bltn (v := .ty "tuple") (by rfl) T.b_tuple PyProof.Rows.boot_tuple rfl) as_nil))))) (pw_or1 (pt_cmpR op_ne (as_callB (k_len_seq K) (by rfl) T.b_len PySem.boot_len (at_cons (pv 0) as_nil)) pe_int (nomark _))))) (pss_one (ps_ret pe_bl)) pss_nil)
      (pss_one (ps_ret (pe_and (as_fn c_is_number (hr.mono (by decide)) (at_cons (as_fn c_number_of (hr.mono (by decide)) (at_cons (pv 0) as_nil)) as_nil)) (pe_and (as_fn c_is_topic (hr.mono (by decide)) (at_cons (as_fn c_topic_of (hr.mono (by decide)) (at_cons (pv 0) as_nil)) as_nil)) (pe_one (as_fn c_is_text (hr.mono (by decide)) (at_cons (as_fn c_text_of (hr.mono (by decide)) (at_cons (pv 0) as_nil)) as_nil)))))))), ?_⟩
    refine ⟨_, rfl, v, .ty "tuple", _, rfl, rfl, has_isiTup hv, _, rfl, ?_⟩
    cases d with
    | tuple ds =>
      refine iteF ?_
      have hv' := hv
      unfold Has at hv'
      obtain ⟨a, xs, rfl, ha, hl⟩ := hv'
      refine ⟨_, rfl, a, xs, rfl, .inr (SqT.ofT ha), rfl, _, rfl, ?_⟩
      refine ite2 (fun h3 => ?_) (fun h3 => ?_)
      · have z' := q H (Same.refl H)
        have hne : ds.length ≠ 3 := by
          have := hl.length
          intro z
          rw [z] at this
          rw [this] at h3
          simp at h3
        have e : isMsg (.tuple ds) = false := by
          match ds, hne with
          | [], _ => rfl
          | [_], _ => rfl
          | [_, _], _ => rfl
          | [_, _, _], h => exact absurd rfl h
          | _ :: _ :: _ :: _ :: _, _ => rfl
        rw [e] at z'
        exact z'
      · have hl3 : xs.length = 3 := by
          simp at h3
          omega
        have hd3 : ds.length = 3 := by rw [← hl.length]; exact hl3
        match ds, hd3, hl with
        | [d1, d2, d3], _, hl =>
          unfold HasL at hl
          obtain ⟨x, r, rfl, h1, hl⟩ := hl
          unfold HasL at hl
          obtain ⟨y, r2, rfl, h2, hl⟩ := hl
          unfold HasL at hl
          obtain ⟨zz, r3, rfl, h3', hl⟩ := hl
          unfold HasL at hl
          subst hl
          refine ⟨_, rfl, a, x, y, zz, rfl, ha, x, d1, rfl, h1, trivial, fun H1 s1 => ⟨_, rfl, ?_⟩⟩
          refine ite2 (fun b1 => ?_) (fun b1 => ?_)
          · refine ⟨_, rfl, a, x, y, zz, rfl, s1 _ _ ha, y, d2, rfl, h2.same s1, hf d2 (by simp), fun H2 s2 => ⟨_, rfl, ?_⟩⟩
            have s12 := s1.trans s2
            refine ite2 (fun b2 => ?_) (fun b2 => ?_)
            · refine ⟨_, rfl, a, x, y, zz, rfl, s12 _ _ ha, zz, d3, rfl, h3'.same s12, hf d3 (by simp), fun H3 s3 => ?_⟩
              have z' := q H3 (s12.trans s3)
              have e : isMsg (.tuple [d1, d2, d3]) = isTxt d3 := by show (isNum d1 && (isTop d2 && isTxt d3)) = _; rw [b1, b2]; rfl
              rw [e] at z'
              exact z'
            · have z' := q H2 s12
              have e : isMsg (.tuple [d1, d2, d3]) = false := by show (isNum d1 && (isTop d2 && isTxt d3)) = _; rw [Bool.not_eq_true] at b2; rw [b1, b2]; rfl
              rw [e] at z'
              exact z'
          · have z' := q H1 s1
            have e : isMsg (.tuple [d1, d2, d3]) = false := by show (isNum d1 && (isTop d2 && isTxt d3)) = _; rw [Bool.not_eq_true] at b1; rw [b1]; rfl
            rw [e] at z'
            exact z'
    | _ =>
      refine iteT ?_
      exact q H (Same.refl H)

theorem sV_of {z : Str} {l : List Nat} (h : z.cps.toList = l) : V.str z = sV l := by
  unfold sV; rw [← h, str_mk]
theorem line_id {n : Int} (h : 0 ≤ n) : V.str ("id: " ++ nT n) = sV (idF ++ dgT n.toNat) := by
  refine sV_of ?_
  have e := nT_cps n.toNat
  rw [Int.toNat_of_nonneg h] at e
  rw [cat_cps, e]
  rfl
theorem line_tp {t : Str} : V.str ("topic: " ++ t) = sV (tpF ++ t.cps.toList) := by
  refine sV_of ?_
  rw [cat_cps]
  rfl
theorem line_dt {l : List Nat} : V.str ("data: " ++ (⟨l.toArray⟩ : Str)) = sV (dtF ++ l) := by
  refine sV_of ?_
  rw [cat_cps]
  rfl
theorem line_nl {l : List Nat} : V.str ((⟨l.toArray⟩ : Str) ++ "\n") = sV (l ++ [10]) := by
  refine sV_of ?_
  rw [cat_cps, nl_cps]
theorem nT_len {n : Int} (h0 : 0 ≤ n) (h : n ≤ 999999) : (nT n).length ≤ 6 := by
  have e := nT_cps n.toNat
  rw [Int.toNat_of_nonneg h0] at e
  have := dgT_len 5 n.toNat (by omega)
  rw [← e] at this
  simpa [Str.length] using this
theorem n_log {n : Int} (h0 : 0 ≤ n) (h : n ≤ 999999) : n.natAbs.log2 < 1920 := by
  by_cases hz : n.natAbs = 0
  · rw [hz]; decide
  · exact Nat.lt_of_lt_of_le ((Nat.log2_lt hz).mpr (show n.natAbs < 2 ^ 20 by omega)) (by decide)
theorem sl_len (z : Str) : z.length = z.cps.toList.length := by simp [Str.length]
def spFrL : Sp := fun vs H Q _ => ∃ (c : Addr) (m : Msg), vs = [.ref c] ∧ H c = some (mT m) ∧ OkM m ∧ ∀ p H', Same H H' → H' p = some (.lst ((frB m ++ [[]]).map sV)) → Q (.ref p) H'
def spFrT : Sp := fun vs H Q _ => ∃ (c : Addr) (m : Msg), vs = [.ref c] ∧ H c = some (mT m) ∧ OkM m ∧ ∀ H', Same H H' → Q (sV (frC m)) H'
def spSmT : Sp := fun vs H Q _ => ∃ (a : Addr) (xs : List V) (ms : List Msg), vs = [.ref a] ∧ H a = some (.lst xs) ∧ Ms H xs ms ∧ ms.length ≤ 4000 ∧ (∀ m ∈ ms, OkM m) ∧ ∀ H', Same H H' → Q (sV (ms.map frC).flatten) H'
abbrev s_frame_lines : Stmt := top 26
abbrev N_frame_lines : List Str := ["message", "lines"]
theorem sc_frame_lines : FnScope N_frame_lines ["message"] (defScope s_frame_lines) := ⟨rfl, rfl, rfl, by decide +kernel, rfl, by decide +kernel, by decide +kernel⟩
theorem ok_frame_lines {f : Addr} {fd : FuncData} (F : Fun K "frame_lines" "frame_lines" s_frame_lines f fd) (T : Txt mg) (c_number_of : Callee P w K mg base 1 "number_of" ["message"] (spItem 0)) (c_topic_of : Callee P w K mg base 1 "topic_of" ["message"] (spItem 1))
    (c_text_of : Callee P w K mg base 1 "text_of" ["message"] (spItem 2)) : FnOk P w K mg base CX0 2 f fd ["message"] spFrL := by
  refine F.ok sc_frame_lines (fun vs H Q E h => ?_) (fun cdv A outer s H vs Q E hr h => ?_)
  · obtain ⟨c, m, rfl, _⟩ := h; rfl
  · obtain ⟨c, m, rfl, hc, ok, q⟩ := h
    refine ⟨_, (pss_cons (ps_set (i := 1) sc_frame_lines.nd rfl (Or.inl rfl) (as_lst (as_cons (pe_op op_add_str (pe_gl T.g_NUMBER_FRONT) (as_callTy call_strI (by rfl) T.b_str PyProof.Rows.boot_str (at_cons (as_fn c_number_of (hr.mono (by decide)) (at_cons (pv 0) as_nil)) as_nil))) (as_cons (pe_op op_add_str (pe_gl T.g_TOPIC_FRONT) (as_fn c_topic_of (hr.mono (by decide)) (at_cons (pv 0) as_nil))) as_nil))))
      (pss_cons (ps_expr (k_bm K PySem.F.plainAttrs_list PySem.F.slot_list_extend PySem.F.type_list_extend mt_extend (pv 1) (pa_cons (pe_comp (N' := ["part"]) (ix := [none]) (own := [0]) rfl (cs_of (osc := defScope s_frame_lines) (ON := N_frame_lines) rfl rfl (by decide +kernel)) (by decide) (k_it_list K (k_bm K PySem.F.plainAttrs_str PySem.F.slot_str_split PySem.F.type_str_split mt_split (as_fn c_text_of (hr.mono (by decide)) (at_cons (pv 0) as_nil)) (pa_cons pe_str pa_nil))) (fun _ _ _ _ => (pg_name (i := 0) (show (["part"] : List Str).Nodup by decide +kernel) rfl (Or.inl rfl))) own_name (fun _ _ _ _ => pifs_nil) (fun _ _ _ _ => (pe_op op_add_str (pe_gl T.g_TEXT_FRONT) (pv 0)))) pa_nil)))
      (pss_one (ps_ret (pe_op op_cat (pv 1) (as_lst (as_cons pe_str as_nil))))))), ?_⟩
    have hn : 0 ≤ m.n := by have := ok.1.1; omega
    have hn6 := nT_len hn ok.1.2
    have ht3 := sl_len m.t
    have hx8 := sl_len m.x
    have ht3' := ok.2.1.2.1
    have hx8' := ok.2.2.1
    refine ⟨_, rfl, c, _, _, _, rfl, hc, m.n, rfl, n_log hn ok.1.2, _, _, rfl, rfl, ?_, _, rfl, c, _, _, _, rfl, hc, _, _, rfl, rfl, ?_, ?_⟩
    · have e : ("id: " : Str).length = 4 := by decide +kernel
      rw [e, sizeLine_eq]; omega
    · show _ + m.t.length ≤ _
      have e : ("topic: " : Str).length = 7 := by decide +kernel
      rw [e, sizeLine_eq]; omega
    refine ⟨(show 2 ≤ sizeLine by decide), fun p hp => ?_⟩
    have s1 := Same.new (o := .lst [.str ("id: " ++ nT m.n), .str ("topic: " ++ m.t)]) hp
    have e1 : upd H p (.lst [.str ("id: " ++ nT m.n), .str ("topic: " ++ m.t)]) p = some (.lst [sV (idF ++ dgT m.n.toNat), sV (tpF ++ m.t.cps.toList)]) := by rw [upd_same, line_id hn, line_tp]
    generalize upd H p (.lst [.str ("id: " ++ nT m.n), .str ("topic: " ++ m.t)]) = H1 at s1 e1 ⊢
    refine ⟨_, rfl, .inl ⟨rfl, _, SqL.ofL e1⟩, _, rfl, c, _, _, _, rfl, s1 _ _ hc, ?_⟩
    refine ⟨rfl, m.x, "\n", rfl, rfl, (by decide +kernel), (by rw [sizeLine_eq]; show m.x.length + 2 ≤ _; omega), fun r hr => ?_⟩
    have s2 := Same.new (o := .lst ((PySem.Txt.split m.x "\n").map V.str)) hr
    have e2 : upd H1 r (.lst ((PySem.Txt.split m.x "\n").map V.str)) r = some (.lst ((spl m.x.cps.toList).map sV)) := by rw [upd_same, split_spl, List.map_map]; rfl
    have n2 : ∀ (b : Addr), b = r → b ≠ p := fun b e z => by rw [← z, e] at e1; rw [hr] at e1; cases e1
    generalize upd H1 r (.lst ((PySem.Txt.split m.x "\n").map V.str)) = H2 at s2 e2 ⊢
    have hl := Nat.le_trans (spl_len m.x.cps.toList) (Nat.succ_le_succ hx8')
    have k2 : ∀ H', Same H2 H' → SqL K H' r ((spl m.x.cps.toList).map sV) := fun H' s' => SqL.ofL (s' _ _ e2)
    have lv : (((spl m.x.cps.toList).map (dtF ++ ·)).map sV).length = ((spl m.x.cps.toList).map sV).length := by simp
    refine ⟨r, rfl, ⟨_, k2 _ (Same.refl _)⟩, ((spl m.x.cps.toList).map sV).length, GMap H2 (((spl m.x.cps.toList).map (dtF ++ ·)).map sV), ?_, GMap.zero, GMap.step k2 lv ?_, fun ys H3 hG => ?_⟩
    · rw [List.length_map, sizeLine_eq]; omega
    · intro i x v H3 R N hx hv s3 hR
      rw [List.getElem?_map] at hx hv
      rw [List.getElem?_map] at hv
      cases hi : (spl m.x.cps.toList)[i]? with
      | none => rw [hi] at hx; cases hx
      | some l =>
        rw [hi] at hx hv
        obtain rfl := Option.some.inj hx
        obtain rfl := Option.some.inj hv
        have hll := spl_part _ l (List.mem_of_getElem? hi)
        refine rd_name (rd_yes (iteT ?_))
        refine ⟨_, rfl, _, _, rfl, rfl, ?_, ?_⟩
        · have e : ("data: " : Str).length = 6 := by decide +kernel
          have e' : (⟨l.toArray⟩ : Str).length = l.length := by simp [Str.length]
          rw [e, e', sizeLine_eq]; omega
        · rw [line_dt]; exact hR _ s3
    · obtain ⟨st, s3, rfl⟩ := GMap.done k2 lv hG
      refine ⟨st, fun D hD => ?_⟩
      have s4 := Same.new (o := .lst (((spl m.x.cps.toList).map (dtF ++ ·)).map sV)) hD
      have e4 : upd H3 D (.lst (((spl m.x.cps.toList).map (dtF ++ ·)).map sV)) D = some (.lst (((spl m.x.cps.toList).map (dtF ++ ·)).map sV)) := upd_same
      generalize upd H3 D (.lst (((spl m.x.cps.toList).map (dtF ++ ·)).map sV)) = H4 at s4 e4 ⊢
      have e4p := s4 _ _ (s3 _ _ (s2 _ _ e1))
      refine ⟨p, D, _, _, rfl, rfl, e4p, e4, ?_, ?_⟩
      · rw [List.length_map, List.length_map, sizeLine_eq]; show 2 + _ ≤ _; omega
      have s5 : Same H (upd H4 p (.lst ([sV (idF ++ dgT m.n.toNat), sV (tpF ++ m.t.cps.toList)] ++ ((spl m.x.cps.toList).map (dtF ++ ·)).map sV))) := by
        intro b o hb
        have hbp : b ≠ p := fun e => by rw [e, hp] at hb; cases hb
        rw [upd_ne hbp]
        exact s4 _ _ (s3 _ _ (s2 _ _ (s1 _ _ hb)))
      have e5 : upd H4 p (.lst ([sV (idF ++ dgT m.n.toNat), sV (tpF ++ m.t.cps.toList)] ++ ((spl m.x.cps.toList).map (dtF ++ ·)).map sV)) p = some (.lst ((frB m).map sV)) := upd_same
      generalize upd H4 p (.lst ([sV (idF ++ dgT m.n.toNat), sV (tpF ++ m.t.cps.toList)] ++ ((spl m.x.cps.toList).map (dtF ++ ·)).map sV)) = H5 at s5 e5 ⊢
      refine ⟨_, rfl, (show 1 ≤ sizeLine by decide), fun d hd => ?_⟩
      have s6 := Same.new (o := .lst [.str ""]) hd
      have e6 : upd H5 d (.lst [.str ""]) d = some (.lst [.str ""]) := upd_same
      generalize upd H5 d (.lst [.str ""]) = H6 at s6 e6 ⊢
      refine ⟨p, d, _, _, rfl, rfl, s6 _ _ e5, e6, ?_, fun a ha => ?_⟩
      · unfold frB; simp only [List.length_map, List.length_cons, List.length_nil]; rw [sizeLine_eq]; omega
      refine q a _ (s5.trans (s6.trans (Same.new ha))) ?_
      rw [upd_same, List.map_append]
      rfl
theorem frB_len {m : Msg} (ok : OkM m) : (frB m).length ≤ 11 := by
  have := spl_len m.x.cps.toList
  have := ok.2.2.1
  unfold frB
  simp only [List.length_map, List.length_cons]
  omega
theorem frB_part {m : Msg} (ok : OkM m) : ∀ l ∈ frB m, l.length ≤ 20 := by
  intro l hl
  unfold frB at hl
  rcases List.mem_cons.mp hl with e | hl
  · have := dgT_len 5 m.n.toNat (by have := ok.1; omega)
    rw [e, List.length_append]; show 4 + _ ≤ _; omega
  rcases List.mem_cons.mp hl with e | hl
  · have := ok.2.1.2.1
    rw [e, List.length_append]; show 7 + _ ≤ _; omega
  obtain ⟨q, hq, rfl⟩ := List.mem_map.mp hl
  have := spl_part _ q hq
  have := ok.2.2.1
  rw [List.length_append]; show 6 + _ ≤ _; omega
theorem lnC_len {B : Nat} : ∀ {ls : List (List Nat)}, (∀ l ∈ ls, l.length ≤ B) → (lnC ls).length ≤ ls.length * (B + 1)
  | [], _ => Nat.zero_le _
  | l :: r, h => by
    have h1 := h l List.mem_cons_self
    have h2 := lnC_len (ls := r) fun x hx => h x (List.mem_cons_of_mem _ hx)
    rw [lnC_cons, List.length_append, List.length_cons, List.length_cons, Nat.succ_mul]
    omega
theorem frC_len {m : Msg} (ok : OkM m) : (frC m).length ≤ 252 := by
  have h1 := frB_len ok
  have h2 := lnC_len (B := 20) (ls := frB m ++ [[]]) (fun l hl => by
    rcases List.mem_append.mp hl with hl | hl
    · exact frB_part ok l hl
    · rw [List.mem_singleton] at hl; rw [hl]; exact Nat.zero_le _)
  unfold frC
  rw [List.length_append, List.length_singleton] at h2
  have := Nat.mul_le_mul_right (20 + 1) (show (frB m).length + 1 ≤ 12 by omega)
  omega
def mkS (l : List Nat) : Str := ⟨l.toArray⟩
theorem join_fit (ls : List (List Nat)) (h : ls.flatten.length ≤ 16777216) : ((ls.map mkS).map (·.length)).sum + (ls.map mkS).length * ("" : Str).length ≤ 16777216 := by
  have e : ("" : Str).length = 0 := by decide +kernel
  have e2 : ((fun (z : Str) => z.length) ∘ mkS) = List.length := by funext l; simp [mkS, Str.length]
  rw [e, Nat.mul_zero, Nat.add_zero, List.map_map, e2, ← List.length_flatten]
  exact h
theorem frs_len : ∀ {ms : List Msg}, (∀ m ∈ ms, OkM m) → (ms.map frC).flatten.length ≤ ms.length * 252
  | [], _ => Nat.zero_le _
  | m :: r, h => by
    have h1 := frC_len (h m List.mem_cons_self)
    have h2 := frs_len (ms := r) fun x hx => h x (List.mem_cons_of_mem _ hx)
    rw [List.map_cons, List.flatten_cons, List.length_append, List.length_cons, Nat.succ_mul]
    omega
theorem join_sV (ls : List (List Nat)) : V.str (Txt.join "" (ls.map mkS)) = sV ls.flatten := by
  refine sV_of ?_
  rw [join_codes', List.map_map]
  have : ((fun (y : Str) => y.cps.toList) ∘ mkS) = id := by funext l; simp [mkS]
  rw [this, List.map_id]
abbrev s_frame_text : Stmt := top 27
abbrev N_frame_text : List Str := ["message"]
theorem sc_frame_text : FnScope N_frame_text ["message"] (defScope s_frame_text) := ⟨rfl, rfl, rfl, by decide +kernel, rfl, by decide +kernel, by decide +kernel⟩
theorem ok_frame_text {f : Addr} {fd : FuncData} (F : Fun K "frame_text" "frame_text" s_frame_text f fd) (T : Txt mg) (c_frame_lines : Callee P w K mg base 2 "frame_lines" ["message"] spFrL) : FnOk P w K mg base CX0 3 f fd ["message"] spFrT := by
  refine F.ok sc_frame_text (fun vs H Q E h => ?_) (fun cdv A outer s H vs Q E hr h => ?_)
  · obtain ⟨c, m, rfl, _⟩ := h; rfl
  · obtain ⟨c, m, rfl, hc, ok, q⟩ := h
    refine ⟨_, (pss_one (ps_ret (k_bm K PySem.F.plainAttrs_str PySem.F.slot_str_join PySem.F.type_str_join (k_join K) pe_str (pa_cons (pe_comp (N' := ["line"]) (ix := [none]) (own := [0]) rfl (cs_of (osc := defScope s_frame_text) (ON := N_frame_text) rfl rfl (by decide +kernel)) (by decide) (k_it_list K (as_fn c_frame_lines (hr.mono (by decide)) (at_cons (pv 0) as_nil))) (fun _ _ _ _ => (pg_name (i := 0) (show (["line"] : List Str).Nodup by decide +kernel) rfl (Or.inl rfl))) own_name (fun _ _ _ _ => pifs_nil) (fun _ _ _ _ => (pe_op op_add_str (pv 0) pe_str))) pa_nil)))), ?_⟩
    refine ⟨rfl, _, rfl, c, m, rfl, hc, ok, fun r H1 s1 e1 => ?_⟩
    have hl := frB_len ok
    have k1 : ∀ H', Same H1 H' → SqL K H' r ((frB m ++ [[]]).map sV) := fun H' s' => SqL.ofL (s' _ _ e1)
    have lv : (((frB m ++ [[]]).map (· ++ [10])).map sV).length = ((frB m ++ [[]]).map sV).length := by simp
    refine ⟨r, rfl, ⟨_, k1 _ (Same.refl _)⟩, ((frB m ++ [[]]).map sV).length, GMap H1 (((frB m ++ [[]]).map (· ++ [10])).map sV), ?_, GMap.zero, GMap.step k1 lv ?_, fun ys H3 hG => ?_⟩
    · rw [List.length_map, List.length_append, List.length_singleton, sizeLine_eq]; omega
    · intro i x v H3 R N hx hv s3 hR
      rw [List.getElem?_map] at hx hv
      rw [List.getElem?_map] at hv
      cases hi : (frB m ++ [[]])[i]? with
      | none => rw [hi] at hx; cases hx
      | some l =>
        rw [hi] at hx hv
        obtain rfl := Option.some.inj hx
        obtain rfl := Option.some.inj hv
        have hll : l.length ≤ 20 := by
          rcases List.mem_append.mp (List.mem_of_getElem? hi) with hl | hl
          · exact frB_part ok l hl
          · rw [List.mem_singleton] at hl; rw [hl]; exact Nat.zero_le _
        refine rd_name (rd_yes (iteT ?_))
        refine ⟨_, rfl, _, _, rfl, rfl, ?_, ?_⟩
        · have e : ("\n" : Str).length = 1 := by decide +kernel
          have e' : (⟨l.toArray⟩ : Str).length = l.length := by simp [Str.length]
          rw [e, e', sizeLine_eq]; omega
        · rw [line_nl]; exact hR _ s3
    · obtain ⟨st, s3, rfl⟩ := GMap.done k1 lv hG
      refine ⟨st, fun D hD => ?_⟩
      refine ⟨"", D, ((frB m ++ [[]]).map (· ++ [10])).map mkS, rfl, rfl, ?_, join_fit _ (Nat.le_trans (show (lnC (frB m ++ [[]])).length ≤ 252 from frC_len ok) (by decide)), ?_⟩
      · rw [List.map_map (g := V.str)]; exact SqL.ofL upd_same
      · show Q (V.str (Txt.join "" (((frB m ++ [[]]).map (· ++ [10])).map mkS))) _
        rw [join_sV]
        exact q _ (s1.trans (s3.trans (Same.new hD)))
abbrev s_stream_text : Stmt := top 28
abbrev N_stream_text : List Str := ["messages"]
theorem sc_stream_text : FnScope N_stream_text ["messages"] (defScope s_stream_text) := ⟨rfl, rfl, rfl, by decide +kernel, rfl, by decide +kernel, by decide +kernel⟩
theorem ok_stream_text {f : Addr} {fd : FuncData} (F : Fun K "stream_text" "stream_text" s_stream_text f fd) (T : Txt mg) (c_frame_text : Callee P w K mg base 3 "frame_text" ["message"] spFrT) : FnOk P w K mg base CX0 4 f fd ["messages"] spSmT := by
  refine F.ok sc_stream_text (fun vs H Q E h => ?_) (fun cdv A outer s H vs Q E hr h => ?_)
  · obtain ⟨a, xs, ms, rfl, _⟩ := h; rfl
  · obtain ⟨a, xs, ms, rfl, ha, hm, hl, ok, q⟩ := h
    refine ⟨_, (pss_one (ps_ret (k_bm K PySem.F.plainAttrs_str PySem.F.slot_str_join PySem.F.type_str_join (k_join K) pe_str (pa_cons (pe_comp (N' := ["message"]) (ix := [none]) (own := [0]) rfl (cs_of (osc := defScope s_stream_text) (ON := N_stream_text) rfl rfl (by decide +kernel)) (by decide) (k_it_list K (pv 0)) (fun _ _ _ _ => (pg_name (i := 0) (show (["message"] : List Str).Nodup by decide +kernel) rfl (Or.inl rfl))) own_name (fun _ _ _ _ => pifs_nil) (fun _ _ _ _ => (as_fn c_frame_text (hr.mono (by decide)) (at_cons (pv 0) as_nil)))) pa_nil)))), ?_⟩
    have hxl := hm.len
    have k1 : ∀ H', Same H H' → SqL K H' a xs := fun H' s' => SqL.ofL (s' _ _ ha)
    have lv : ((ms.map frC).map sV).length = xs.length := by simp [hxl]
    refine ⟨rfl, _, rfl, a, rfl, ⟨_, k1 _ (Same.refl _)⟩, xs.length, GMap H ((ms.map frC).map sV), ?_, GMap.zero, GMap.step k1 lv ?_, fun ys H3 hG => ?_⟩
    · rw [sizeLine_eq]; omega
    · intro i x v H3 R N hx hv s3 hR
      have hi : i < ms.length := by rw [← hxl]; exact (List.getElem?_eq_some_iff.mp hx).1
      obtain ⟨c, ec, hc⟩ := hm.get hi
      rw [hx] at ec
      obtain rfl := Option.some.inj ec
      rw [List.getElem?_map, List.getElem?_map, List.getElem?_eq_getElem hi] at hv
      obtain rfl := Option.some.inj hv
      refine rd_name (rd_yes (iteT ?_))
      refine ⟨_, rfl, c, ms[i], rfl, s3 _ _ hc, ok _ (List.getElem_mem hi), fun H4 s4 => hR _ (s3.trans s4)⟩
    · obtain ⟨st, s3, rfl⟩ := GMap.done k1 lv hG
      refine ⟨st, fun D hD => ?_⟩
      refine ⟨"", D, (ms.map frC).map mkS, rfl, rfl, ?_, join_fit _ (Nat.le_trans (frs_len ok) ?_), ?_⟩
      · rw [List.map_map (g := V.str)]; exact SqL.ofL upd_same
      · have := Nat.mul_le_mul_right 252 hl
        omega
      · show Q (V.str (Txt.join "" ((ms.map frC).map mkS))) _
        rw [join_sV]
        exact q _ (s3.trans (Same.new hD))

def spWFX (CN : Addr) : Sp := fun vs H Q E => ∃ (z front : Str), vs = [.str z, .str front] ∧ z.length ≤ sizeLine ∧ (∀ l, z.cps.toList = front.cps.toList ++ l → Q (sV l) H) ∧ ((∀ l, z.cps.toList ≠ front.cps.toList ++ l) → E (.ref CN) none H)
def spNInX (CN : Addr) : Sp := fun vs H Q E => ∃ (z : Str), vs = [.str z] ∧ z.length ≤ sizeLine ∧ (∀ n : Nat, z.cps.toList = dgT n → 1 ≤ n → n ≤ 999999 → ∀ H', Same H H' → Q (.int n) H') ∧ ((∀ n : Nat, 1 ≤ n → n ≤ 999999 → z.cps.toList ≠ dgT n) → ∀ H', Same H H' → E (.ref CN) none H')
def spMInX (CN : Addr) : Sp := fun vs H Q E => ∃ (a : Addr) (ls : List (List Nat)), vs = [.ref a] ∧ H a = some (.lst (ls.map sV)) ∧ (∀ l ∈ ls, l.length ≤ 4000 ∧ 10 ∉ l) ∧ ls.length ≤ 4000 ∧
  (∀ m, minG ls = some m → ∀ c H', Same H H' → H' c = some (mT m) → Q (.ref c) H') ∧ (minG ls = none → ∀ H', Same H H' → E (.ref CN) none H')
theorem front_is (z front : Str) : Txt.startswith z front = true ↔ ∃ l, z.cps.toList = front.cps.toList ++ l := by
  rw [starts_is, decide_eq_true_iff]
  refine ⟨fun h => ⟨z.cps.toList.drop front.length, ?_⟩, fun ⟨l, h⟩ => ?_⟩
  · rw [← h, List.take_append_drop]
  · rw [h, ← cps_len, List.take_left]
abbrev s_without_front : Stmt := top 29
abbrev N_without_front : List Str := ["line", "front"]
theorem sc_without_front : FnScope N_without_front ["line", "front"] (defScope s_without_front) := ⟨rfl, rfl, rfl, by decide +kernel, rfl, by decide +kernel, by decide +kernel⟩
theorem okx_without_front {f CN : Addr} {fd : FuncData} (F : Fun K "without_front" "without_front" s_without_front f fd) (T : Txt mg) (x_NoText : Exc K mg "NoText" CN) : FnOk P w K mg base (CXF P w) 1 f fd ["line", "front"] (spWFX CN) := by
  refine F.okX sc_without_front (fun vs H Q E h => ?_) (fun cdv A outer s H vs Q E hr h => ?_)
  · obtain ⟨z, front, rfl, _⟩ := h; rfl
  · obtain ⟨z, front, rfl, hsz, q1, q2⟩ := h
    refine ⟨_, (pss_cons (ps_if (pt_not (pt_val (k_bm K PySem.F.plainAttrs_str PySem.F.slot_str_startswith PySem.F.type_str_startswith mt_startswith (pv 0) (pa_cons (pv 1) pa_nil)))) (pss_one (ps_raise x_NoText (at_cons pe_str as_nil))) pss_nil)
      (pss_one (ps_ret (pe_slice sl_str (pv 0) (po_some (as_callB call_len_str (by rfl) T.b_len PySem.boot_len (at_cons (pv 1) as_nil))) po_none)))), ?_⟩
    refine ⟨_, rfl, rfl, _, rfl, z, front, rfl, rfl, _, rfl, ite2 (fun b => ?_) (fun b => ?_)⟩
    · refine ⟨(by decide), q2 fun l hl => ?_⟩
      rw [(front_is z front).mpr ⟨l, hl⟩] at b
      cases b
    · have b' : Txt.startswith z front = true := by
        cases e : Txt.startswith z front with
        | true => rfl
        | false => rw [e] at b; exact absurd rfl b
      obtain ⟨l, hz⟩ := (front_is z front).mp b'
      have hfl : front.length ≤ z.length := by rw [← cps_len, ← cps_len, hz, List.length_append]; omega
      refine ⟨_, rfl, _, rfl, front, rfl, by omega, _, rfl, z, rfl, hsz, ?_⟩
      have e : Txt.slice z (some (front.length : Int)) none = ⟨l.toArray⟩ := by
        rw [slice_drop (by rw [cps_len]; exact hfl), hz, ← cps_len, List.drop_left]
      rw [e]
      exact q1 l hz
theorem sum_le {B : Nat} : ∀ (ls : List (List Nat)), (∀ l ∈ ls, l.length ≤ B) → (ls.map List.length).sum ≤ ls.length * B
  | [], _ => Nat.zero_le _
  | l :: r, h => by
    have h1 := h l List.mem_cons_self
    have h2 := sum_le r fun x hx => h x (List.mem_cons_of_mem _ hx)
    rw [List.map_cons, List.sum_cons, List.length_cons, Nat.succ_mul]
    omega
theorem jn_len {B : Nat} : ∀ {ls : List (List Nat)}, (∀ l ∈ ls, l.length ≤ B) → (jn ls).length ≤ ls.length * (B + 1)
  | [], _ => Nat.zero_le _
  | [x], h => by have := h x List.mem_cons_self; show x.length ≤ _; simp; omega
  | x :: y :: r, h => by
    have h1 := h x List.mem_cons_self
    have h2 := jn_len (ls := y :: r) fun q hq => h q (List.mem_cons_of_mem _ hq)
    show (x ++ 10 :: jn (y :: r)).length ≤ _
    rw [List.length_append, List.length_cons, List.length_cons (a := x), Nat.succ_mul]
    omega
theorem inS_mem (signs : Str) (c : Nat) : inS signs c = decide (c ∈ signs.cps.toList) := StrLaws.found_one signs c
theorem only_iff (signs z : Str) : onlyIn signs z = true ↔ ∀ c ∈ z.cps.toList, c ∈ signs.cps.toList := by
  unfold onlyIn
  rw [List.all_eq_true]
  refine ⟨fun h c hc => ?_, fun h c hc => ?_⟩
  · have := h c hc
    rw [inS_mem] at this
    exact of_decide_eq_true this
  · rw [inS_mem]; exact decide_eq_true (h c hc)
theorem digs_cps : ("0123456789" : Str).cps.toList = List.range' 48 10 := by decide +kernel
theorem only_digs (z : Str) : onlyIn "0123456789" z = true ↔ DigL z.cps.toList := by
  rw [only_iff, digs_cps]
  refine ⟨fun h c hc => ?_, fun h c hc => ?_⟩
  · have := List.mem_range'_1.mp (h c hc); omega
  · have := h c hc; exact List.mem_range'_1.mpr (by omega)
theorem digN_lt : ∀ {cs : List Nat}, DigL cs → digN cs < 10 ^ cs.length := by
  intro cs
  induction cs using snoc_ind with
  | nil => intro _; decide
  | append_singleton cs c ih =>
    intro h
    have h1 := ih fun x hx => h x (List.mem_append_left _ hx)
    have h2 := h c (by simp)
    rw [digN_snoc, List.length_append, List.length_singleton, Nat.pow_succ]
    omega
theorem digN_pos {cs : List Nat} (h : DigL cs) (h0 : cs ≠ []) (h1 : cs.head? ≠ some 48) : 1 ≤ digN cs := by
  rcases Nat.eq_zero_or_pos (digN cs) with e | e
  · exfalso
    have := dgT_uniq h h0 h1
    rw [e] at this
    rw [← this] at h1
    exact h1 (by decide +kernel)
  · exact e
abbrev s_number_in : Stmt := top 30
abbrev N_number_in : List Str := ["text", "fits"]
theorem sc_number_in : FnScope N_number_in ["text"] (defScope s_number_in) := ⟨rfl, rfl, rfl, by decide +kernel, rfl, by decide +kernel, by decide +kernel⟩
theorem okx_number_in {f CN : Addr} {fd : FuncData} (F : Fun K "number_in" "number_in" s_number_in f fd) (T : Txt mg) (x_NoText : Exc K mg "NoText" CN) (c_has_only : Callee P w K mg base 1 "has_only" ["text", "signs"] spOnly) : FnOk P w K mg base (CXF P w) 2 f fd ["text"] (spNInX CN) := by
  refine F.okX sc_number_in (fun vs H Q E h => ?_) (fun cdv A outer s H vs Q E hr h => ?_)
  · obtain ⟨z, rfl, _⟩ := h; rfl
  · obtain ⟨z, rfl, hsz, q1, q2⟩ := h
    refine ⟨_, (pss_cons (ps_set (i := 1) sc_number_in.nd rfl (Or.inl rfl) (pe_and (pe_chain op_le op_le pe_int (as_callB call_len_str (by rfl) T.b_len PySem.boot_len (at_cons (pv 0) as_nil)) (as_callB call_len_str (by rfl) T.b_len PySem.boot_len (at_cons (as_callTy call_strI (by rfl) T.b_str PyProof.Rows.boot_str (at_cons (pe_gl T.g_GREATEST_NUMBER) as_nil)) as_nil))) (pe_one (as_fn c_has_only (hr.mono (by decide)) (at_cons (pv 0) (as_cons (pe_gl T.g_DIGITS) as_nil))))))
      (pss_cons (ps_if (PW.pt (pw_or (pt_not (pt_val (pv 1))) (pw_or1 (pt_val (k_bm K PySem.F.plainAttrs_str PySem.F.slot_str_startswith PySem.F.type_str_startswith mt_startswith (pv 0) (pa_cons pe_str pa_nil)))))) (pss_one (ps_raise x_NoText (at_cons pe_str as_nil))) pss_nil)
      (pss_one (ps_ret (as_callTy call_intS (by rfl) T.b_int PyProof.Rows.boot_int (at_cons (pv 0) as_nil)))))), ?_⟩
    have e6 : (nT 999999).length = 6 := by
      have := nT_cps 999999
      rw [← cps_len]
      show (nT ((999999 : Nat) : Int)).cps.toList.length = 6
      rw [this]
      decide +kernel
    have key : ∀ n : Nat, 1 ≤ n → n ≤ 999999 → z.cps.toList = dgT n → (1 ≤ z.length ∧ z.length ≤ 6) ∧ onlyIn "0123456789" z = true ∧ z.cps.toList.head? ≠ some 48 := fun n h1 h9 hz => by
      have hl := dgT_len 5 n (by omega)
      have hl1 : 1 ≤ (dgT n).length := List.length_pos_iff.mpr (dgT_ne n)
      rw [← cps_len, only_digs, hz]
      exact ⟨⟨hl1, hl⟩, dgT_dig n, dgT_head n h1⟩
    refine ⟨_, rfl, _, rfl, hsz, _, _, rfl, rfl, _, rfl, ite2 (fun b1 => ?_) (fun b1 => ?_)⟩
    · refine ⟨999999, rfl, n_log (by decide) (by decide), nT 999999, rfl, by rw [e6]; decide, _, _, rfl, rfl, _, rfl, ite2 (fun b2 => ?_) (fun b2 => ?_)⟩
      · refine ⟨_, rfl, _, _, rfl, by rw [← cps_len] at hsz; simpa using hsz, fun H1 s1 => ?_⟩
        have b1' : 1 ≤ z.length := by have := of_decide_eq_true b1; omega
        have b2' : z.length ≤ 6 := by have := of_decide_eq_true b2; rw [e6] at this; omega
        refine ⟨_, rfl, _, rfl, ite2 (fun b3 => ?_) (fun b3 => ?_)⟩
        · refine ⟨by decide, q2 (fun n h1 h9 hz => ?_) _ s1⟩
          rw [(key n h1 h9 hz).2.1] at b3
          cases b3
        · have b3' : onlyIn "0123456789" z = true := by
            cases e : onlyIn "0123456789" z with
            | true => rfl
            | false => rw [e] at b3; exact absurd rfl b3
          have hd := (only_digs z).mp b3'
          have e0 : ("0" : Str) = ⟨#[48]⟩ := by decide +kernel
          refine ⟨_, rfl, rfl, _, "0", rfl, rfl, _, rfl, ite2 (fun b4 => ?_) (fun b4 => ?_)⟩
          · refine ⟨by decide, q2 (fun n h1 h9 hz => ?_) _ s1⟩
            rw [e0, starts_one] at b4
            exact (key n h1 h9 hz).2.2 (of_decide_eq_true b4)
          · have hh : z.cps.toList.head? ≠ some 48 := fun e => b4 (by rw [e0, starts_one]; exact decide_eq_true e)
            have hne : z.cps.toList ≠ [] := fun e => by
              have := congrArg List.length e
              rw [cps_len] at this
              simp at this; omega
            refine ⟨_, rfl, _, rfl, hd, hne, by rw [cps_len]; omega, ?_⟩
            have h9 := digN_lt hd
            rw [cps_len] at h9
            have h10 := Nat.pow_le_pow_right (n := 10) (by decide) b2'
            exact q1 (digN z.cps.toList) (dgT_uniq hd hne hh).symm (digN_pos hd hne hh) (by rw [show (10 : Nat) ^ 6 = 1000000 from by decide] at h10; omega) _ s1
      · refine ⟨_, rfl, _, rfl, iteT ⟨by decide, q2 (fun n h1 h9 hz => b2 (decide_eq_true ?_)) _ (Same.refl _)⟩⟩
        have := (key n h1 h9 hz).1.2
        rw [e6]; omega
    · refine ⟨_, rfl, iteF ⟨_, rfl, _, rfl, iteT ⟨by decide, q2 (fun n h1 h9 hz => b1 (decide_eq_true ?_)) _ (Same.refl _)⟩⟩⟩
      have := (key n h1 h9 hz).1.1
      omega
theorem msg_iff (m : Msg) : isMsg (mD m) = true ↔ OkM m := by
  have e1 : ("abcdefghijklmnopqrstuvwxyz" : Str).cps.toList = List.range' 97 26 := by decide +kernel
  have e2 : ("abcdefghijklmnopqrstuvwxyz \n" : Str).cps.toList = List.range' 97 26 ++ [32, 10] := by decide +kernel
  have h1 : isNum (.int m.n) = true ↔ 1 ≤ m.n ∧ m.n ≤ 999999 := by
    show (decide _ && decide _) = true ↔ _
    rw [Bool.and_eq_true, decide_eq_true_iff, decide_eq_true_iff]
  have h2 : isTop (.str m.t) = true ↔ (1 ≤ m.t.cps.toList.length ∧ m.t.cps.toList.length ≤ 3 ∧ ∀ c ∈ m.t.cps.toList, 97 ≤ c ∧ c ≤ 122) := by
    show ((decide (1 ≤ (m.t.length : Int)) && decide ((m.t.length : Int) ≤ 3)) && onlyIn "abcdefghijklmnopqrstuvwxyz" m.t) = true ↔ _
    rw [Bool.and_eq_true, Bool.and_eq_true, decide_eq_true_iff, decide_eq_true_iff, only_iff, e1, cps_len, and_assoc]
    refine and_congr (by omega) (and_congr (by omega) ⟨fun h c hc => ?_, fun h c hc => ?_⟩)
    · have := List.mem_range'_1.mp (h c hc); omega
    · have := h c hc; exact List.mem_range'_1.mpr (by omega)
  have h3 : isTxt (.str m.x) = true ↔ (m.x.cps.toList.length ≤ 8 ∧ ∀ c ∈ m.x.cps.toList, (97 ≤ c ∧ c ≤ 122) ∨ c = 32 ∨ c = 10) := by
    show (decide ((m.x.length : Int) ≤ 8) && onlyIn "abcdefghijklmnopqrstuvwxyz \n" m.x) = true ↔ _
    rw [Bool.and_eq_true, decide_eq_true_iff, only_iff, e2, cps_len]
    refine and_congr (by omega) ⟨fun h c hc => ?_, fun h c hc => ?_⟩
    · rcases List.mem_append.mp (h c hc) with h | h
      · have := List.mem_range'_1.mp h; exact .inl (by omega)
      · simp only [List.mem_cons, List.not_mem_nil, or_false] at h; exact .inr h
    · refine List.mem_append.mpr ?_
      rcases h c hc with h | h | h
      · exact .inl (List.mem_range'_1.mpr (by omega))
      · exact .inr (by rw [h]; simp)
      · exact .inr (by rw [h]; simp)
  show (isNum (.int m.n) && (isTop (.str m.t) && isTxt (.str m.x))) = true ↔ _
  rw [Bool.and_eq_true, Bool.and_eq_true, h1, h2, h3]
  exact Iff.rfl
/-- the lines of a number, a topic and parts -/
theorem lines_fr {n : Nat} {t : List Nat} {ps : List (List Nat)} (h : ps ≠ []) (hp : ∀ p ∈ ps, 10 ∉ p) : (idF ++ dgT n) :: (tpF ++ t) :: ps.map (dtF ++ ·) = frB ⟨(n : Int), ⟨t.toArray⟩, ⟨(jn ps).toArray⟩⟩ := by
  unfold frB
  simp only [Int.toNat_natCast]
  rw [spl_jn h hp]
theorem minG_ok {m : Msg} (h0 : 0 ≤ m.n) : minG (frB m) = if OkM m then some m else none := by
  unfold minG
  rw [minF_fr h0]
  simp
theorem len3 (m : Msg) : 3 ≤ (frB m).length := by
  have := List.length_pos_iff.mpr (spl_ne m.x.cps.toList)
  unfold frB; simp only [List.length_cons, List.length_map]; omega
theorem minG_no {ls : List (List Nat)} (h : ∀ m, OkM m → ls ≠ frB m) : minG ls = none := by
  cases e : minG ls with
  | none => rfl
  | some m => exact absurd (minG_some e).1 (h m (minG_some e).2)
abbrev s_message_in : Stmt := top 31
abbrev N_message_in : List Str := ["lines", "number", "topic", "text", "message"]
theorem sc_message_in : FnScope N_message_in ["lines"] (defScope s_message_in) := ⟨rfl, rfl, rfl, by decide +kernel, rfl, by decide +kernel, by decide +kernel⟩
theorem okx_message_in {f CN : Addr} {fd : FuncData} (F : Fun K "message_in" "message_in" s_message_in f fd) (T : Txt mg) (x_NoText : Exc K mg "NoText" CN) (cx_number_in : CalleeX P w K mg base 2 "number_in" ["text"] (spNInX CN)) (cx_without_front : CalleeX P w K mg base 1 "without_front" ["line", "front"] (spWFX CN)) (c_is_message : Callee P w K mg base 3 "is_message" ["thing"] (spLook fitT isMsg)) : FnOk P w K mg base (CXF P w) 4 f fd ["lines"] (spMInX CN) := by
  refine F.okX sc_message_in (fun vs H Q E h => ?_) (fun cdv A outer s H vs Q E hr h => ?_)
  · obtain ⟨a, ls, rfl, _⟩ := h; rfl
  · obtain ⟨a, ls, rfl, ha, hls, hll, q1, q2⟩ := h
    refine ⟨_, (pss_cons (ps_if (pt_cmpR op_lt (as_callB (k_len_seq K) (by rfl) T.b_len PySem.boot_len (at_cons (pv 0) as_nil)) pe_int (nomark _)) (pss_one (ps_raise x_NoText (at_cons pe_str as_nil))) pss_nil)
      (pss_cons (ps_set (i := 1) sc_message_in.nd rfl (Or.inl rfl) (as_fnX cx_number_in (hr.mono (by decide)) pass_on (at_cons (as_fnX cx_without_front (hr.mono (by decide)) pass_on (at_cons (pe_ix (k_ix_list K) (pv 0) pe_int (fun _ _ => rfl)) (as_cons (pe_gl T.g_NUMBER_FRONT) as_nil))) as_nil)))
      (pss_cons (ps_set (i := 2) sc_message_in.nd rfl (Or.inl rfl) (as_fnX cx_without_front (hr.mono (by decide)) pass_on (at_cons (pe_ix (k_ix_list K) (pv 0) pe_int (fun _ _ => rfl)) (as_cons (pe_gl T.g_TOPIC_FRONT) as_nil))))
      (pss_cons (ps_set (i := 3) sc_message_in.nd rfl (Or.inl rfl) (k_bm K PySem.F.plainAttrs_str PySem.F.slot_str_join PySem.F.type_str_join (k_join K) pe_str (pa_cons (pe_compX (N' := ["line"]) (ix := [none]) (own := [0]) rfl (cs_of (osc := defScope s_message_in) (ON := N_message_in) rfl rfl (by decide +kernel)) (by decide) (k_it_list K (pe_slice (k_sl_list K) (pv 0) (po_some pe_int) po_none)) (fun _ _ _ _ => (pg_name (i := 0) (show (["line"] : List Str).Nodup by decide +kernel) rfl (Or.inl rfl))) own_name (fun _ _ _ _ => pifs_nil) (fun _ _ _ _ => (as_fnX cx_without_front (hr.mono (by decide)) pass_blk (at_cons (pv 0) (as_cons (pe_gl T.g_TEXT_FRONT) as_nil)))) passF_on) pa_nil)))
      (pss_cons (ps_set (i := 4) sc_message_in.nd rfl (Or.inl rfl) (as_tup (as_cons (pv 1) (as_cons (pv 2) (as_cons (pv 3) as_nil)))))
      (pss_cons (ps_if (pt_not (pt_val (as_fn c_is_message (hr.mono (by decide)) (at_cons (pv 4) as_nil)))) (pss_one (ps_raise x_NoText (at_cons pe_str as_nil))) pss_nil)
      (pss_one (ps_ret (pv 4))))))))), ?_⟩
    refine ⟨_, rfl, a, _, rfl, .inl (SqL.ofL ha), _, _, rfl, rfl, _, rfl, ite2 (fun b => ?_) (fun b => ?_)⟩
    · refine ⟨by decide, q2 (minG_no fun m _ e => ?_) _ (Same.refl _)⟩
      have := of_decide_eq_true b
      rw [List.length_map, e] at this
      have := len3 m
      omega
    have b' : ¬ ((ls.map sV).length : Int) < 3 := fun z => b (decide_eq_true z)
    rw [List.length_map] at b'
    obtain ⟨l0, l1, l2, r, rfl⟩ : ∃ l0 l1 l2 r, ls = l0 :: l1 :: l2 :: r := by
      match ls, b' with
      | l0 :: l1 :: l2 :: r, _ => exact ⟨l0, l1, l2, r, rfl⟩
      | [], b' => simp at b'
      | [_], b' => simp at b'
      | [_, _], b' => simp at b'
    have szm : ∀ {l : List Nat}, l.length ≤ 4000 → (⟨l.toArray⟩ : Str).length ≤ sizeLine := fun {l} h => by
      have : (⟨l.toArray⟩ : Str).length = l.length := by simp [Str.length]
      rw [this, sizeLine_eq]; omega
    have ci : ("id: " : Str).cps.toList = idF := by decide +kernel
    have ct : ("topic: " : Str).cps.toList = tpF := by decide +kernel
    have cd : ("data: " : Str).cps.toList = dtF := by decide +kernel
    have g0 := hls l0 (by simp)
    have g1 := hls l1 (by simp)
    refine ⟨_, rfl, a, _, 0, _, rfl, rfl, SqL.ofL ha, atI_nat (j := 0) rfl, _, "id: ", rfl, szm g0.1, fun l hl => ?_, fun hl => ?_⟩
    · have hl' : l0 = idF ++ l := by rw [← ci]; exact hl
      subst hl'
      have hg : l.length ≤ 4000 := by have := g0.1; rw [List.length_append] at this; omega
      refine ⟨_, rfl, szm hg, fun n hn n1 n9 H1 s1 => ?_, fun hno => ?_⟩
      · have hn' : l = dgT n := hn
        subst hn'
        have ha1 := s1 _ _ ha
        refine ⟨_, rfl, a, _, 1, _, rfl, rfl, SqL.ofL ha1, atI_nat (j := 1) rfl, _, "topic: ", rfl, szm g1.1, fun t ht => ?_, fun ht => ?_⟩
        · have ht' : l1 = tpF ++ t := by rw [← ct]; exact ht
          subst ht'
          refine ⟨rfl, _, rfl, _, rfl, a, _, rfl, SqL.ofL ha1, fun rr hrr => ?_⟩
          rw [cut_from (by decide)]
          have s2 := Same.new (o := .lst ((((idF ++ dgT n) :: (tpF ++ t) :: l2 :: r).map sV).drop (2 : Int).toNat)) hrr
          have e2 : upd H1 rr (.lst ((((idF ++ dgT n) :: (tpF ++ t) :: l2 :: r).map sV).drop (2 : Int).toNat)) rr = some (.lst ((l2 :: r).map sV)) := upd_same
          generalize upd H1 rr (.lst ((((idF ++ dgT n) :: (tpF ++ t) :: l2 :: r).map sV).drop (2 : Int).toNat)) = H2 at s2 e2 ⊢
          have hls2 : ∀ l ∈ l2 :: r, l.length ≤ 4000 ∧ 10 ∉ l := fun l hl => hls l (List.mem_cons_of_mem _ (List.mem_cons_of_mem _ hl))
          have hll2 : (l2 :: r).length ≤ 4000 := by simp at hll ⊢; omega
          have hne2 : (l2 :: r) ≠ [] := List.cons_ne_nil _ _
          have q2' : (∀ m, OkM m → (l2 :: r) ≠ (spl m.x.cps.toList).map (dtF ++ ·)) → ∀ H', Same H H' → E (.ref CN) none H' := fun hno => q2 (minG_no fun m om e => by
            injection e with _ e
            injection e with _ e
            exact hno m om e)
          have q1' : ∀ ps : List (List Nat), l2 :: r = ps.map (dtF ++ ·) → ps ≠ [] ∧ (∀ p ∈ ps, 10 ∉ p) ∧ minG ((idF ++ dgT n) :: (tpF ++ t) :: l2 :: r) = if OkM ⟨(n : Int), ⟨t.toArray⟩, ⟨(jn ps).toArray⟩⟩ then some ⟨(n : Int), ⟨t.toArray⟩, ⟨(jn ps).toArray⟩⟩ else none := fun ps hps => by
            have h1 : ps ≠ [] := fun e => by rw [e] at hps; cases hps
            have h2 : ∀ p ∈ ps, 10 ∉ p := fun p hp z => (hls2 (dtF ++ p) (by rw [hps]; exact List.mem_map.mpr ⟨p, hp, rfl⟩)).2 (List.mem_append_right _ z)
            refine ⟨h1, h2, ?_⟩
            rw [hps, lines_fr h1 h2]
            exact minG_ok (Int.natCast_nonneg _)
          generalize l2 :: r = R at e2 hls2 hll2 hne2 q1 q2' q1' q2 ⊢
          have k2 : ∀ H', Same H2 H' → SqL K H' rr (R.map sV) := fun H' s' => SqL.ofL (s' _ _ e2)
          refine ⟨rr, rfl, ⟨_, k2 _ (Same.refl _)⟩, (R.map sV).length, fun i ys H' => Same H2 H' ∧ ∃ ps : List (List Nat), ys = ps.map sV ∧ R.take i = ps.map (dtF ++ ·), ?_, ⟨Same.refl _, [], rfl, rfl⟩, ?_, ?_⟩
          · rw [List.length_map, sizeLine_eq]; omega
          · rintro i ys H' hi ⟨s3, ps, rfl, hps⟩
            rw [List.length_map] at hi
            have ec : (R.map sV)[i]? = some (sV R[i]) := by rw [List.getElem?_map, List.getElem?_eq_getElem hi]; rfl
            refine ⟨⟨_, _, k2 _ s3, ec⟩, ?_⟩
            rintro x H3 ⟨rfl, hx⟩
            have hx' := hx _ (k2 _ s3)
            rw [ec] at hx'
            obtain rfl := Option.some.inj hx'
            have hRi := hls2 _ (List.getElem_mem hi)
            refine rd_name (rd_yes (iteT ?_))
            refine ⟨_, rfl, _, "data: ", rfl, szm hRi.1, fun l hl => ⟨s3, ps ++ [l], by rw [List.map_append]; rfl, ?_⟩, fun hl => ?_⟩
            · have hl' : R[i] = dtF ++ l := by rw [← cd]; exact hl
              rw [List.take_add_one, List.getElem?_eq_getElem hi, hps, hl', List.map_append]; rfl
            · refine q2' (fun m om e => ?_) _ (s1.trans (s2.trans s3))
              have : R[i] ∈ (spl m.x.cps.toList).map (dtF ++ ·) := e ▸ List.getElem_mem hi
              obtain ⟨p, _, hp⟩ := List.mem_map.mp this
              exact hl p (by rw [cd]; exact hp.symm)
          · rintro ys H3 ⟨s3, ps, rfl, hps⟩
            rw [List.length_map, List.take_length] at hps
            obtain ⟨hne, hfree, hmin⟩ := q1' ps hps
            refine ⟨⟨_, k2 _ s3, Nat.le_refl _⟩, fun D hD => ?_⟩
            have hpl : ps.length ≤ 4000 := by rw [hps, List.length_map] at hll2; exact hll2
            have hpp : ∀ p ∈ ps, p.length ≤ 4000 := fun p hp => by
              have := (hls2 (dtF ++ p) (by rw [hps]; exact List.mem_map.mpr ⟨p, hp, rfl⟩)).1
              rw [List.length_append] at this; omega
            have ej : V.str (Txt.join "\n" (ps.map mkS)) = sV (jn ps) := sV_of (by
              rw [join_jn, List.map_map]
              have : ((fun (y : Str) => y.cps.toList) ∘ mkS) = id := by funext l; simp [mkS]
              rw [this, List.map_id])
            have hsum := sum_le ps hpp
            have hsz : ((ps.map mkS).map (fun z : Str => z.length)).sum ≤ 16000000 := by
              have e2 : ((fun (z : Str) => z.length) ∘ mkS) = List.length := by funext l; simp [mkS, Str.length]
              rw [List.map_map, e2]
              have := Nat.mul_le_mul_right 4000 hpl
              omega
            refine ⟨"\n", D, ps.map mkS, rfl, rfl, ?_, ?_, ?_⟩
            · rw [List.map_map (g := V.str)]; exact SqL.ofL upd_same
            · have e : ("\n" : Str).length = 1 := by decide +kernel
              rw [e, List.length_map]
              omega
            rw [ej]
            have hjl : (⟨(jn ps).toArray⟩ : Str).length ≤ sizeLine := by
              have h1 := jn_len hpp
              have h2 := Nat.mul_le_mul_right 4001 hpl
              have : (⟨(jn ps).toArray⟩ : Str).length = (jn ps).length := by simp [Str.length]
              rw [this, sizeLine_eq]; omega
            have htl : (⟨t.toArray⟩ : Str).length ≤ sizeLine := szm (by have := g1.1; rw [List.length_append] at this; omega)
            have s4 := Same.new (o := .lst (ps.map sV)) hD
            generalize upd H3 D (.lst (ps.map sV)) = H4 at s4 ⊢
            refine ⟨_, rfl, _, rfl, _, rfl, (show 3 ≤ sizeLine by decide), fun c hc => ?_⟩
            have s5 := Same.new (o := mT ⟨(n : Int), ⟨t.toArray⟩, ⟨(jn ps).toArray⟩⟩) hc
            have e5 : upd H4 c (mT ⟨(n : Int), ⟨t.toArray⟩, ⟨(jn ps).toArray⟩⟩) c = some (mT ⟨(n : Int), ⟨t.toArray⟩, ⟨(jn ps).toArray⟩⟩) := upd_same
            show (fun H5 : Hp => _) (upd H4 c (mT ⟨(n : Int), ⟨t.toArray⟩, ⟨(jn ps).toArray⟩⟩))
            generalize upd H4 c (mT ⟨(n : Int), ⟨t.toArray⟩, ⟨(jn ps).toArray⟩⟩) = H5 at s5 e5
            have sall := s1.trans (s2.trans (s3.trans (s4.trans s5)))
            refine ⟨_, rfl, .ref c, mD ⟨(n : Int), ⟨t.toArray⟩, ⟨(jn ps).toArray⟩⟩, rfl, msg_has e5, ?_, fun H6 s6 => ⟨_, rfl, ite2 (fun b => ?_) (fun b => ?_)⟩⟩
            · intro x hx
              simp only [List.mem_cons, List.not_mem_nil, or_false] at hx
              rcases hx with rfl | rfl | rfl
              · trivial
              · exact htl
              · exact hjl
            · refine ⟨by decide, q2 ?_ _ (sall.trans s6)⟩
              rw [hmin, if_neg fun o => ?_]
              rw [(msg_iff _).mpr o] at b
              cases b
            · have ok : OkM ⟨(n : Int), ⟨t.toArray⟩, ⟨(jn ps).toArray⟩⟩ := (msg_iff _).mp (by
                cases e : isMsg (mD ⟨(n : Int), ⟨t.toArray⟩, ⟨(jn ps).toArray⟩⟩) with
                | true => rfl
                | false => rw [e] at b; exact absurd rfl b)
              rw [if_pos ok] at hmin
              exact ⟨_, rfl, q1 _ hmin c _ (sall.trans s6) (s6 _ _ e5)⟩
        · refine q2 (minG_no fun m _ e => ?_) _ s1
          injection e with _ e
          injection e with e _
          exact ht _ (by rw [ct]; exact e)
      · refine q2 (minG_no fun m om e => ?_)
        injection e with e _
        have e' : l = dgT m.n.toNat := List.append_cancel_left e
        have h1 := om.1.1
        have h2 := om.1.2
        exact absurd e' (hno m.n.toNat (by omega) (by omega))
    · refine q2 (minG_no fun m _ e => ?_) _ (Same.refl _)
      injection e with e _
      exact hl _ (by rw [ci]; exact e)

abbrev s_Reader___init__ : Stmt := inClass (top 32) 0
abbrev N_Reader___init__ : List Str := ["self"]
theorem sc_Reader___init__ : FnScope N_Reader___init__ ["self"] (defScope s_Reader___init__) := ⟨rfl, rfl, rfl, by decide +kernel, rfl, by decide +kernel, by decide +kernel⟩
theorem ok_Reader_init {f C : Addr} {fd : FuncData} (F : Fun K "__init__" "Reader.__init__" s_Reader___init__ f fd) (TC : ReaderC K mg C) : FnOk P w K mg base CX0 1 f fd ["self"] (spDInit C) := by
  refine F.ok sc_Reader___init__ (fun vs H Q E h => ?_) (fun cdv A outer s H vs Q E hr h => ?_)
  · obtain ⟨p, dx, rfl, _⟩ := h; rfl
  · obtain ⟨p, dx, rfl, hp, q⟩ := h
    refine ⟨_, (pss_cons (k_sfld K (pv 0) pe_str rfl)
      (pss_one (k_sfld K (pv 0) (as_lst as_nil) rfl))), ?_⟩
    have l1 := putF_len "line_begun" (.str "") []
    have l0 : ([] : List (Str × V)).length = 0 := rfl
    refine ⟨_, rfl, p, C, dx, [], rfl, hp, TC.cl_Reader, TC.n_line_begun, (by show 0 < 1000; decide), ?_⟩
    refine ⟨Nat.zero_le _, fun r hr => ?_⟩
    have npr : p ≠ r := ne_of_none upd_same hr
    refine ⟨_, rfl, p, C, dx, _, rfl, (by rw [upd_ne npr]; exact upd_same), TC.cl_Reader, TC.n_lines_begun, by omega, ?_⟩
    rw [rdF_make]
    have hr0 : H r = none := by rw [upd_ne npr.symm] at hr; exact hr
    refine q r _ ⟨⟨dx, upd_same⟩, ?_⟩ ⟨fun b o e hb => ?_, fun b xs e => ?_, fun c hc => ?_⟩
    · rw [upd_ne npr.symm, upd_same]; rfl
    · have hb' : b ≠ p := by simpa using hb
      rw [upd_ne hb', upd_ne (ne_of_none e hr0), upd_ne hb']; exact e
    · have hb' : b ≠ p := ne_of e hp (by intro z; cases z)
      rw [upd_ne hb', upd_ne (ne_of_none e hr0), upd_ne hb']; exact e
    · simp only [List.mem_cons, List.not_mem_nil, or_false] at hc
      rcases hc with rfl | rfl
      · exact .inl (by simp)
      · exact .inr hr0
abbrev s_Reader_is_between : Stmt := inClass (top 32) 2
abbrev N_Reader_is_between : List Str := ["self"]
theorem sc_Reader_is_between : FnScope N_Reader_is_between ["self"] (defScope s_Reader_is_between) := ⟨rfl, rfl, rfl, by decide +kernel, rfl, by decide +kernel, by decide +kernel⟩
theorem ok_Reader_is_between {f C : Addr} {fd : FuncData} (F : Fun K "is_between" "Reader.is_between" s_Reader_is_between f fd) (TC : ReaderC K mg C) : FnOk P w K mg base CX0 1 f fd ["self"] (spBetween C) := by
  refine F.ok sc_Reader_is_between (fun vs H Q E h => ?_) (fun cdv A outer s H vs Q E hr h => ?_)
  · obtain ⟨p, l, ls, cur, rfl, _⟩ := h; rfl
  · obtain ⟨p, l, ls, cur, rfl, hD, q⟩ := h
    refine ⟨_, (pss_one (ps_ret (pe_and (pe_cmpR op_eq (k_fld K (pv 0) rfl) pe_str (nomark _)) (pe_one (pe_cmpR (k_eq0 K hr.units0) (k_fld K (pv 0) rfl) (as_lst as_nil) (nomark _)))))), ?_⟩
    obtain ⟨⟨dx, h1⟩, h2⟩ := hD
    refine ⟨_, rfl, p, C, dx, _, _, rfl, h1, TC.cl_Reader, TC.n_line_begun, rdF_line, rfl, _, rfl, ?_⟩
    have ee : decide (V.str (⟨cur.toArray⟩ : Str) = V.str "") = decide (cur = []) := by
      by_cases hc : cur = []
      · rw [decide_eq_true hc, hc]; exact decide_eq_true rfl
      · rw [decide_eq_false hc]
        refine decide_eq_false fun w => hc ?_
        injection w with w
        have := congrArg (fun z : Str => z.cps.toList) w
        have e0 : ("" : Str).cps.toList = [] := by decide +kernel
        rw [e0] at this
        simpa using this
    rw [ee]
    refine ite2 (fun b1 => ?_) (fun b1 => ?_)
    · refine ⟨_, rfl, p, C, dx, _, _, rfl, h1, TC.cl_Reader, TC.n_lines_begun, rdF_lines, Nat.zero_le _, fun r hr => ?_⟩
      have s1 := Same.new (o := .lst []) hr
      refine ⟨l, r, _, rfl, rfl, SqL.ofL (s1 _ _ h2), SqL.ofL upd_same, ?_⟩
      have z' := q _ s1
      have e : (decide (cur = []) && decide (ls = [])) = (ls.map sV).isEmpty := by
        rw [b1, Bool.true_and]
        cases ls with
        | nil => rfl
        | cons a r => rfl
      rw [e] at z'
      exact z'
    · have z' := q _ (Same.refl H)
      rw [Bool.not_eq_true] at b1
      rw [b1] at z'
      exact z'
def spFeedX (C CN : Addr) : Sp := fun vs H Q E => ∃ (p l : Addr) (z : Str) (ls : List (List Nat)) (cur : List Nat), vs = [.ref p, .str z] ∧ DAt C H p ls cur l ∧ 10 ∉ cur ∧ (∀ x ∈ ls, x.length ≤ 4000 ∧ 10 ∉ x) ∧ ls.length + cur.length + z.cps.toList.length ≤ 4000 ∧
  (∀ ms ls' cur', rdC ([], ls, cur) z.cps.toList = some (ms, ls', cur') → ∀ q ys l' H', DAt C H' p ls' cur' l' → Stp [p, l] H [p, l'] H' → H q = none → q ∉ [p, l'] → H' q = some (.lst ys) → Ms H' ys ms → Q (.ref q) H') ∧
  (rdC ([], ls, cur) z.cps.toList = none → ∀ H', Same H H' → E (.ref CN) none H')
theorem fold_to {α β : Type} {f : α → β → Option α} {a s s' : α} {D : List β} {i : Nat} (hi : i < D.length) (hs : (D.take i).foldlM f a = some s) (h : f s D[i] = some s') : (D.take (i + 1)).foldlM f a = some s' := by
  rw [List.take_add_one, List.getElem?_eq_getElem hi, List.foldlM_append, hs]
  show (f s D[i]).bind (fun q => some q) = _
  rw [h]; rfl
theorem fold_no {α β : Type} {f : α → β → Option α} {a s : α} {D : List β} {i : Nat} (hi : i < D.length) (hs : (D.take i).foldlM f a = some s) (h : f s D[i] = none) : D.foldlM f a = none := by
  have e : D = D.take i ++ D[i] :: D.drop (i + 1) := by rw [← List.drop_eq_getElem_cons hi, List.take_append_drop]
  rw [e, List.foldlM_append, hs]
  show (f s D[i]).bind (fun q => List.foldlM f q (D.drop (i + 1))) = none
  rw [h]; rfl
abbrev s_Reader_feed : Stmt := inClass (top 32) 1
abbrev N_Reader_feed : List Str := ["self", "piece", "found", "lines", "parts", "line"]
theorem sc_Reader_feed : FnScope N_Reader_feed ["self", "piece"] (defScope s_Reader_feed) := ⟨rfl, rfl, rfl, by decide +kernel, rfl, by decide +kernel, by decide +kernel⟩
theorem okx_Reader_feed {f C CN : Addr} {fd : FuncData} (F : Fun K "feed" "Reader.feed" s_Reader_feed f fd) (T : Txt mg) (TC : ReaderC K mg C) (cx_message_in : CalleeX P w K mg base 4 "message_in" ["lines"] (spMInX CN)) : FnOk P w K mg base (CXF P w) 5 f fd ["self", "piece"] (spFeedX C CN) := by
  refine F.okX sc_Reader_feed (fun vs H Q E h => ?_) (fun cdv A outer s H vs Q E hr h => ?_)
  · obtain ⟨p, l, z, ls, cur, rfl, _⟩ := h; rfl
  · obtain ⟨p, l, z, ls, cur, rfl, hD, hc, hlsx, hl, q, qe⟩ := h
    refine ⟨_, (pss_cons (ps_set (i := 2) sc_Reader_feed.nd rfl (Or.inl rfl) (as_lst as_nil))
      (pss_cons (ps_set (i := 3) sc_Reader_feed.nd rfl (Or.inl rfl) (as_callTy (k_list_of K) (by rfl) T.b_list PyProof.Rows.boot_list (at_cons (k_fld K (pv 0) rfl) as_nil)))
      (pss_cons (ps_set (i := 4) sc_Reader_feed.nd rfl (Or.inl rfl) (k_bm K PySem.F.plainAttrs_str PySem.F.slot_str_split PySem.F.type_str_split mt_split (pe_op op_add_str (k_fld K (pv 0) rfl) (pv 1)) (pa_cons pe_str pa_nil)))
      (pss_cons (ps_for PassesOwn.leaving rfl (k_it_list K (pe_slice (k_sl_list K) (pv 4) po_none (po_some (pe_un un_neg pe_int)))) (pg_name (i := 5) sc_Reader_feed.nd rfl (Or.inl rfl)) (pss_one (ps_if (PW.pt (pw_and (pt_cmpR op_eq (pv 5) pe_str (nomark _)) (pw_and1 (pt_cmpR (k_ne0 K hr.units0) (pv 3) (as_lst as_nil) (nomark _))))) (pss_cons (ps_expr (k_bm K PySem.F.plainAttrs_list PySem.F.slot_list_append PySem.F.type_list_append mt_append (pv 2) (pa_cons (as_fnX cx_message_in (hr.mono (by decide)) pass_on (at_cons (pv 3) as_nil)) pa_nil)))
      (pss_one (ps_set (i := 3) sc_Reader_feed.nd rfl (Or.inl rfl) (as_lst as_nil)))) (pss_one (ps_if (PW.pt (pw_and (pt_cmpR op_ne (pv 5) pe_str (nomark _)) (pw_and1 (pt_not (pt_val (k_bm K PySem.F.plainAttrs_str PySem.F.slot_str_startswith PySem.F.type_str_startswith mt_startswith (pv 5) (pa_cons (pe_gl T.g_LEFT_OUT_FRONT) pa_nil))))))) (pss_one (ps_expr (k_bm K PySem.F.plainAttrs_list PySem.F.slot_list_append PySem.F.type_list_append mt_append (pv 3) (pa_cons (pv 5) pa_nil)))) pss_nil)))))
      (pss_cons (k_sfld K (pv 0) (pe_ix (k_ix_list K) (pv 4) (pe_un un_neg pe_int) (fun _ _ => rfl)) rfl)
      (pss_cons (k_sfld K (pv 0) (pv 3) rfl)
      (pss_one (ps_ret (pv 2))))))))), ?_⟩
    have hwl := spl_len (cur ++ z.cps.toList)
    rw [List.length_append] at hwl
    obtain ⟨W, last, eW⟩ : ∃ W last, spl (cur ++ z.cps.toList) = W ++ [last] := by
      have := spl_ne (cur ++ z.cps.toList)
      exact ⟨_, _, (List.dropLast_concat_getLast this).symm⟩
    have hcat : ((⟨cur.toArray⟩ : Str) ++ z).cps.toList = cur ++ z.cps.toList := by rw [cat_cps]
    have hrun : rdC ([], ls, cur) z.cps.toList = (W.foldlM closeL ([], ls)).map fun q => (q.1, q.2, last) := by
      rw [run_lines _ _ _ _ hc, eW, List.dropLast_concat]
      congr 1
      funext q
      simp
    have hWx : ∀ x ∈ W, x.length ≤ 4000 ∧ 10 ∉ x := fun x hx => by
      have hx' : x ∈ spl (cur ++ z.cps.toList) := by rw [eW]; exact List.mem_append_left _ hx
      have h1 := spl_part _ x hx'
      rw [List.length_append] at h1
      exact ⟨by omega, spl_all _ x hx'⟩
    rw [eW] at hwl
    rw [List.length_append, List.length_singleton] at hwl
    obtain ⟨⟨dx, h1⟩, h2⟩ := id hD
    refine ⟨Nat.zero_le _, fun f0 hf0 => ?_⟩
    have s1 := Same.new (o := .lst []) hf0
    have e1 : upd H f0 (.lst []) f0 = some (.lst []) := upd_same
    generalize upd H f0 (.lst []) = H1 at s1 e1 ⊢
    refine ⟨_, rfl, p, C, dx, _, _, rfl, s1 _ _ h1, TC.cl_Reader, TC.n_lines_begun, rdF_lines, l, _, rfl, .inl (SqL.ofL (s1 _ _ h2)), fun l3 hl3 => ?_⟩
    have s2 := Same.new (o := .lst (ls.map sV)) hl3
    have e2 : upd H1 l3 (.lst (ls.map sV)) l3 = some (.lst (ls.map sV)) := upd_same
    have hl30 : H l3 = none := same_none s1 hl3
    have n30 : l3 ≠ f0 := fun e => by rw [e, e1] at hl3; cases hl3
    have e1' := s2 _ _ e1
    generalize upd H1 l3 (.lst (ls.map sV)) = H2 at s2 e2 e1' ⊢
    have s12 := s1.trans s2
    refine ⟨_, rfl, p, C, dx, _, _, rfl, s12 _ _ h1, TC.cl_Reader, TC.n_line_begun, rdF_line, _, rfl, _, _, rfl, rfl, ?_, rfl, _, "\n", rfl, rfl, by decide +kernel, ?_, fun r4 hr4 => ?_⟩
    · rw [← cps_len, ← cps_len, sizeLine_eq]; simp; simp at hl; omega
    · rw [← cps_len, hcat, List.length_append, sizeLine_eq]; omega
    rw [split_spl, hcat, eW]
    have s3 := Same.new (o := .lst (((W ++ [last]).map fun l => (⟨l.toArray⟩ : Str)).map V.str)) hr4
    have e3 : upd H2 r4 (.lst (((W ++ [last]).map fun l => (⟨l.toArray⟩ : Str)).map V.str)) r4 = some (.lst ((W ++ [last]).map sV)) := by rw [upd_same, List.map_map]; rfl
    generalize upd H2 r4 (.lst (((W ++ [last]).map fun l => (⟨l.toArray⟩ : Str)).map V.str)) = H3 at s3 e3 ⊢
    have s13 := s12.trans s3
    have e1'' := s3 _ _ e1'
    have e2'' := s3 _ _ e2
    have n43 : l3 ≠ r4 := fun e => by rw [e, hr4] at e2; cases e2
    have n40 : f0 ≠ r4 := fun e => by rw [e, hr4] at e1'; cases e1'
    refine ⟨_, rfl, 1, rfl, _, rfl, r4, _, rfl, SqL.ofL e3, fun r5 hr5 => ?_⟩
    have ecut : cutV ((W ++ [last]).map sV) none (some (-1)) = W.map sV := by rw [cut_last, List.map_append]; exact List.dropLast_concat
    rw [show (-(1 : Int)) = -1 from rfl, ecut]
    have s4 := Same.new (o := .lst (W.map sV)) hr5
    have e4 : upd H3 r5 (.lst (W.map sV)) r5 = some (.lst (W.map sV)) := upd_same
    have n53 : l3 ≠ r5 := fun e => by rw [e, hr5] at e2''; cases e2''
    have n50 : f0 ≠ r5 := fun e => by rw [e, hr5] at e1''; cases e1''
    have e34 := s4 _ _ e3
    have e14 := s4 _ _ e1''
    have e24 := s4 _ _ e2''
    generalize upd H3 r5 (.lst (W.map sV)) = H4 at s4 e4 e34 e14 e24 ⊢
    have s14 := s13.trans s4
    refine ⟨r5, rfl, ⟨_, SqL.ofL e4⟩, for_list (K := K) (a := r5) (xs := W.map sV) (fun i σ H' => ∃ (li : Addr) (o5 : Option V) (ys : List V) (msi : List Msg) (lsi : List (List Nat)), σ = [some (.ref p), some (.str z), some (.ref f0), some (.ref li), some (.ref r4), o5] ∧
        H' f0 = some (.lst ys) ∧ Ms H' ys msi ∧ H' li = some (.lst (lsi.map sV)) ∧ (W.take i).foldlM closeL ([], ls) = some (msi, lsi) ∧ Same H H' ∧ H' r4 = some (.lst ((W ++ [last]).map sV)) ∧ H' r5 = some (.lst (W.map sV)) ∧ li ≠ f0 ∧ H li = none ∧ li ≠ r4 ∧ li ≠ r5 ∧ msi.length ≤ i ∧ lsi.length ≤ ls.length + i ∧ ∀ x ∈ lsi, x.length ≤ 4000 ∧ 10 ∉ x)
      ⟨l3, none, [], [], ls, rfl, e14, Ms.nil, e24, rfl, s14, e34, e4, n30, hl30, n43, n53, Nat.le_refl _, Nat.le_refl _, hlsx⟩ (fun i σ H' _ ⟨_, _, _, _, _, _, _, _, _, _, _, _, h5, _⟩ => SqL.ofL h5) ?_ ?_⟩
    · rintro i y σ H' hi ⟨li, o5, ys, msi, lsi, rfl, hf, hM, hli, hfo, sH, h4, h5, nl0, hli0, nl4, nl5, hmi, hlsi, hlx⟩
      rw [List.getElem?_map] at hi
      have hiW : i < W.length := by
        cases e : W[i]? with
        | none => rw [e] at hi; cases hi
        | some w => exact (List.getElem?_eq_some_iff.mp e).1
      rw [List.getElem?_eq_getElem hiW] at hi
      obtain rfl := Option.some.inj hi
      have fto := fun s' h => fold_to (s' := s') hiW hfo h
      have fno := fun h => fold_no hiW hfo h
      have hlx2 := hWx W[i] (List.getElem_mem hiW)
      generalize W[i] = line at fto fno hlx2 ⊢
      have ee : decide (sV line = V.str "") = decide (line = []) := by
        have e0 : ("" : Str).cps.toList = [] := by decide +kernel
        by_cases hc : line = []
        · rw [decide_eq_true hc, hc]; exact decide_eq_true rfl
        · rw [decide_eq_false hc]
          refine decide_eq_false fun w => hc ?_
          injection w with w
          have := congrArg (fun z : Str => z.cps.toList) w
          rw [e0] at this
          simpa using this
      refine rd_name ?_
      refine ⟨_, rfl, rfl, ?_⟩
      refine ⟨_, rfl, ?_⟩
      rw [ee]
      unfold closeL at fto fno
      have c1 : (":" : Str) = ⟨#[58]⟩ := by decide +kernel
      by_cases hne : line = []
      · rw [if_pos hne] at fto fno
        refine ite2 (fun _ => ?_) (fun z => absurd (decide_eq_true hne) z)
        refine ⟨_, rfl, Nat.zero_le _, fun r hr => ?_⟩
        have t1 := Same.new (o := .lst []) hr
        have er : upd H' r (.lst []) r = some (.lst []) := upd_same
        have hf1 := t1 _ _ hf
        have hli1 := t1 _ _ hli
        have h41 := t1 _ _ h4
        have h51 := t1 _ _ h5
        have hM1 := hM.same t1
        have sH1 := sH.trans t1
        generalize upd H' r (.lst []) = G1 at t1 er hf1 hli1 h41 h51 hM1 sH1 ⊢
        refine ⟨li, r, _, rfl, rfl, SqL.ofL hli1, SqL.ofL er, _, rfl, ?_⟩
        by_cases hls : lsi = []
        · rw [if_pos hls] at fto
          have hfo' := fto _ rfl
          subst hls
          refine iteF ?_
          have eq : sV line = V.str "" := of_decide_eq_true (by rw [ee]; exact decide_eq_true hne)
          refine ⟨_, rfl, rfl, _, rfl, ite2 (fun z => absurd eq (by simpa using z)) (fun _ => ?_)⟩
          refine iteF ?_
          exact ⟨li, _, ys, msi, [], rfl, hf1, hM1, hli1, hfo', sH1, h41, h51, nl0, hli0, nl4, nl5, Nat.le_succ_of_le hmi, Nat.zero_le _, nofun⟩
        · rw [if_neg hls] at fto fno
          dsimp only at fto fno
          refine ite2 (fun _ => ?_) (fun z => ?_)
          · refine ⟨_, rfl, .inl ⟨rfl, _, SqL.ofL hf1⟩, _, rfl, li, lsi, rfl, hli1, hlx, by omega, fun m hm c G2 u2 hc => ?_, fun hm => ?_⟩
            · have hfo' := fto (msi ++ [m], []) (by rw [hm]; rfl)
              refine ⟨f0, ys, .ref c, rfl, rfl, u2 _ _ hf1, (by rw [hM1.len, sizeLine_eq]; omega), ?_⟩
              have st3 : Stp [f0] G2 [f0] (upd G2 f0 (.lst (ys ++ [.ref c]))) := Stp.put (u2 _ _ hf1) (by intro xs w; cases w) (by simp)
              have hM3 : Ms (upd G2 f0 (.lst (ys ++ [.ref c]))) (ys ++ [.ref c]) (msi ++ [m]) := ((hM1.same u2).append (Ms.one hc)).step st3
              have hf3 : upd G2 f0 (.lst (ys ++ [.ref c])) f0 = some (.lst (ys ++ [.ref c])) := upd_same
              have h43 : upd G2 f0 (.lst (ys ++ [.ref c])) r4 = some (.lst ((W ++ [last]).map sV)) := by rw [upd_ne n40.symm]; exact u2 _ _ h41
              have h53 : upd G2 f0 (.lst (ys ++ [.ref c])) r5 = some (.lst (W.map sV)) := by rw [upd_ne n50.symm]; exact u2 _ _ h51
              have sH3 : Same H (upd G2 f0 (.lst (ys ++ [.ref c]))) := same_upd (sH1.trans u2) hf0
              generalize upd G2 f0 (.lst (ys ++ [.ref c])) = G3 at st3 hM3 hf3 h43 h53 sH3 ⊢
              refine ⟨Nat.zero_le _, fun l' hl' => ?_⟩
              have t4 := Same.new (o := .lst []) hl'
              refine ⟨l', _, ys ++ [.ref c], msi ++ [m], [], rfl, t4 _ _ hf3, hM3.same t4, upd_same, hfo', sH3.trans t4, t4 _ _ h43, t4 _ _ h53, ?_, same_none sH3 hl', ?_, ?_, ?_, Nat.zero_le _, nofun⟩
              · intro e; rw [e, hf3] at hl'; cases hl'
              · intro e; rw [e, h43] at hl'; cases hl'
              · intro e; rw [e, h53] at hl'; cases hl'
              · rw [List.length_append, List.length_singleton]; omega
            · have hno : W.foldlM closeL ([], ls) = none := fno (by rw [hm]; rfl)
              rw [hno] at hrun
              exact fun H5 s5 => qe hrun _ (sH1.trans s5)
          · refine absurd ?_ z
            cases lsi with
            | nil => exact absurd rfl hls
            | cons a q => rfl
      · rw [if_neg hne] at fto
        refine ite2 (fun z => absurd (of_decide_eq_true z) hne) (fun _ => ?_)
        refine iteF ?_
        have neq : sV line ≠ V.str "" := fun w => hne (of_decide_eq_true (by rw [← ee]; exact decide_eq_true w))
        refine ⟨_, rfl, rfl, _, rfl, ite2 (fun _ => ?_) (fun z => absurd (by simpa using neq) z)⟩
        refine ⟨_, rfl, rfl, _, ":", rfl, rfl, ?_⟩
        rw [c1, starts_one]
        by_cases h58 : line.head? = some 58
        · rw [if_pos h58] at fto
          have hfo' := fto _ rfl
          have ed : decide ((⟨line.toArray⟩ : Str).cps.toList.head? = some 58) = true := decide_eq_true (by simpa using h58)
          rw [ed]
          refine ⟨_, rfl, iteF ?_⟩
          exact ⟨li, _, ys, msi, lsi, rfl, hf, hM, hli, hfo', sH, h4, h5, nl0, hli0, nl4, nl5, Nat.le_succ_of_le hmi, Nat.le_succ_of_le hlsi, hlx⟩
        · rw [if_neg h58] at fto
          have hfo' := fto _ rfl
          have ed : decide ((⟨line.toArray⟩ : Str).cps.toList.head? = some 58) = false := decide_eq_false (by simpa using h58)
          rw [ed]
          refine ⟨_, rfl, ite2 (fun _ => ?_) (fun z => absurd rfl z)⟩
          refine ⟨_, rfl, .inl ⟨rfl, _, SqL.ofL hli⟩, _, rfl, li, _, _, rfl, rfl, hli, (by rw [List.length_map, sizeLine_eq]; omega), ?_⟩
          have st3 : Stp [li] H' [li] (upd H' li (.lst (lsi.map sV ++ [sV line]))) := Stp.put hli (by intro xs w; cases w) (by simp)
          refine ⟨li, _, ys, msi, lsi ++ [line], rfl, by rw [upd_ne nl0.symm]; exact hf, hM.step st3, by rw [upd_same, List.map_append]; rfl, hfo', same_upd sH hli0, by rw [upd_ne nl4.symm]; exact h4, by rw [upd_ne nl5.symm]; exact h5, nl0, hli0, nl4, nl5, Nat.le_succ_of_le hmi, ?_, fun x hx => ?_⟩
          · rw [List.length_append, List.length_singleton]; omega
          · rcases List.mem_append.mp hx with hx | hx
            · exact hlx x hx
            · rw [List.mem_singleton.mp hx]; exact hlx2
    · rintro σ H' ⟨li, o5, ys, msi, lsi, rfl, hf, hM, hli, hfo, sH, h4, h5, nl0, hli0, nl4, nl5, hmi, hlsi, hlx⟩
      rw [List.length_map, List.take_length] at hfo
      rw [hfo] at hrun
      refine ⟨_, rfl, 1, rfl, r4, _, -1, _, rfl, rfl, SqL.ofL h4, (by rw [List.map_append]; exact atI_last _ _), _, rfl, p, C, dx, _, rfl, sH _ _ h1, TC.cl_Reader, TC.n_line_begun, (by show 2 < 1000; decide), ?_⟩
      refine ⟨_, rfl, _, rfl, p, C, dx, _, rfl, upd_same, TC.cl_Reader, TC.n_lines_begun, (by have := putF_len "line_begun" (sV last) (rdF ⟨cur.toArray⟩ l); show _ < 1000; unfold rdF at this ⊢; simp at this; omega), ?_⟩
      rw [show putF "lines_begun" (.ref li) (putF "line_begun" (sV last) (rdF ⟨cur.toArray⟩ l)) = rdF ⟨last.toArray⟩ li from rdF_set]
      have npl : p ≠ li := fun e => by rw [e, hli0] at h1; cases h1
      have npf : p ≠ f0 := fun e => by rw [e, hf0] at h1; cases h1
      refine ⟨_, rfl, q msi lsi last hrun f0 ys li _ ⟨⟨dx, upd_same⟩, ?_⟩ ⟨fun b o e hb => ?_, fun b xs e => ?_, fun c hc => ?_⟩ hf0 ?_ ?_ ?_⟩
      · rw [upd_ne npl.symm, upd_ne npl.symm]; exact hli
      · have hb' : b ≠ p := fun w => hb (by simp [w])
        rw [upd_ne hb', upd_ne hb']; exact sH _ _ e
      · have hb' : b ≠ p := ne_of e h1 (by intro z; cases z)
        rw [upd_ne hb', upd_ne hb']; exact sH _ _ e
      · simp only [List.mem_cons, List.not_mem_nil, or_false] at hc
        rcases hc with rfl | rfl
        · exact .inl (by simp)
        · exact .inr hli0
      · simp only [List.mem_cons, List.not_mem_nil, or_false, not_or]
        exact ⟨npf.symm, nl0.symm⟩
      · rw [upd_ne npf.symm, upd_ne npf.symm]; exact hf
      · refine (hM.step (Stp.put (ps := [p]) (sH _ _ h1) (by intro xs w; cases w) (by simp))).step (Stp.put (ps := [p]) upd_same (by intro xs w; cases w) (by simp))
theorem close_all {st st' : List Msg × List (List Nat)} {line : List Nat} (h : closeL st line = some st') (h0 : ∀ m ∈ st.1, OkM m) : (∀ m ∈ st'.1, OkM m) ∧ st'.1.length ≤ st.1.length + 1 := by
  unfold closeL at h
  split at h
  · split at h
    · injection h with h; rw [← h]; exact ⟨h0, by omega⟩
    · obtain ⟨m, hm, e⟩ := Option.map_eq_some_iff.mp h
      rw [← e]
      refine ⟨fun k hk => ?_, by simp⟩
      rcases List.mem_append.mp hk with z | z
      · exact h0 k z
      · rw [List.mem_singleton.mp z]; exact (minG_some hm).2
  · split at h
    · injection h with h; rw [← h]; exact ⟨h0, by omega⟩
    · injection h with h; rw [← h]; exact ⟨h0, by simp⟩
theorem run_okm : ∀ (p : List Nat) {st st' : List Msg × List (List Nat) × List Nat}, rdC st p = some st' → (∀ m ∈ st.1, OkM m) → (∀ m ∈ st'.1, OkM m) ∧ st'.1.length ≤ st.1.length + p.length
  | [], st, st', h, h0 => by
    rw [run_nil] at h
    injection h with h
    rw [← h]
    exact ⟨h0, by simp⟩
  | c :: r, st, st', h, h0 => by
    rw [run_cons] at h
    obtain ⟨q, h1, h2⟩ := Option.bind_eq_some_iff.mp h
    unfold stepC at h1
    split at h1
    · obtain ⟨z, e1, e2⟩ := Option.map_eq_some_iff.mp h1
      have g := close_all e1 h0
      subst e2
      obtain ⟨g1, g2⟩ := run_okm r h2 g.1
      refine ⟨g1, ?_⟩
      have g3 := g.2
      simp at g2 g3 ⊢; omega
    · injection h1 with h1
      subst h1
      obtain ⟨g1, g2⟩ := run_okm r h2 h0
      refine ⟨g1, ?_⟩
      simp at g2 ⊢; omega
def rdA (cs : List Nat) : Option (List Msg) := (rdC ([], [], []) cs).bind fun st => if (st.1.map frC).flatten = cs then some st.1 else none
theorem rdA_frames {ms : List Msg} (h : ∀ m ∈ ms, OkM m) : rdA (ms.map frC).flatten = some ms := by
  unfold rdA
  rw [run_segs (segs_frames h) []]
  simp
theorem rdA_some {cs : List Nat} {ms : List Msg} (h : rdA cs = some ms) : cs = (ms.map frC).flatten ∧ ∀ m ∈ ms, OkM m := by
  unfold rdA at h
  obtain ⟨st, h1, h2⟩ := Option.bind_eq_some_iff.mp h
  split at h2
  · next e =>
    injection h2 with h2
    subst h2
    exact ⟨e.symm, (run_okm _ h1 nofun).1⟩
  · cases h2
def spReadX (CN : Addr) : Sp := fun vs H Q E => ∃ (z : Str), vs = [.str z] ∧ z.cps.toList.length ≤ 4000 ∧
  (∀ ms, rdA z.cps.toList = some ms → ∀ q ys H', Same H H' → H q = none → H' q = some (.lst ys) → Ms H' ys ms → Q (.ref q) H') ∧ (rdA z.cps.toList = none → ∀ H', Same H H' → E (.ref CN) none H')
abbrev s_read : Stmt := top 33
abbrev N_read : List Str := ["text", "messages"]
theorem sc_read : FnScope N_read ["text"] (defScope s_read) := ⟨rfl, rfl, rfl, by decide +kernel, rfl, by decide +kernel, by decide +kernel⟩
theorem okx_read {f C CN : Addr} {fd : FuncData} (F : Fun K "read" "read" s_read f fd) (TC : ReaderC K mg C) (x_NoText : Exc K mg "NoText" CN) (i_Reader : CalleeI P w K mg base 1 C ["self"] (spDInit C)) (mx_feed : CalleeMX P w K mg base 5 C "feed" ["self", "piece"] (spFeedX C CN)) (c_stream_text : Callee P w K mg base 4 "stream_text" ["messages"] spSmT) : FnOk P w K mg base (CXF P w) 6 f fd ["text"] (spReadX CN) := by
  refine F.okX sc_read (fun vs H Q E h => ?_) (fun cdv A outer s H vs Q E hr h => ?_)
  · obtain ⟨z, rfl, _⟩ := h; rfl
  · obtain ⟨z, rfl, hz, q1, q2⟩ := h
    refine ⟨_, (pss_cons (ps_set (i := 1) sc_read.nd rfl (Or.inl rfl) (as_methX mx_feed TC.cl_Reader (hr.mono (by decide)) pass_on (as_make0 i_Reader (hr.mono (by decide)) TC.mg_Reader) (at_cons (pv 0) as_nil)))
      (pss_cons (ps_if (pt_cmpR op_ne (as_fn c_stream_text (hr.mono (by decide)) (at_cons (pv 1) as_nil)) (pv 0) (nomark _)) (pss_one (ps_raise x_NoText (at_cons pe_str as_nil))) pss_nil)
      (pss_one (ps_ret (pv 1))))), ?_⟩
    have sv : ∀ X : List Nat, sV X = V.str z ↔ X = z.cps.toList := fun X => by
      refine ⟨fun e => ?_, fun e => by rw [e]; unfold sV; rw [str_mk]⟩
      injection e with e
      rw [← e]
    intro p dx np nd nx
    have o1 := Stp.obj (o := .own p) (o' := .ins C dx []) np nd
    refine ⟨p, dx, rfl, upd_same, fun l1 H1 hD1 st1 => ⟨rfl, ?_⟩⟩
    have st := o1.trans st1
    obtain ⟨dx2, hob⟩ := id hD1.ob
    refine ⟨p, dx2, _, rfl, hob, rdF_no (by decide +kernel) (by decide +kernel), _, rfl, p, l1, z, [], [], rfl, hD1, nofun, nofun, by show 0 + 0 + _ ≤ _; omega, fun ms ls' cur' hrun a ys l' H2 hD2 st2 ha na ha2 hM2 => ?_, fun hno H2 s2 => q2 (by unfold rdA; rw [hno]; rfl) _ (st.same.trans s2)⟩
    have st12 := st.trans st2
    have hok := run_okm _ hrun nofun
    have hml : ms.length ≤ 0 + z.cps.toList.length := hok.2
    refine ⟨_, rfl, a, ys, ms, rfl, ha2, hM2, by omega, hok.1, fun H3 t3 => ⟨_, rfl, rfl, _, rfl, ite2 (fun b => ?_) (fun b => ?_)⟩⟩
    · refine ⟨by decide, q2 ?_ _ (st12.same.trans t3)⟩
      unfold rdA
      rw [hrun]
      show (if (ms.map frC).flatten = z.cps.toList then some ms else none) = none
      rw [if_neg fun e => ?_]
      simp [(sv _).mpr e] at b
    · have e : (ms.map frC).flatten = z.cps.toList := by
        refine Classical.byContradiction fun ne => b ?_
        rw [decide_eq_false (fun w => ne ((sv _).mp w))]; rfl
      have hA : rdA z.cps.toList = some ms := by
        unfold rdA
        rw [hrun]
        show (if (ms.map frC).flatten = z.cps.toList then some ms else none) = some ms
        rw [if_pos e]
      exact ⟨_, rfl, q1 ms hA a ys H3 (st12.same.trans t3) (same_none st.same ha) (t3 _ _ ha2) (hM2.same t3)⟩

def wordF (cs : List Nat) : Str := Txt.join "" (cs.map fun c => (⟨#[c]⟩ : Str))
def spWord (K : PySem.W.Frag) : Sp := fun vs H Q _ => ∃ (a : Addr) (ns : List Int) (k m : Int), vs = [.ref a, .int k, .int m] ∧ SqL K H a (ns.map V.int) ∧ ns.length ≤ 63 ∧ 0 ≤ k ∧ 0 < m ∧ m ≤ 9 ∧ ∀ cs H', Same H H' → 1 ≤ List.length cs → (cs.length : Int) ≤ m → (∀ c ∈ cs, 97 ≤ c ∧ c ≤ 122) → Q (.str (wordF cs)) H'
theorem letter_at {x : Int} (h0 : 0 ≤ x) (h1 : x < 26) : ∃ c, atI ("abcdefghijklmnopqrstuvwxyz" : Str).cps.toList x = some c ∧ 97 ≤ c ∧ c ≤ 122 := by
  have key : ∀ y : Fin 26, atI ("abcdefghijklmnopqrstuvwxyz" : Str).cps.toList (y.val : Int) = some (97 + y.val) := by decide +kernel
  have := key ⟨x.toNat, by omega⟩
  simp only at this
  rw [Int.toNat_of_nonneg h0] at this
  exact ⟨_, this, by omega, by omega⟩
theorem join_codes : ∀ ys : List Str, (Txt.join "" ys).cps.toList = (ys.map (·.cps.toList)).flatten := by
  have key : ∀ ys : List Str, (Str.join "" ys).cps.toList = (ys.map (·.cps.toList)).flatten := by
    intro ys
    induction ys with
    | nil => rfl
    | cons y r ih =>
      cases r with
      | nil => simp [Str.join]
      | cons z q =>
        have e : Str.join "" (y :: z :: q) = y ++ ("" : Str) ++ Str.join "" (z :: q) := rfl
        have e2 : (y ++ ("" : Str) ++ Str.join "" (z :: q)).cps.toList = y.cps.toList ++ (Str.join "" (z :: q)).cps.toList := by
          show ((y.cps ++ ("" : Str).cps) ++ (Str.join "" (z :: q)).cps).toList = _
          have e0 : ("" : Str).cps = #[] := by decide +kernel
          rw [e0]; simp
        rw [e, e2, ih]
        simp
  intro ys
  unfold Txt.join
  rw [StrLaws.glued_eq_join]
  exact key ys
theorem word_codes (cs : List Nat) : (wordF cs).cps.toList = cs := by
  unfold wordF
  rw [join_codes, List.map_map]
  induction cs with
  | nil => rfl
  | cons c r ih => simp only [List.map_cons, List.flatten_cons, ih]; rfl
abbrev s_l_word : Stmt := top 37
abbrev N_l_word : List Str := ["_law_script", "_law_at", "_law_most", "_law_letters"]
theorem sc_l_word : FnScope N_l_word ["_law_script", "_law_at", "_law_most"] (defScope s_l_word) := ⟨rfl, rfl, rfl, by decide +kernel, rfl, by decide +kernel, by decide +kernel⟩
theorem ok_l_word {f : Addr} {fd : FuncData} (F : Fun K "_law_word" "_law_word" s_l_word f fd) (T : Txt mg) (c_l_drawn : Callee P w K mg base 2 "_law_drawn" ["_law_script", "_law_k", "_law_many"] (spDrawn K)) :
    FnOk P w K mg base CX0 3 f fd ["_law_script", "_law_at", "_law_most"] (spWord K) := by
  refine F.ok sc_l_word (fun vs H Q E h => ?_) (fun cdv A outer s H vs Q E hr h => ?_)
  · obtain ⟨a, ns, k, m, rfl, _⟩ := h; rfl
  · obtain ⟨a, ns, k, m, rfl, hS, hlen, hk, hm, hm9, q⟩ := h
    refine ⟨_, (pss_cons (ps_set (i := 3) sc_l_word.nd rfl (Or.inr rfl) pe_str)
      (pss_one (ps_ret (k_bm K PySem.F.plainAttrs_str PySem.F.slot_str_join PySem.F.type_str_join (k_join K) pe_str (pa_cons (pe_comp (N' := ["_law_k", "_law_letters", "_law_script", "_law_at"]) (ix := [none, some 3, some 0, some 1]) (own := [0]) rfl (cs_of (osc := defScope s_l_word) (ON := N_l_word) rfl rfl (by decide +kernel)) (by decide) (pi_range1 (by rfl) T.b_range (pa_cons (pe_op op_add pe_int (as_fn c_l_drawn (hr.mono (by decide)) (at_cons (pv 0) (as_cons (pv 1) (as_cons (pv 2) as_nil))))) pa_nil)) (fun _ _ _ _ => (pg_name (i := 0) (show (["_law_k", "_law_letters", "_law_script", "_law_at"] : List Str).Nodup by decide +kernel) rfl (Or.inl rfl))) own_name (fun _ _ _ _ => pifs_nil) (fun _ _ _ _ => (pe_ix ix_str (pv 1) (as_fn c_l_drawn (hr.mono (by decide)) (at_cons (pv 2) (as_cons (pe_op op_add (pe_op op_add (pv 3) pe_int) (pv 0)) (as_cons pe_int as_nil)))) (fun _ _ => rfl)))) pa_nil))))), ?_⟩
    have h0 := drawn_nn ns k (m := m) hm
    have h5 := drawn_lt ns k (m := m) hm
    refine ⟨rfl, _, rfl, _, rfl, _, rfl, a, ns, k, m, rfl, hS, hlen, hk, hm, fun H1 s1 => ?_⟩
    generalize drawnF ns k m = d at h0 h5 ⊢
    refine ⟨_, _, rfl, rfl, _, rfl, by omega, by omega, (1 + d).toNat, fun i ys H2 => Same H H2 ∧ ∃ cs : List Nat, ys = cs.map (fun c => V.str ⟨#[c]⟩) ∧ cs.length = i ∧ ∀ c ∈ cs, 97 ≤ c ∧ c ≤ 122, ?_, ⟨s1, [], rfl, rfl, fun c h => absurd h List.not_mem_nil⟩, ?_, ?_⟩
    · rw [sizeLine_eq]; omega
    · rintro i ys H2 hi ⟨s2, cs, rfl, hl, hc⟩
      refine ⟨hi, fun x H3 => ?_⟩
      rintro ⟨rfl, rfl⟩
      refine rd_name (rd_yes (iteT ?_))
      have g0 := drawn_nn ns (k + 1 + (0 + (i : Int))) (m := 26) (by decide)
      have g5 := drawn_lt ns (k + 1 + (0 + (i : Int))) (m := 26) (by decide)
      refine ⟨_, rfl, _, rfl, _, rfl, _, _, rfl, rfl, _, rfl, _, _, rfl, rfl, a, ns, k + 1 + (0 + (i : Int)), 26, rfl, s2.seq hS, hlen, by omega, by decide, fun H4 s4 => ?_⟩
      obtain ⟨c, hat, hc1, hc2⟩ := letter_at g0 g5
      refine ⟨_, _, _, rfl, rfl, by decide, hat, s2.trans s4, cs ++ [c], by rw [List.map_append]; rfl, by rw [List.length_append, hl]; rfl, fun x hx => ?_⟩
      rcases List.mem_append.mp hx with z | z
      · exact hc x z
      · rw [List.mem_singleton] at z; rw [z]; exact ⟨hc1, hc2⟩
    · rintro ys H2 ⟨s2, cs, rfl, hl, hc⟩
      refine ⟨Nat.le_refl _, fun D hD => ⟨"", D, cs.map (fun c => (⟨#[c]⟩ : Str)), rfl, rfl, ?_, ?_, q cs _ (s2.trans (Same.new hD)) (by omega) (by omega) hc⟩⟩
      · refine SqL.ofL ?_
        rw [upd_same, List.map_map]; rfl
      · have h2 : ((cs.map (fun c => (⟨#[c]⟩ : Str))).map (·.length)).sum = cs.length := by
          clear hl hc
          induction cs with
          | nil => rfl
          | cons x r ih => simp only [List.map_cons, List.sum_cons, List.length_cons, ih]; show 1 + _ = _; omega
        have h3 : ("" : Str).length = 0 := by decide +kernel
        rw [h2, h3, List.length_map]; omega

def spWide (K : PySem.W.Frag) : Sp := fun vs H Q _ => ∃ (a : Addr) (ns : List Int) (k m : Int), vs = [.ref a, .int k, .int m] ∧ SqL K H a (ns.map V.int) ∧ ns.length ≤ 63 ∧ 0 ≤ k ∧ 0 ≤ m ∧ m ≤ 9 ∧ ∀ g ys ms H', Same H H' → H g = none → H' g = some (.lst ys) → Ms H' ys ms → (List.length ms : Int) ≤ m → (∀ x ∈ ms, OkM x) → Q (.ref g) H'
theorem sign_at {x : Int} (h0 : 0 ≤ x) (h1 : x < 28) : ∃ c, atI ("abcdefghijklmnopqrstuvwxyz \n" : Str).cps.toList x = some c ∧ ((97 ≤ c ∧ c ≤ 122) ∨ c = 32 ∨ c = 10) := by
  have key : ∀ y : Fin 28, ∃ c ∈ List.range' 97 26 ++ [32, 10], atI ("abcdefghijklmnopqrstuvwxyz \n" : Str).cps.toList (y.val : Int) = some c := by decide +kernel
  obtain ⟨c, hc, e⟩ := key ⟨x.toNat, by omega⟩
  simp only at e
  rw [Int.toNat_of_nonneg h0] at e
  refine ⟨c, e, ?_⟩
  rcases List.mem_append.mp hc with h | h
  · exact .inl (by rw [List.mem_range'_1] at h; omega)
  · simp only [List.mem_cons, List.not_mem_nil, or_false] at h; exact .inr h
abbrev s_l_wide : Stmt := top 38
abbrev N_l_wide : List Str := ["_law_script", "_law_at", "_law_most", "_law_found", "_law_signs", "_law_k", "_law_here", "_law_number", "_law_said"]
theorem sc_l_wide : FnScope N_l_wide ["_law_script", "_law_at", "_law_most"] (defScope s_l_wide) := ⟨rfl, rfl, rfl, by decide +kernel, rfl, by decide +kernel, by decide +kernel⟩
theorem ok_l_wide {f : Addr} {fd : FuncData} (F : Fun K "_law_wide" "_law_wide" s_l_wide f fd) (T : Txt mg) (c_l_drawn : Callee P w K mg base 2 "_law_drawn" ["_law_script", "_law_k", "_law_many"] (spDrawn K)) (c_l_word : Callee P w K mg base 3 "_law_word" ["_law_script", "_law_at", "_law_most"] (spWord K)) :
    FnOk P w K mg base CX0 4 f fd ["_law_script", "_law_at", "_law_most"] (spWide K) := by
  refine F.ok sc_l_wide (fun vs H Q E h => ?_) (fun cdv A outer s H vs Q E hr h => ?_)
  · obtain ⟨a, ns, k, m, rfl, _⟩ := h; rfl
  · obtain ⟨a, ns, k, m, rfl, hS, hlen, hk, hm, hm9, q⟩ := h
    refine ⟨_, (pss_cons (ps_set (i := 3) sc_l_wide.nd rfl (Or.inl rfl) (as_lst as_nil))
      (pss_cons (ps_set (i := 4) sc_l_wide.nd rfl (Or.inr rfl) pe_str)
      (pss_cons (ps_for PassesOwn.never rfl (pi_range1 (by rfl) T.b_range (pa_cons (as_fn c_l_drawn (hr.mono (by decide)) (at_cons (pv 0) (as_cons (pv 1) (as_cons (pe_op op_add (pv 2) pe_int) as_nil)))) pa_nil)) (pg_name (i := 5) sc_l_wide.nd rfl (Or.inl rfl)) (pss_cons (ps_set (i := 6) sc_l_wide.nd rfl (Or.inr rfl) (pe_op op_add (pe_op op_add (pv 1) pe_int) (pe_op op_mul pe_int (pv 5))))
      (pss_cons (ps_set (i := 7) sc_l_wide.nd rfl (Or.inl rfl) (pe_ix (k_ix_list K) (as_lst (as_cons (pe_op op_add (pv 5) pe_int) (as_cons pe_int (as_cons (pe_op op_add pe_int (as_fn c_l_drawn (hr.mono (by decide)) (at_cons (pv 0) (as_cons (pv 6) (as_cons pe_int as_nil))))) as_nil)))) (as_fn c_l_drawn (hr.mono (by decide)) (at_cons (pv 0) (as_cons (pe_op op_add (pv 6) pe_int) (as_cons pe_int as_nil)))) (fun _ _ => rfl)))
      (pss_cons (ps_comp (i := 8) sc_l_wide.nd rfl (Or.inl rfl) (N' := ["_law_j", "_law_signs", "_law_script", "_law_here"]) (ix := [none, some 4, some 0, some 6]) (own := [0]) rfl (cs_of (osc := defScope s_l_wide) (ON := N_l_wide) rfl rfl (by decide +kernel)) (by decide) (pi_range1 (by rfl) T.b_range (pa_cons (as_fn c_l_drawn (hr.mono (by decide)) (at_cons (pv 0) (as_cons (pe_op op_add (pv 6) pe_int) (as_cons pe_int as_nil)))) pa_nil)) (fun _ _ _ _ => (pg_name (i := 0) (show (["_law_j", "_law_signs", "_law_script", "_law_here"] : List Str).Nodup by decide +kernel) rfl (Or.inl rfl))) own_name (fun _ _ _ _ => pifs_nil) (fun _ _ _ _ => (pe_ix ix_str (pv 1) (as_fn c_l_drawn (hr.mono (by decide)) (at_cons (pv 2) (as_cons (pe_op op_add (pe_op op_add (pv 3) pe_int) (pv 0)) (as_cons pe_int as_nil)))) (fun _ _ => rfl))))
      (pss_one (ps_expr (k_bm K PySem.F.plainAttrs_list PySem.F.slot_list_append PySem.F.type_list_append mt_append (pv 3) (pa_cons (as_tup (as_cons (pv 7) (as_cons (as_fn c_l_word (hr.mono (by decide)) (at_cons (pv 0) (as_cons (pe_op op_add (pv 6) pe_int) (as_cons pe_int as_nil)))) (as_cons (k_bm K PySem.F.plainAttrs_str PySem.F.slot_str_join PySem.F.type_str_join (k_join K) pe_str (pa_cons (pv 8) pa_nil)) as_nil)))) pa_nil))))))))
      (pss_one (ps_ret (pv 3)))))), ?_⟩
    refine ⟨Nat.zero_le _, fun g hg => ?_⟩
    have s1 := Same.new (o := .lst []) hg
    refine ⟨_, rfl, _, rfl, _, rfl, _, _, rfl, rfl, a, ns, k, m + 1, rfl, s1.seq hS, hlen, hk, by omega, fun H1 s2 => ?_⟩
    have d0 := drawn_nn ns k (m := m + 1) (by omega)
    have d1 := drawn_lt ns k (m := m + 1) (by omega)
    have hg1 : H1 g = some (.lst []) := s2 _ _ upd_same
    refine ⟨_, rfl, by omega, by omega, for_range (lo := 0) (n := (drawnF ns k (m + 1)).toNat) (fun i σ H2 => ∃ (o5 o6 o7 o8 : Option V) (ys : List V) (ms : List Msg), σ = [some (.ref a), some (.int k), some (.int m), some (.ref g), some (.str "abcdefghijklmnopqrstuvwxyz \n"), o5, o6, o7, o8] ∧ Same H H2 ∧ H2 g = some (.lst ys) ∧ Ms H2 ys ms ∧ ms.length = i ∧ ∀ x ∈ ms, OkM x)
      ⟨none, none, none, none, [], [], rfl, s1.trans s2, hg1, Ms.nil, rfl, (fun _ h => nomatch h)⟩ ?_ ?_⟩
    · rintro i σ H2 hi ⟨o5, o6, o7, o8, ys, ms, rfl, s3, h1, h2, h4, h5⟩
      refine rd_name ?_
      refine ⟨_, rfl, _, _, rfl, rfl, _, rfl, _, _, rfl, rfl, .inl ⟨by decide, by decide⟩, _, _, rfl, rfl, ?_⟩
      have hq0 : 0 ≤ k + 1 + 20 * (0 + (i : Int)) := by omega
      have a0 := drawn_nn ns (k + 1 + 20 * (0 + (i : Int))) (m := 999999) (by decide)
      have a1 := drawn_lt ns (k + 1 + 20 * (0 + (i : Int))) (m := 999999) (by decide)
      refine ⟨_, rfl, _, _, rfl, rfl, _, rfl, _, rfl, a, ns, k + 1 + 20 * (0 + (i : Int)), 999999, rfl, s3.seq hS, hlen, hq0, by decide, fun H3 s5 => ?_⟩
      generalize drawnF ns (k + 1 + 20 * (0 + (i : Int))) 999999 = dn at a0 a1 ⊢
      refine ⟨_, _, rfl, rfl, (show 3 ≤ sizeLine by decide), fun l hl => ?_⟩
      have s6 := Same.new (o := .lst [.int (0 + (i : Int) + 1), .int 999999, .int (1 + dn)]) hl
      have b0 := drawn_nn ns (k + 1 + 20 * (0 + (i : Int)) + 1) (m := 3) (by decide)
      have b1 := drawn_lt ns (k + 1 + 20 * (0 + (i : Int)) + 1) (m := 3) (by decide)
      refine ⟨_, rfl, _, rfl, _, _, rfl, rfl, a, ns, k + 1 + 20 * (0 + (i : Int)) + 1, 3, rfl, ((s3.trans s5).trans s6).seq hS, hlen, by omega, by decide, fun H4 s7 => ?_⟩
      generalize drawnF ns (k + 1 + 20 * (0 + (i : Int)) + 1) 3 = dw at b0 b1 ⊢
      have hl4 : H4 l = some (.lst [.int (0 + (i : Int) + 1), .int 999999, .int (1 + dn)]) := s7 _ _ upd_same
      obtain ⟨nb, hat, hnb1, hnb2⟩ : ∃ nb : Int, atI [V.int (0 + (i : Int) + 1), .int 999999, .int (1 + dn)] dw = some (.int nb) ∧ 1 ≤ nb ∧ nb ≤ 999999 := by
        have hc : dw = 0 ∨ dw = 1 ∨ dw = 2 := by omega
        rcases hc with rfl | rfl | rfl
        · exact ⟨_, rfl, by omega, by omega⟩
        · exact ⟨_, rfl, by omega, by omega⟩
        · exact ⟨_, rfl, by omega, by omega⟩
      have s8 := ((s5.trans s6).trans s7)
      refine ⟨l, _, dw, _, rfl, rfl, SqL.ofL hl4, hat, ?_⟩
      have c0 := drawn_nn ns (k + 1 + 20 * (0 + (i : Int)) + 2) (m := 9) (by decide)
      have c1 := drawn_lt ns (k + 1 + 20 * (0 + (i : Int)) + 2) (m := 9) (by decide)
      refine ⟨_, rfl, _, rfl, _, _, rfl, rfl, a, ns, k + 1 + 20 * (0 + (i : Int)) + 2, 9, rfl, (s3.trans s8).seq hS, hlen, by omega, by decide, fun H5 s9 => ?_⟩
      generalize drawnF ns (k + 1 + 20 * (0 + (i : Int)) + 2) 9 = dl at c0 c1 ⊢
      have s39 := (s3.trans s8).trans s9
      refine ⟨_, rfl, by omega, by omega, dl.toNat, fun i2 zs H6 => Same H5 H6 ∧ ∃ cs : List Nat, zs = cs.map (fun c => V.str ⟨#[c]⟩) ∧ cs.length = i2 ∧ ∀ c ∈ cs, (97 ≤ c ∧ c ≤ 122) ∨ c = 32 ∨ c = 10, ?_, ⟨Same.refl _, [], rfl, rfl, fun c h => absurd h List.not_mem_nil⟩, ?_, ?_⟩
      · rw [sizeLine_eq]; omega
      · rintro i2 zs H6 hi2 ⟨u2, cs, rfl, hcl, hcc⟩
        refine ⟨hi2, fun x H7 => ?_⟩
        rintro ⟨rfl, rfl⟩
        refine rd_name (rd_yes (iteT ?_))
        have g0 := drawn_nn ns (k + 1 + 20 * (0 + (i : Int)) + 10 + (0 + (i2 : Int))) (m := 28) (by decide)
        have g5 := drawn_lt ns (k + 1 + 20 * (0 + (i : Int)) + 10 + (0 + (i2 : Int))) (m := 28) (by decide)
        refine ⟨_, rfl, _, rfl, _, rfl, _, _, rfl, rfl, _, rfl, _, _, rfl, rfl, a, ns, k + 1 + 20 * (0 + (i : Int)) + 10 + (0 + (i2 : Int)), 28, rfl, (s39.trans u2).seq hS, hlen, by omega, by decide, fun H8 u8 => ?_⟩
        obtain ⟨c, hat2, hc2⟩ := sign_at g0 g5
        refine ⟨_, _, _, rfl, rfl, by decide, hat2, u2.trans u8, cs ++ [c], by rw [List.map_append]; rfl, by rw [List.length_append, hcl]; rfl, fun x hx => ?_⟩
        rcases List.mem_append.mp hx with z | z
        · exact hcc x z
        · rw [List.mem_singleton] at z; rw [z]; exact hc2
      · rintro zs H6 ⟨u2, cs, rfl, hcl, hcc⟩
        refine ⟨Nat.le_refl _, fun D hD => ?_⟩
        have u3 := Same.new (o := .lst (cs.map (fun c => V.str ⟨#[c]⟩))) hD
        have eD : upd H6 D (.lst (cs.map (fun c => V.str ⟨#[c]⟩))) D = some (.lst (cs.map (fun c => V.str ⟨#[c]⟩))) := upd_same
        generalize upd H6 D (.lst (cs.map (fun c => V.str ⟨#[c]⟩))) = H7 at u3 eD ⊢
        have s4 := (s39.trans u2).trans u3
        have t3 := ((s8.trans s9).trans u2).trans u3
        refine ⟨_, rfl, .inl ⟨rfl, _, SqL.ofL (t3 _ _ h1)⟩, _, rfl, _, rfl, _, rfl, _, _, rfl, rfl, a, ns, k + 1 + 20 * (0 + (i : Int)) + 3, 3, rfl, s4.seq hS, hlen, by omega, by decide, by decide, fun ws H8 u4 hw1 hw2 hw3 => ?_⟩
        have jl : ((cs.map (fun c => (⟨#[c]⟩ : Str))).map (·.length)).sum = cs.length := by
          clear hcl hcc eD
          induction cs with
          | nil => rfl
          | cons x r ih => simp only [List.map_cons, List.sum_cons, List.length_cons, ih]; show 1 + _ = _; omega
        have h30 : ("" : Str).length = 0 := by decide +kernel
        refine ⟨rfl, _, rfl, "", D, cs.map (fun c => (⟨#[c]⟩ : Str)), rfl, rfl, ?_, ?_, (show 3 ≤ sizeLine by decide), fun c hc => ?_⟩
        · rw [List.map_map]; exact SqL.ofL (u4 _ _ eD)
        · rw [jl, h30, List.length_map]; omega
        have u5 := Same.new (o := mT ⟨nb, wordF ws, wordF cs⟩) hc
        have t4 := (t3.trans u4).trans u5
        have h1' := t4 _ _ h1
        have hyl := h2.len
        refine ⟨g, ys, .ref c, rfl, rfl, h1', by rw [sizeLine_eq]; omega, ?_⟩
        refine ⟨_, _, _, _, ys ++ [.ref c], ms ++ [⟨nb, wordF ws, wordF cs⟩], rfl, same_upd (s3.trans t4) hg, upd_same, ?_, ?_, ?_⟩
        · exact (Ms.updL h1' (h2.same t4)).append (Ms.updL h1' (Ms.one upd_same))
        · rw [List.length_append, List.length_singleton, h4]
        · intro x hx
          rcases List.mem_append.mp hx with hx | hx
          · exact h5 x hx
          · rw [List.mem_singleton.mp hx]
            refine ⟨⟨hnb1, hnb2⟩, ?_, ?_, ?_⟩
            · show 1 ≤ (wordF ws).cps.toList.length ∧ (wordF ws).cps.toList.length ≤ 3 ∧ ∀ c ∈ (wordF ws).cps.toList, 97 ≤ c ∧ c ≤ 122
              rw [word_codes]
              exact ⟨hw1, by omega, hw3⟩
            · show (wordF cs).cps.toList.length ≤ 8
              rw [word_codes]; omega
            · show ∀ c ∈ (wordF cs).cps.toList, _
              rw [word_codes]; exact hcc
    · rintro σ H2 ⟨o5, o6, o7, o8, ys, ms, rfl, s3, h1, h2, h4, h5⟩
      exact ⟨_, rfl, q g ys ms _ s3 hg h1 h2 (by omega) h5⟩

structure TxtX (K : PySem.W.Frag) (mg : Str → Option Value) (CT CN CM CO : Addr) : Prop where
  a_TellError : mg "TellError" = some (.ref CT)
  a_NoText : mg "NoText" = some (.ref CN)
  a_NoNumber : mg "NoNumber" = some (.ref CM)
  a_Other : mg "Other" = some (.ref CO)
  z : ExcCls K CN
  iN : PySem.W.kitOne K (.ref CN) (.ref CN) = some true
  iM : PySem.W.kitOne K (.ref CN) (.ref CM) = some false
  iO : PySem.W.kitOne K (.ref CN) (.ref CO) = some false
  iV : PySem.W.kitOne K (.ref CN) (.type "ValueError") = some true
  em : PySem.W.exmOne K (.ref CN) (.ref CT) = some true
  en : PySem.W.exmOne K (.ref CN) (.ref CN) = some true
theorem boot_ValueError : bootBuiltins "ValueError" = some (.type "ValueError") := by rfl
def spTold : Sp := fun vs H Q _ => ∃ (z : Str), vs = [.str z] ∧ z.cps.toList.length ≤ 4000 ∧
  (∀ ms, rdA z.cps.toList = some ms → ∀ q ys H', Same H H' → H' q = some (.lst ys) → Ms H' ys ms → Q (.ref q) H') ∧ (rdA z.cps.toList = none → ∀ H', Same H H' → Q .non H')
theorem tff_has {H : Hp} {l : Addr} (h : H l = some (.lst [.bl true, .bl false, .bl false])) : Has H (.ref l) (.list [.bool true, .bool false, .bool false]) :=
  has_lst h (hasL_cons (has_bool true) (hasL_cons (has_bool false) (hasL_cons (has_bool false) hasL_nil)))
abbrev s_l_told : Stmt := top 39
abbrev N_l_told : List Str := ["_law_text", "e", "_law_flags"]
theorem sc_l_told : FnScope N_l_told ["_law_text"] (defScope s_l_told) := ⟨rfl, rfl, rfl, by decide +kernel, rfl, by decide +kernel, by decide +kernel⟩
theorem ok_l_told {f CT CN CM CO : Addr} {fd : FuncData} (F : Fun K "_law_told" "_law_told" s_l_told f fd) (T : Txt mg) (TX : TxtX K mg CT CN CM CO) (cx_read : CalleeX P w K mg base 6 "read" ["text"] (spReadX CN)) :
    FnOk P w K mg base CX0 7 f fd ["_law_text"] spTold := by
  refine F.ok sc_l_told (fun vs H Q E h => ?_) (fun cdv A outer s0 H vs Q E hr h => ?_)
  · obtain ⟨z, rfl, _⟩ := h; rfl
  · obtain ⟨z, rfl, hz, q1, q2⟩ := h
    let EX : XK := fun cls _ H' => cls = .ref CN ∧ Same H H' ∧ rdA z.cps.toList = none
    refine ⟨_, (pss_cons (ps_tryAs K (i := 1) (E := EX) (fun _ _ hp => (pss_one (ps_ret (as_fnX cx_read (hr.mono (by decide)) hp (at_cons (pv 0) as_nil))))) TX.a_TellError (fun _ => (pss_cons (ps_set (i := 2) sc_l_told.nd rfl (Or.inl rfl) (as_lst (as_cons (as_callB (k_isiX K (c := .ref CN) ref_one) (by rfl) T.b_isinstance PyProof.Rows.boot_isinstance (at_cons (pv 1) (as_cons (pe_glob (v := .ref CN) rfl TX.a_NoText rfl) as_nil))) (as_cons (as_callB (k_isiX K (c := .ref CM) ref_one) (by rfl) T.b_isinstance PyProof.Rows.boot_isinstance (at_cons (pv 1) (as_cons (pe_glob (v := .ref CM) rfl TX.a_NoNumber rfl) as_nil))) (as_cons (as_callB (k_isiX K (c := .ref CO) ref_one) (by rfl) T.b_isinstance PyProof.Rows.boot_isinstance (at_cons (pv 1) (as_cons (pe_glob (v := .ref CO) rfl TX.a_Other rfl) as_nil))) as_nil)))))
      (pss_one (ps_if (PW.pt (pw_and (pt_val (as_callB (k_isiX K (c := .type "ValueError") ty_one) (by rfl) T.b_isinstance PyProof.Rows.boot_isinstance (at_cons (pv 1) (as_cons (pe_bltn (v := .ty "ValueError") (by rfl) T.b_ValueError boot_ValueError rfl) as_nil)))) (pw_and1 (pt_cmpR (op_eqD hr.units) (pv 2) (as_lst (as_cons pe_bl (as_cons pe_bl (as_cons pe_bl as_nil)))) (nomark _))))) (pss_one (ps_ret pe_non)) pss_nil)))) sc_l_told.nd rfl rfl rfl rfl rfl)
      (pss_one (ps_ret pe_bl))), ?_⟩
    refine ⟨?_, ?_⟩
    · exact ⟨_, rfl, z, rfl, hz, fun ms hms q ys H' s1 hq hq' hM => q1 ms hms q ys H' s1 hq' hM, fun hno H' s1 => ⟨rfl, s1, hno⟩⟩
    · rintro cls e H' ⟨rfl, s1, hno⟩ ha
      refine ⟨TX.em, ?_⟩
      have s2 := Same.new (o := ExcO e (.ref CN)) ha
      have e2 : upd H' e (ExcO e (.ref CN)) e = some (ExcO e (.ref CN)) := upd_same
      generalize upd H' e (ExcO e (.ref CN)) = H2 at s2 e2 ⊢
      refine ⟨_, rfl, e, CN, _, true, rfl, rfl, e2, TX.z, TX.iN, _, rfl, e, CN, _, false, rfl, rfl, e2, TX.z, TX.iM, _, rfl, e, CN, _, false, rfl, rfl, e2, TX.z, TX.iO, (show 3 ≤ sizeLine by decide), fun l3 hl3 => ?_⟩
      have t3 := Same.new (o := .lst [.bl true, .bl false, .bl false]) hl3
      have e3 : upd H2 l3 (.lst [.bl true, .bl false, .bl false]) l3 = some (.lst [.bl true, .bl false, .bl false]) := upd_same
      generalize upd H2 l3 (.lst [.bl true, .bl false, .bl false]) = H3 at t3 e3 ⊢
      refine ⟨_, rfl, e, CN, _, true, rfl, rfl, t3 _ _ e2, TX.z, TX.iV, _, rfl, iteT ?_⟩
      refine ⟨_, rfl, (show 3 ≤ sizeLine by decide), fun l4 hl4 => ?_⟩
      have t4 := Same.new (o := .lst [.bl true, .bl false, .bl false]) hl4
      exact eq_D (tff_has (t4 _ _ e3)) (tff_has upd_same) rfl ⟨_, rfl, iteT (q2 hno _ (((s1.trans s2).trans t3).trans t4))⟩

def spLMsg : Sp := fun vs H Q _ => ∃ (a : Addr) (ls : List (List Nat)), vs = [.ref a] ∧ H a = some (.lst (ls.map sV)) ∧ (∀ l ∈ ls, l.length ≤ 4000 ∧ 10 ∉ l) ∧ ls.length ≤ 4000 ∧
  (∀ m, minG ls = some m → ∀ c H', Same H H' → H' c = some (mT m) → Q (.ref c) H') ∧ (minG ls = none → ∀ H', Same H H' → Q .non H')
def hdF : Nat → List Nat
  | 0 => idF
  | 1 => tpF
  | _ + 2 => dtF
theorem hd0 : V.str "id: " = sV idF := sV_of (by decide +kernel)
theorem hd1 : V.str "topic: " = sV tpF := sV_of (by decide +kernel)
theorem hd2 : V.str "data: " = sV dtF := sV_of (by decide +kernel)
theorem hdF_len (i : Nat) : (hdF i).length ≤ 7 := by
  match i with
  | 0 => decide
  | 1 => decide
  | _ + 2 => show dtF.length ≤ 7; decide
theorem rep_one (v : V) : ∀ n : Nat, (List.replicate n [v]).flatten = List.replicate n v
  | 0 => rfl
  | n + 1 => by rw [List.replicate_succ, List.flatten_cons, rep_one v n, List.replicate_succ]; rfl
theorem frB_hd (m : Msg) {j : Nat} {x : List Nat} (h : (frB m)[j]? = some x) : ∃ l, x = hdF j ++ l := by
  match j, h with
  | 0, h => exact ⟨_, (Option.some.inj h).symm⟩
  | 1, h => exact ⟨_, (Option.some.inj h).symm⟩
  | j + 2, h =>
    have h' : ((spl m.x.cps.toList).map (dtF ++ ·))[j]? = some x := h
    obtain ⟨l, _, rfl⟩ := List.mem_map.mp (List.mem_of_getElem? h')
    exact ⟨l, rfl⟩
theorem all_dt : ∀ (R : List (List Nat)), (∀ (j : Nat) (x : List Nat), R[j]? = some x → ∃ l, x = dtF ++ l) → ∃ ps : List (List Nat), R = ps.map (dtF ++ ·)
  | [], _ => ⟨[], rfl⟩
  | x :: r, h => by
    obtain ⟨l, hl⟩ := h 0 x rfl
    obtain ⟨ps, hps⟩ := all_dt r fun j y hy => h (j + 1) y hy
    exact ⟨l :: ps, by rw [hl, hps]; rfl⟩
abbrev s_l_message : Stmt := top 40
abbrev N_l_message : List Str := ["_law_lines", "_law_heads", "_law_line", "_law_head", "_law_figures", "_law_found"]
theorem sc_l_message : FnScope N_l_message ["_law_lines"] (defScope s_l_message) := ⟨rfl, rfl, rfl, by decide +kernel, rfl, by decide +kernel, by decide +kernel⟩
theorem ok_l_message {f : Addr} {fd : FuncData} (F : Fun K "_law_message" "_law_message" s_l_message f fd) (T : Txt mg) (c_is_message : Callee P w K mg base 3 "is_message" ["thing"] (spLook fitT isMsg)) :
    FnOk P w K mg base CX0 4 f fd ["_law_lines"] spLMsg := by
  refine F.ok sc_l_message (fun vs H Q E h => ?_) (fun cdv A outer s0 H vs Q E hr h => ?_)
  · obtain ⟨a, ls, rfl, _⟩ := h; rfl
  · obtain ⟨a, ls, rfl, ha, hls, hll, q1, q2⟩ := h
    refine ⟨_, (pss_cons (ps_set (i := 1) sc_l_message.nd rfl (Or.inl rfl) (pe_op op_cat (as_lst (as_cons pe_str (as_cons pe_str as_nil))) (pe_op op_mulM (as_lst (as_cons pe_str as_nil)) (pe_op op_sub (as_callB (k_len_seq K) (by rfl) T.b_len PySem.boot_len (at_cons (pv 0) as_nil)) pe_int))))
      (pss_cons (ps_if (pt_cmpR op_lt (as_callB (k_len_seq K) (by rfl) T.b_len PySem.boot_len (at_cons (pv 0) as_nil)) pe_int (nomark _)) (pss_one (ps_ret pe_non)) pss_nil)
      (pss_cons (ps_for PassesOwn.never rfl (pi_zip K T.b_zip (pa_cons (pv 0) (pa_cons (pv 1) pa_nil))) (k_tup K rfl (pgs_cons (pg_name (i := 2) sc_l_message.nd rfl (Or.inl rfl)) (pgs_cons (pg_name (i := 3) sc_l_message.nd rfl (Or.inl rfl)) pgs_nil))) (pss_one (ps_if (pt_cmpR op_ne (pe_slice sl_str (pv 2) po_none (po_some (as_callB call_len_str (by rfl) T.b_len PySem.boot_len (at_cons (pv 3) as_nil)))) (pv 3) (nomark _)) (pss_one (ps_ret pe_non)) pss_nil)))
      (pss_cons (ps_set (i := 4) sc_l_message.nd rfl (Or.inl rfl) (pe_slice sl_str (pe_ix (k_ix_list K) (pv 0) pe_int (fun _ _ => rfl)) (po_some pe_int) po_none))
      (pss_cons (ps_if (PW.pt (pw_or (pt_not (pt_chain op_le op_le pe_int (as_callB call_len_str (by rfl) T.b_len PySem.boot_len (at_cons (pv 4) as_nil)) pe_int)) (pw_or1 (pt_cmpR (k_ne0 K hr.units0) (pe_comp (N' := ["_law_sign"]) (ix := [none]) (own := [0]) rfl (cs_of (osc := defScope s_l_message) (ON := N_l_message) rfl rfl (by decide +kernel)) (by decide) (pi_str (pv 4)) (fun _ _ _ _ => (pg_name (i := 0) (show (["_law_sign"] : List Str).Nodup by decide +kernel) rfl (Or.inl rfl))) own_name (fun _ _ _ _ => (pifs_one (pt_cmpR op_notin_str (pv 0) pe_str (by with_unfolding_all rfl)))) (fun _ _ _ _ => (pv 0))) (as_lst as_nil) (nomark _))))) (pss_one (ps_ret pe_non)) pss_nil)
      (pss_cons (ps_set (i := 5) sc_l_message.nd rfl (Or.inl rfl) (as_tup (as_cons (as_callTy call_intS (by rfl) T.b_int PyProof.Rows.boot_int (at_cons (pv 4) as_nil)) (as_cons (pe_slice sl_str (pe_ix (k_ix_list K) (pv 0) pe_int (fun _ _ => rfl)) (po_some pe_int) po_none) (as_cons (k_bm K PySem.F.plainAttrs_str PySem.F.slot_str_join PySem.F.type_str_join (k_join K) pe_str (pa_cons (pe_comp (N' := ["_law_line"]) (ix := [none]) (own := [0]) rfl (cs_of (osc := defScope s_l_message) (ON := N_l_message) rfl rfl (by decide +kernel)) (by decide) (k_it_list K (pe_slice (k_sl_list K) (pv 0) (po_some pe_int) po_none)) (fun _ _ _ _ => (pg_name (i := 0) (show (["_law_line"] : List Str).Nodup by decide +kernel) rfl (Or.inl rfl))) own_name (fun _ _ _ _ => pifs_nil) (fun _ _ _ _ => (pe_slice sl_str (pv 0) (po_some pe_int) po_none))) pa_nil)) as_nil)))))
      (pss_one (ps_ret (pe_ifExp (PW.pt (pw_and (pt_val (as_fn c_is_message (hr.mono (by decide)) (at_cons (pv 5) as_nil))) (pw_and1 (pt_cmpR op_eq (as_callTy call_strI (by rfl) T.b_str PyProof.Rows.boot_str (at_cons (pe_ix (k_ix_tup K) (pv 5) pe_int (fun _ _ => rfl)) as_nil)) (pv 4) (nomark _))))) (pv 5) pe_non))))))))), ?_⟩
    have k2 : ∀ H', Same H H' → SqL K H' a (ls.map sV) := fun H' s' => SqL.ofL (s' _ _ ha)
    refine ⟨(show 2 ≤ sizeLine by decide), fun l1 hl1 => ?_⟩
    have s1 := Same.new (o := .lst [.str "id: ", .str "topic: "]) hl1
    have e1 : upd H l1 (.lst [.str "id: ", .str "topic: "]) l1 = some (.lst [.str "id: ", .str "topic: "]) := upd_same
    generalize upd H l1 (.lst [.str "id: ", .str "topic: "]) = H1 at s1 e1 ⊢
    refine ⟨(show 1 ≤ sizeLine by decide), fun l2 hl2 => ?_⟩
    have s2 := Same.new (o := .lst [.str "data: "]) hl2
    have e2 : upd H1 l2 (.lst [.str "data: "]) l2 = some (.lst [.str "data: "]) := upd_same
    have e12 := s2 _ _ e1
    generalize upd H1 l2 (.lst [.str "data: "]) = H2 at s2 e2 e12 ⊢
    have s12 := s1.trans s2
    have hlm : (ls.map sV).length = ls.length := List.length_map _
    refine ⟨_, rfl, a, _, rfl, .inl (k2 _ s12), _, _, rfl, rfl, l2, _, _, rfl, rfl, e2, by rw [hlm]; omega, by rw [hlm]; omega, by decide, fun l3 hl3 => ?_⟩
    have s3 := Same.new (o := .lst (List.replicate (((ls.map sV).length : Int) - 2).toNat [V.str "data: "]).flatten) hl3
    have e3 : upd H2 l3 (.lst (List.replicate (((ls.map sV).length : Int) - 2).toNat [V.str "data: "]).flatten) l3 = some (.lst (List.replicate (ls.length - 2) (V.str "data: "))) := by
      rw [upd_same, hlm, show ((ls.length : Int) - 2).toNat = ls.length - 2 by omega, rep_one]
    generalize upd H2 l3 (.lst (List.replicate (((ls.map sV).length : Int) - 2).toNat [V.str "data: "]).flatten) = H3 at s3 e3 ⊢
    refine ⟨l1, l3, _, _, rfl, rfl, s3 _ _ e12, e3, by rw [List.length_replicate, sizeLine_eq]; simp; omega, fun l4 hl4 => ?_⟩
    have s4 := Same.new (o := .lst ([.str "id: ", .str "topic: "] ++ List.replicate (ls.length - 2) (V.str "data: "))) hl4
    have e4 : upd H3 l4 (.lst ([.str "id: ", .str "topic: "] ++ List.replicate (ls.length - 2) (V.str "data: "))) l4 = some (.lst ([.str "id: ", .str "topic: "] ++ List.replicate (ls.length - 2) (V.str "data: "))) := upd_same
    generalize upd H3 l4 (.lst ([.str "id: ", .str "topic: "] ++ List.replicate (ls.length - 2) (V.str "data: "))) = H4 at s4 e4 ⊢
    have s14 := (s12.trans s3).trans s4
    refine ⟨_, rfl, a, _, rfl, .inl (k2 _ s14), _, _, rfl, rfl, _, rfl, ite2 (fun b => ?_) (fun b => ?_)⟩
    · refine q2 (minG_no fun m _ e => ?_) _ s14
      have := of_decide_eq_true b
      rw [List.length_map, e] at this
      have := len3 m
      omega
    have b' : ¬ ((ls.map sV).length : Int) < 3 := fun z => b (decide_eq_true z)
    rw [List.length_map] at b'
    have hhd : ∀ i, i < ls.length → ([V.str "id: ", .str "topic: "] ++ List.replicate (ls.length - 2) (V.str "data: "))[i]? = some (sV (hdF i)) := fun i hi => by
      match i, hi with
      | 0, _ => exact congrArg some hd0
      | 1, _ => exact congrArg some hd1
      | j + 2, hi =>
        show (List.replicate (ls.length - 2) (V.str "data: "))[j]? = _
        rw [List.getElem?_replicate, if_pos (by omega)]
        exact congrArg some hd2
    have lhd : ([V.str "id: ", .str "topic: "] ++ List.replicate (ls.length - 2) (V.str "data: ")).length = ls.length := by
      rw [List.length_append, List.length_replicate]; show 2 + _ = _; omega
    generalize [V.str "id: ", .str "topic: "] ++ List.replicate (ls.length - 2) (V.str "data: ") = HD at e4 hhd lhd
    have szm : ∀ {l : List Nat}, l.length ≤ 4000 → (⟨l.toArray⟩ : Str).length ≤ sizeLine := fun {l} h => by
      have : (⟨l.toArray⟩ : Str).length = l.length := by simp [Str.length]
      rw [this, sizeLine_eq]; omega
    refine ⟨_, rfl, _, rfl, a, l4, rfl, ⟨_, k2 _ s14⟩, ⟨_, SqL.ofL e4⟩, for_it (n := ls.length) (fun i σ H' => ∃ o2 o3, σ = [some (.ref a), some (.ref l4), o2, o3, none, none] ∧ Same H4 H' ∧ ∀ j, j < i → ∀ x, ls[j]? = some x → ∃ l, x = hdF j ++ l)
      ⟨none, none, rfl, Same.refl _, fun j hj => by omega⟩ ?_ ?_⟩
    · rintro i σ H' hi ⟨o2, o3, rfl, sH, hdone⟩
      have ec : (ls.map sV)[i]? = some (sV ls[i]) := by rw [List.getElem?_map, List.getElem?_eq_getElem hi]; rfl
      have ka := k2 _ (s14.trans sH)
      have kh : SqL K H' l4 HD := SqL.ofL (sH _ _ e4)
      refine ⟨⟨_, _, _, _, ka, kh, ec, hhd i hi⟩, ?_⟩
      rintro v H5 ⟨T5, x, y, rfl, hT5, rfl, hx, hy⟩
      have hx' := hx _ ka
      rw [ec] at hx'
      obtain rfl := Option.some.inj hx'
      have hy' := hy _ kh
      rw [hhd i hi] at hy'
      obtain rfl := Option.some.inj hy'
      have s5 := Same.new (o := .tup [sV ls[i], sV (hdF i)]) hT5
      have e5 : upd H' T5 (.tup [sV ls[i], sV (hdF i)]) T5 = some (.tup [sV ls[i], sV (hdF i)]) := upd_same
      generalize upd H' T5 (.tup [sV ls[i], sV (hdF i)]) = H5 at s5 e5 ⊢
      refine ⟨T5, _, rfl, SqT.ofT e5, rfl, _, _, rfl, _, _, rfl, rfl, ?_⟩
      have hdl : (hdF i).length ≤ 7 := hdF_len i
      have hlen : (⟨(hdF i).toArray⟩ : Str).length = (hdF i).length := by simp [Str.length]
      refine ⟨_, rfl, _, rfl, _, rfl, szm (by omega), _, rfl, _, rfl, szm (hls _ (List.getElem_mem hi)).1, ?_⟩
      rw [slice_take (by omega)]
      have etk : ((⟨ls[i].toArray⟩ : Str).cps.toList.take ((⟨(hdF i).toArray⟩ : Str).length : Int).toNat) = ls[i].take (hdF i).length := by
        rw [hlen, Int.toNat_natCast]
      rw [etk]
      refine ⟨_, rfl, rfl, _, rfl, ite2 (fun b => ?_) (fun b => ?_)⟩
      · refine q2 (minG_no fun m _ e => ?_) _ (s14.trans (sH.trans s5))
        have hfi : (frB m)[i]? = some ls[i] := by rw [← e]; exact List.getElem?_eq_getElem hi
        obtain ⟨l, hl⟩ := frB_hd m hfi
        rw [hl, List.take_left] at b
        have b2 : (!decide (sV (hdF i) = sV (hdF i))) = true := b
        simp at b2
      · have eh : ls[i].take (hdF i).length = hdF i := by
          refine Classical.byContradiction fun ne => b ?_
          have : ¬ V.str (⟨(ls[i].take (hdF i).length).toArray⟩ : Str) = sV (hdF i) := fun w => by
            injection w with w
            have w2 := congrArg (fun z : Str => z.cps.toList) w
            exact ne (by simpa using w2)
          rw [decide_eq_false this]; rfl
        refine ⟨_, _, rfl, sH.trans s5, fun j hj xx hxx => ?_⟩
        by_cases hji : j < i
        · exact hdone j hji xx hxx
        · obtain rfl : j = i := by omega
          rw [List.getElem?_eq_getElem hi] at hxx
          obtain rfl := Option.some.inj hxx
          exact ⟨ls[j].drop (hdF j).length, by
            have := List.take_append_drop (hdF j).length ls[j]
            rw [eh] at this; exact this.symm⟩
    · rintro σ H' ⟨o2, o3, rfl, sH, hdone⟩
      have s5 := s14.trans sH
      refine ⟨⟨_, _, k2 _ s5, SqL.ofL (sH _ _ e4), by rw [List.length_map, lhd, Nat.min_self]⟩, ?_⟩
      obtain ⟨l0, t, ps, rfl, hpne⟩ : ∃ l0 t ps, ls = (idF ++ l0) :: (tpF ++ t) :: ps.map (dtF ++ ·) ∧ ps ≠ [] := by
        match ls, b', hdone with
        | x0 :: x1 :: x2 :: r, _, hdone =>
          obtain ⟨y0, h0⟩ := hdone 0 (by simp) x0 rfl
          obtain ⟨y1, h1⟩ := hdone 1 (by simp) x1 rfl
          obtain ⟨ps, hps⟩ := all_dt (x2 :: r) fun j x hx => hdone (j + 2) (by have := (List.getElem?_eq_some_iff.mp hx).1; simp at this ⊢; omega) x hx
          refine ⟨y0, y1, ps, by rw [h0, h1, hps]; rfl, fun e => ?_⟩
          rw [e] at hps; cases hps
        | [], b', _ => simp at b'
        | [_], b', _ => simp at b'
        | [_, _], b', _ => simp at b'
      have hls2 : ∀ p ∈ ps, p.length ≤ 4000 ∧ 10 ∉ p := fun p hp => by
        have := hls (dtF ++ p) (List.mem_cons_of_mem _ (List.mem_cons_of_mem _ (List.mem_map.mpr ⟨p, hp, rfl⟩)))
        rw [List.length_append] at this
        exact ⟨by omega, fun z => this.2 (List.mem_append_right _ z)⟩
      have g0 := (hls (idF ++ l0) (by simp)).1
      have g1 := (hls (tpF ++ t) (by simp)).1
      have g0' : l0.length ≤ 4000 := by rw [List.length_append] at g0; omega
      have g1' : t.length ≤ 4000 := by rw [List.length_append] at g1; omega
      have hpl : ps.length ≤ 4000 := by simp at hll; omega
      have hmin : ∀ n : Nat, l0 = dgT n → minG ((idF ++ l0) :: (tpF ++ t) :: ps.map (dtF ++ ·)) = if OkM ⟨(n : Int), ⟨t.toArray⟩, ⟨(jn ps).toArray⟩⟩ then some ⟨(n : Int), ⟨t.toArray⟩, ⟨(jn ps).toArray⟩⟩ else none := fun n hn => by
        rw [hn, lines_fr hpne fun p hp => (hls2 p hp).2]
        exact minG_ok (Int.natCast_nonneg _)
      have hmno : (∀ n : Nat, 1 ≤ n → n ≤ 999999 → l0 ≠ dgT n) → minG ((idF ++ l0) :: (tpF ++ t) :: ps.map (dtF ++ ·)) = none := fun hno => minG_no fun m om e => by
        injection e with e _
        have e' : l0 = dgT m.n.toNat := List.append_cancel_left e
        have h1 := om.1.1
        have h2 := om.1.2
        exact hno m.n.toNat (by omega) (by omega) e'
      have hkey : ∀ n : Nat, 1 ≤ n → n ≤ 999999 → l0 = dgT n → (1 ≤ l0.length ∧ l0.length ≤ 6) ∧ DigL l0 := fun n h1 h9 hz => by
        have hl := dgT_len 5 n (by omega)
        have hl1 : 1 ≤ (dgT n).length := List.length_pos_iff.mpr (dgT_ne n)
        rw [hz]
        exact ⟨⟨hl1, hl⟩, dgT_dig n⟩
      have LS : ∀ l : List Nat, (⟨l.toArray⟩ : Str).length = l.length := fun l => by simp [Str.length]
      have k5 := k2 _ s5
      refine ⟨_, rfl, a, _, 0, _, rfl, rfl, k5, atI_nat (j := 0) rfl, _, rfl, _, rfl, szm g0, ?_⟩
      rw [slice_from (by decide)]
      have ef : V.str (⟨((⟨(idF ++ l0).toArray⟩ : Str).cps.toList.drop (4 : Int).toNat).toArray⟩ : Str) = sV l0 := rfl
      rw [ef]
      refine ⟨_, rfl, _, rfl, szm g0', _, _, rfl, rfl, _, rfl, ite2 (fun b1 => ?_) (fun b1 => ?_)⟩
      · refine ⟨_, _, rfl, rfl, _, rfl, ite2 (fun b2 => ?_) (fun b2 => ?_)⟩
        · refine iteT (q2 (hmno fun n h1 h9 hz => ?_) _ s5)
          have := (hkey n h1 h9 hz).1.2
          rw [decide_eq_true (by rw [LS]; omega)] at b2
          cases b2
        have b1' : 1 ≤ l0.length := by have := of_decide_eq_true b1; rw [LS] at this; omega
        have b2' : l0.length ≤ 6 := by
          refine Classical.byContradiction fun w => b2 ?_
          rw [decide_eq_false (by rw [LS]; omega)]; rfl
        refine ⟨_, rfl, _, rfl, (⟨l0.toArray⟩ : Str).cps.size, fun i ys H2 => H2 = H' ∧ ys = ((l0.take i).filter fun c => !decide (c ∈ List.range' 48 10)).map fun c => V.str ⟨#[c]⟩, by simp; rw [sizeLine_eq]; omega, ⟨rfl, rfl⟩, ?_, ?_⟩
        · rintro i ys H2 hi ⟨rfl, rfl⟩
          have hi' : i < l0.length := by simpa using hi
          refine ⟨hi, ?_⟩
          rintro v H3 ⟨rfl, hv⟩
          have hv' : V.str ⟨#[l0[i]]⟩ = v := by
            unfold signV at hv
            rw [show (⟨l0.toArray⟩ : Str).cps.toList = l0 from rfl, List.getElem?_eq_getElem hi'] at hv
            exact Option.some.inj hv
          subst hv'
          have hin : (!!(Builtin.Str.occurrences ("0123456789" : Str) ⟨#[l0[i]]⟩ 0 ("0123456789" : Str).length 1).isEmpty) = !decide (l0[i] ∈ List.range' 48 10) := by
            rw [← digs_cps, ← inS_mem]; rfl
          refine rd_name ⟨_, rfl, _, _, rfl, rfl, _, rfl, ite2 (fun b => ?_) (fun b => ?_)⟩
          · rw [hin] at b
            refine ⟨_, rfl, rfl, ?_⟩
            rw [List.take_add_one, List.getElem?_eq_getElem hi', Option.toList_some, List.filter_append, List.map_append, List.filter_cons_of_pos (p := fun c => !decide (c ∈ List.range' 48 10)) b]; rfl
          · rw [hin] at b
            refine ⟨rfl, ?_⟩
            rw [List.take_add_one, List.getElem?_eq_getElem hi', Option.toList_some, List.filter_append, List.map_append, List.filter_cons_of_neg (p := fun c => !decide (c ∈ List.range' 48 10)) b]; simp
        rintro ys H2 ⟨rfl, rfl⟩
        rw [show l0.take (⟨l0.toArray⟩ : Str).cps.size = l0 from List.take_of_length_le (by simp)]
        refine ⟨Nat.le_refl _, fun D hD => ?_⟩
        have s6 := Same.new (o := .lst ((l0.filter fun c => !decide (c ∈ List.range' 48 10)).map fun c => V.str ⟨#[c]⟩)) hD
        have e6 : upd H2 D (.lst ((l0.filter fun c => !decide (c ∈ List.range' 48 10)).map fun c => V.str ⟨#[c]⟩)) D = some (.lst ((l0.filter fun c => !decide (c ∈ List.range' 48 10)).map fun c => V.str ⟨#[c]⟩)) := upd_same
        have hdg : (l0.filter fun c => !decide (c ∈ List.range' 48 10)) = [] ↔ DigL l0 := by
          rw [List.filter_eq_nil_iff]
          refine ⟨fun h c hc => ?_, fun h c hc => ?_⟩
          · have := h c hc
            have h2 : c ∈ List.range' 48 10 := by simpa using this
            have := List.mem_range'_1.mp h2; omega
          · have := h c hc
            rw [decide_eq_true (List.mem_range'_1.mpr (by omega))]; simp
        generalize (l0.filter fun c => !decide (c ∈ List.range' 48 10)) = bad at s6 e6 hdg ⊢
        generalize upd H2 D (.lst (bad.map fun c => V.str ⟨#[c]⟩)) = H6 at s6 e6 ⊢
        refine ⟨Nat.zero_le _, fun l7 hl7 => ?_⟩
        have s7 := Same.new (o := .lst []) hl7
        have e7 := s7 _ _ e6
        have s57 := s5.trans (s6.trans s7)
        refine ⟨D, l7, _, rfl, rfl, SqL.ofL e7, SqL.ofL upd_same, _, rfl, ite2 (fun b3 => ?_) (fun b3 => ?_)⟩
        · refine q2 (hmno fun n h1 h9 hz => ?_) _ s57
          rw [hdg.mpr (hkey n h1 h9 hz).2] at b3
          cases b3
        have hD0 : DigL l0 := hdg.mp (by
          cases bad with
          | nil => rfl
          | cons c r => exact absurd rfl b3)
        generalize upd H6 l7 (.lst []) = H7 at s57 ⊢
        have hne : l0 ≠ [] := fun e => by rw [e] at b1'; simp at b1'
        have hn9 : digN l0 ≤ 999999 := by
          have h9 := digN_lt hD0
          have h10 := Nat.pow_le_pow_right (n := 10) (by decide) b2'
          rw [show (10 : Nat) ^ 6 = 1000000 from by decide] at h10
          omega
        have k7 := k2 _ s57
        refine ⟨_, rfl, _, rfl, hD0, hne, by show l0.length ≤ _; omega, ?_⟩
        refine ⟨_, rfl, a, _, 1, _, rfl, rfl, k7, atI_nat (j := 1) rfl, _, rfl, _, rfl, szm g1, ?_⟩
        rw [slice_from (by decide)]
        have et : V.str (⟨((⟨(tpF ++ t).toArray⟩ : Str).cps.toList.drop (7 : Int).toNat).toArray⟩ : Str) = sV t := rfl
        rw [et]
        refine ⟨rfl, _, rfl, _, rfl, a, _, rfl, k7, fun rr hrr => ?_⟩
        rw [cut_from (by decide)]
        have s8 := Same.new (o := .lst ((((idF ++ l0) :: (tpF ++ t) :: ps.map (dtF ++ ·)).map sV).drop (2 : Int).toNat)) hrr
        have e8 : upd H7 rr (.lst ((((idF ++ l0) :: (tpF ++ t) :: ps.map (dtF ++ ·)).map sV).drop (2 : Int).toNat)) rr = some (.lst ((ps.map (dtF ++ ·)).map sV)) := upd_same
        generalize upd H7 rr (.lst ((((idF ++ l0) :: (tpF ++ t) :: ps.map (dtF ++ ·)).map sV).drop (2 : Int).toNat)) = H8 at s8 e8 ⊢
        have k8 : SqL K H8 rr ((ps.map (dtF ++ ·)).map sV) := SqL.ofL e8
        refine ⟨rr, rfl, ⟨_, k8⟩, ps.length, fun i ys H3 => H3 = H8 ∧ ys = (ps.take i).map sV, ?_, ⟨rfl, rfl⟩, ?_, ?_⟩
        · rw [sizeLine_eq]; omega
        · rintro i ys H3 hi ⟨rfl, rfl⟩
          have ec : ((ps.map (dtF ++ ·)).map sV)[i]? = some (sV (dtF ++ ps[i])) := by rw [List.getElem?_map, List.getElem?_map, List.getElem?_eq_getElem hi]; rfl
          refine ⟨⟨_, _, k8, ec⟩, ?_⟩
          rintro x H4 ⟨rfl, hx⟩
          have hx' := hx _ k8
          rw [ec] at hx'
          obtain rfl := Option.some.inj hx'
          refine rd_name (rd_yes (iteT ?_))
          have hpi := hls (dtF ++ ps[i]) (List.mem_cons_of_mem _ (List.mem_cons_of_mem _ (List.mem_map.mpr ⟨_, List.getElem_mem hi, rfl⟩)))
          refine ⟨_, rfl, _, rfl, _, rfl, szm hpi.1, ?_⟩
          rw [slice_from (by decide)]
          refine ⟨rfl, ?_⟩
          rw [List.take_add_one, List.getElem?_eq_getElem hi, List.map_append]; rfl
        rintro ys H3 ⟨rfl, rfl⟩
        refine ⟨⟨_, k8, by rw [List.length_map, List.length_map]; exact Nat.le_refl _⟩, fun D2 hD2 => ?_⟩
        rw [List.take_length]
        have hpp : ∀ p ∈ ps, p.length ≤ 4000 := fun p hp => (hls2 p hp).1
        have ej : V.str (Txt.join "\n" (ps.map mkS)) = sV (jn ps) := sV_of (by
          rw [join_jn, List.map_map]
          have : ((fun (y : Str) => y.cps.toList) ∘ mkS) = id := by funext l; simp [mkS]
          rw [this, List.map_id])
        have hsum := sum_le ps hpp
        have hsz : ((ps.map mkS).map (fun z : Str => z.length)).sum ≤ 16000000 := by
          have e2 : ((fun (z : Str) => z.length) ∘ mkS) = List.length := by funext l; simp [mkS, Str.length]
          rw [List.map_map, e2]
          have := Nat.mul_le_mul_right 4000 hpl
          omega
        have s9 := Same.new (o := .lst (ps.map sV)) hD2
        have e9 : upd H3 D2 (.lst (ps.map sV)) D2 = some (.lst ((ps.map mkS).map V.str)) := by rw [upd_same, List.map_map]; rfl
        generalize upd H3 D2 (.lst (ps.map sV)) = H9 at s9 e9 ⊢
        refine ⟨"\n", D2, ps.map mkS, rfl, rfl, SqL.ofL e9, ?_, ?_⟩
        · have e : ("\n" : Str).length = 1 := by decide +kernel
          rw [e, List.length_map]
          omega
        rw [ej]
        have hjl : (⟨(jn ps).toArray⟩ : Str).length ≤ sizeLine := by
          have h1 := jn_len hpp
          have h2 := Nat.mul_le_mul_right 4001 hpl
          rw [LS, sizeLine_eq]; omega
        refine ⟨(show 3 ≤ sizeLine by decide), fun c hc => ?_⟩
        have s10 := Same.new (o := mT ⟨(digN l0 : Int), ⟨t.toArray⟩, ⟨(jn ps).toArray⟩⟩) hc
        have e10 : upd H9 c (mT ⟨(digN l0 : Int), ⟨t.toArray⟩, ⟨(jn ps).toArray⟩⟩) c = some (mT ⟨(digN l0 : Int), ⟨t.toArray⟩, ⟨(jn ps).toArray⟩⟩) := upd_same
        show (fun H5 : Hp => _) (upd H9 c (mT ⟨(digN l0 : Int), ⟨t.toArray⟩, ⟨(jn ps).toArray⟩⟩))
        generalize upd H9 c (mT ⟨(digN l0 : Int), ⟨t.toArray⟩, ⟨(jn ps).toArray⟩⟩) = H10 at s10 e10
        have sall := s57.trans (s8.trans (s9.trans s10))
        refine ⟨_, rfl, .ref c, mD ⟨(digN l0 : Int), ⟨t.toArray⟩, ⟨(jn ps).toArray⟩⟩, rfl, msg_has e10, ?_, fun H11 s11 => ⟨_, rfl, ite2 (fun b4 => ?_) (fun b4 => ?_)⟩⟩
        · intro x hx
          simp only [List.mem_cons, List.not_mem_nil, or_false] at hx
          rcases hx with rfl | rfl | rfl
          · trivial
          · exact szm g1'
          · exact hjl
        · have ok := (msg_iff _).mp b4
          refine ⟨_, rfl, c, _, 0, _, rfl, rfl, SqT.ofT (s11 _ _ e10), atI_nat (j := 0) rfl, (digN l0 : Int), rfl, n_log (by omega) (by omega), _, rfl, rfl, _, rfl, ite2 (fun b5 => ?_) (fun b5 => ?_)⟩
          · have b5' : V.str (nT (digN l0)) = sV l0 := of_decide_eq_true b5
            have b6 : dgT (digN l0) = l0 := by
              injection b5' with b5'
              rw [← nT_cps, b5']
            have hm := hmin (digN l0) b6.symm
            rw [if_pos ok] at hm
            exact ⟨_, rfl, q1 _ hm c _ (sall.trans s11) (s11 _ _ e10)⟩
          · refine q2 (hmno fun n h1 h9 hz => b5 (decide_eq_true ?_)) _ (sall.trans s11)
            have hd : digN l0 = n := by rw [hz, dgT_val]
            rw [hd, hz]
            exact sV_of (nT_cps n)
        · refine q2 ?_ _ (sall.trans s11)
          cases e : minG ((idF ++ l0) :: (tpF ++ t) :: ps.map (dtF ++ ·)) with
          | none => rfl
          | some m =>
            exfalso
            obtain ⟨hfr, om⟩ := minG_some e
            injection hfr with hfr _
            have e' : l0 = dgT m.n.toNat := List.append_cancel_left hfr
            have hm := hmin m.n.toNat e'
            have hd : digN l0 = m.n.toNat := by rw [e', dgT_val]
            rw [hd] at b4
            rw [e, if_neg fun o => b4 ((msg_iff _).mpr o)] at hm
            cases hm
      · refine ⟨_, rfl, iteT (q2 (hmno fun n h1 h9 hz => ?_) _ s5)⟩
        have := (hkey n h1 h9 hz).1.1
        exact b1 (decide_eq_true (by rw [LS]; omega))

def dueS (st : List (Option Msg) × List (List Nat)) (line : List Nat) : List (Option Msg) × List (List Nat) := if line = [] then (st.1 ++ [minG st.2], []) else (st.1, st.2 ++ [line])
theorem dueS_nil {fo : List (Option Msg)} {ls : List (List Nat)} : dueS (fo, ls) [] = (fo ++ [minG ls], []) := by unfold dueS; rw [if_pos rfl]
theorem dueS_line {fo : List (Option Msg)} {ls : List (List Nat)} {l : List Nat} (h : l ≠ []) : dueS (fo, ls) l = (fo, ls ++ [l]) := by unfold dueS; rw [if_neg h]
theorem due_mono : ∀ (W : List (List Nat)) (st : List (Option Msg) × List (List Nat)), none ∈ st.1 → none ∈ (W.foldl dueS st).1
  | [], _, h => h
  | l :: W, st, h => by
    rw [List.foldl_cons]
    refine due_mono W _ ?_
    unfold dueS
    split
    · exact List.mem_append_left _ h
    · exact h
theorem due_back : ∀ (W : List (List Nat)) (fo : List Msg) (ls : List (List Nat)), none ∉ (W.foldl dueS (fo.map some, ls)).1 →
    ∃ ms : List Msg, (W.foldl dueS (fo.map some, ls)).1 = (fo ++ ms).map some ∧ lnC ls ++ lnC W = (ms.map frC).flatten ++ lnC (W.foldl dueS (fo.map some, ls)).2 ∧ ∀ m ∈ ms, OkM m
  | [], fo, ls, _ => ⟨[], by simp, by simp [lnC], nofun⟩
  | l :: W, fo, ls, h => by
    rw [List.foldl_cons] at h ⊢
    by_cases e : l = []
    · rw [e, dueS_nil] at h ⊢
      cases hm : minG ls with
      | none =>
        rw [hm] at h
        exact absurd (due_mono W _ (by simp)) h
      | some m =>
        rw [hm] at h
        obtain ⟨hfr, om⟩ := minG_some hm
        have e1 : fo.map some ++ [some m] = (fo ++ [m]).map some := by simp
        rw [e1] at h ⊢
        obtain ⟨ms, h1, h2, h3⟩ := due_back W (fo ++ [m]) [] h
        refine ⟨m :: ms, by rw [h1]; simp, ?_, fun k hk => ?_⟩
        · rw [List.map_cons, List.flatten_cons, List.append_assoc, ← h2, hfr]
          unfold frC
          rw [lnC_app]
          simp [lnC]
        · rcases List.mem_cons.mp hk with rfl | hk
          · exact om
          · exact h3 k hk
    · rw [dueS_line e] at h ⊢
      obtain ⟨ms, h1, h2, h3⟩ := due_back W fo (ls ++ [l]) h
      refine ⟨ms, h1, ?_, h3⟩
      rw [← h2, lnC_app]
      simp [lnC]
theorem due_lines : ∀ (L : List (List Nat)) (fo : List (Option Msg)) (ls : List (List Nat)), (∀ l ∈ L, l ≠ []) → L.foldl dueS (fo, ls) = (fo, ls ++ L)
  | [], _, _, _ => by simp
  | l :: L, fo, ls, h => by
    rw [List.foldl_cons]
    have : dueS (fo, ls) l = (fo, ls ++ [l]) := by unfold dueS; rw [if_neg (h l List.mem_cons_self)]
    rw [this, due_lines L fo (ls ++ [l]) fun x hx => h x (List.mem_cons_of_mem _ hx)]
    simp
theorem due_forth : ∀ (ms : List Msg) (fo : List (Option Msg)), (∀ m ∈ ms, OkM m) → ((ms.map fun m => frB m ++ [[]]).flatten).foldl dueS (fo, []) = (fo ++ ms.map some, [])
  | [], fo, _ => by simp
  | m :: r, fo, h => by
    rw [List.map_cons, List.flatten_cons, List.foldl_append, List.foldl_append, due_lines _ _ _ fun l hl => (frB_ne m l hl).1]
    have : [([] : List Nat)].foldl dueS (fo, [] ++ frB m) = (fo ++ [some m], []) := by
      show dueS (fo, [] ++ frB m) [] = _
      unfold dueS
      rw [if_pos rfl, List.nil_append, minG_fr (h m List.mem_cons_self)]
    rw [this, due_forth r _ fun x hx => h x (List.mem_cons_of_mem _ hx)]
    simp
def dueF (cs : List Nat) : Option (List Msg) :=
  if (spl cs).getLastD [] ≠ [] ∨ ((spl cs).dropLast.foldl dueS ([], [])).2 ≠ [] ∨ none ∈ ((spl cs).dropLast.foldl dueS ([], [])).1 then none else some (((spl cs).dropLast.foldl dueS ([], [])).1.filterMap id)
theorem lines_fl (ms : List Msg) : (ms.map frC).flatten = lnC (ms.map fun m => frB m ++ [[]]).flatten := by
  induction ms with
  | nil => rfl
  | cons m r ih => rw [List.map_cons, List.flatten_cons, ih, List.map_cons, List.flatten_cons, lnC_app]; rfl
theorem fm_some (ms : List Msg) : (ms.map some).filterMap id = ms := by simp
theorem due_is (cs : List Nat) : dueF cs = rdA cs := by
  cases h : rdA cs with
  | some ms =>
    obtain ⟨rfl, okm⟩ := rdA_some h
    have hfree : ∀ l ∈ (ms.map fun m => frB m ++ [[]]).flatten, 10 ∉ l := fun l hl => by
      obtain ⟨L, hL, hl⟩ := List.mem_flatten.mp hl
      obtain ⟨m, hm, rfl⟩ := List.mem_map.mp hL
      rcases List.mem_append.mp hl with hl | hl
      · exact frB_free (okm m hm) l hl
      · rw [List.mem_singleton.mp hl]; exact nofun
    have e : spl (ms.map frC).flatten = (ms.map fun m => frB m ++ [[]]).flatten ++ [[]] := by
      have := spl_lnC (ls := (ms.map fun m => frB m ++ [[]]).flatten) (r := []) hfree
      rw [List.append_nil] at this
      rw [lines_fl, this]; rfl
    unfold dueF
    rw [e, List.dropLast_concat, due_forth ms [] okm, List.nil_append]
    rw [if_neg]
    · rw [fm_some]
    · simp
  | none =>
    unfold dueF
    by_cases hc : (spl cs).getLastD [] ≠ [] ∨ ((spl cs).dropLast.foldl dueS ([], [])).2 ≠ [] ∨ none ∈ ((spl cs).dropLast.foldl dueS ([], [])).1
    · rw [if_pos hc]
    · exfalso
      rw [not_or, not_or] at hc
      obtain ⟨c1, c2, c3⟩ := hc
      obtain ⟨ms, h1, h2, h3⟩ := due_back (spl cs).dropLast [] [] c3
      have c2' : ((spl cs).dropLast.foldl dueS (([] : List Msg).map some, [])).2 = [] := Classical.not_not.mp c2
      have c1' : (spl cs).getLastD [] = [] := Classical.not_not.mp c1
      rw [c2'] at h2
      have e : spl cs = (spl cs).dropLast ++ [[]] := by
        have := List.dropLast_concat_getLast (spl_ne cs)
        rw [← this]
        have h4 : (spl cs).getLast (spl_ne cs) = [] := by
          rw [← c1', List.getLastD_eq_getLast?, List.getLast?_eq_getLast (spl_ne cs)]; rfl
        rw [h4]; simp
      have e2 : cs = (ms.map frC).flatten := by
        have h5 := jn_spl cs
        rw [e, jn_end] at h5
        rw [← h5]
        simpa [lnC] using h2
      rw [e2, rdA_frames h3] at h
      cases h
def oMD : Option Msg → PyData
  | none => .none
  | some m => mD m
theorem oMD_shaped {o : Option Msg} (h : ∀ m, o = some m → mOk m) : SeqAt.shaped (oMD o) = true := by
  cases o with
  | none => rfl
  | some m => exact shaped_m (h m rfl)
theorem oMD_eqv (o : Option Msg) : PyData.eqv (oMD o) .none = decide (o = none) := by
  cases o with
  | none => rfl
  | some m => rfl
theorem oMD_any (fo : List (Option Msg)) : ((fo.map oMD).any fun e => PyData.eqv e .none) = decide (none ∈ fo) := by
  induction fo with
  | nil => rfl
  | cons o r ih =>
    rw [List.map_cons, List.any_cons, ih, oMD_eqv]
    cases o with
    | none => simp
    | some m => simp
theorem noLst_o : ∀ fo : List (Option Msg), noLstA (fo.map oMD) = true
  | [] => by simp [noLstA]
  | none :: r => by simp [noLstA, noLst, oMD, noLst_o r]
  | some m :: r => by simp [noLstA, noLst, oMD, mD, noLst_o r]
theorem all_some : ∀ fo : List (Option Msg), none ∉ fo → ∃ ms : List Msg, fo = ms.map some
  | [], _ => ⟨[], rfl⟩
  | none :: r, h => absurd List.mem_cons_self h
  | some m :: r, h => by
    obtain ⟨ms, e⟩ := all_some r fun z => h (List.mem_cons_of_mem _ z)
    exact ⟨m :: ms, by rw [e]; rfl⟩
def spDue : Sp := fun vs H Q _ => ∃ (z : Str), vs = [.str z] ∧ z.cps.toList.length ≤ 3900 ∧
  (∀ ms, dueF z.cps.toList = some ms → ∀ q ys H', Same H H' → H' q = some (.lst ys) → Ms H' ys ms → Q (.ref q) H') ∧ (dueF z.cps.toList = none → ∀ H', Same H H' → Q .non H')
abbrev s_l_due : Stmt := top 41
abbrev N_l_due : List Str := ["_law_text", "_law_found", "_law_lines", "_law_rows", "_law_line"]
theorem sc_l_due : FnScope N_l_due ["_law_text"] (defScope s_l_due) := ⟨rfl, rfl, rfl, by decide +kernel, rfl, by decide +kernel, by decide +kernel⟩
theorem ok_l_due {f : Addr} {fd : FuncData} (F : Fun K "_law_due" "_law_due" s_l_due f fd) (T : Txt mg) (c_l_message : Callee P w K mg base 4 "_law_message" ["_law_lines"] spLMsg) :
    FnOk P w K mg base CX0 5 f fd ["_law_text"] spDue := by
  refine F.ok sc_l_due (fun vs H Q E h => ?_) (fun cdv A outer s0 H vs Q E hr h => ?_)
  · obtain ⟨z, rfl, _⟩ := h; rfl
  · obtain ⟨z, rfl, hz, q1, q2⟩ := h
    refine ⟨_, (pss_cons (ps_set (i := 1) sc_l_due.nd rfl (Or.inl rfl) (as_lst as_nil))
      (pss_cons (ps_set (i := 2) sc_l_due.nd rfl (Or.inl rfl) (as_lst as_nil))
      (pss_cons (ps_set (i := 3) sc_l_due.nd rfl (Or.inl rfl) (k_bm K PySem.F.plainAttrs_str PySem.F.slot_str_split PySem.F.type_str_split mt_split (pv 0) (pa_cons pe_str pa_nil)))
      (pss_cons (ps_for PassesOwn.never rfl (k_it_list K (pe_slice (k_sl_list K) (pv 3) po_none (po_some (pe_un un_neg pe_int)))) (pg_name (i := 4) sc_l_due.nd rfl (Or.inl rfl)) (pss_one (ps_if (pt_cmpR op_ne (pv 4) pe_str (nomark _)) (pss_one (ps_expr (k_bm K PySem.F.plainAttrs_list PySem.F.slot_list_append PySem.F.type_list_append mt_append (pv 2) (pa_cons (pv 4) pa_nil)))) (pss_cons (ps_expr (k_bm K PySem.F.plainAttrs_list PySem.F.slot_list_append PySem.F.type_list_append mt_append (pv 1) (pa_cons (as_fn c_l_message (hr.mono (by decide)) (at_cons (pv 2) as_nil)) pa_nil)))
      (pss_one (ps_set (i := 2) sc_l_due.nd rfl (Or.inl rfl) (as_lst as_nil)))))))
      (pss_one (ps_ret (pe_ifExp (PW.pt (pw_or (pt_cmpR op_ne (pe_ix (k_ix_list K) (pv 3) (pe_un un_neg pe_int) (fun _ _ => rfl)) pe_str (nomark _)) (pw_or (pt_cmpR (k_ne0 K hr.units0) (pv 2) (as_lst as_nil) (nomark _)) (pw_or1 (pt_cmpR (op_inD (Room.in1u hr)) pe_non (pv 1) (by with_unfolding_all rfl)))))) pe_non (pv 1)))))))), ?_⟩
    refine ⟨Nat.zero_le _, fun f0 hf0 => ?_⟩
    have s1 := Same.new (o := .lst []) hf0
    have e1 : upd H f0 (.lst []) f0 = some (.lst []) := upd_same
    generalize upd H f0 (.lst []) = H1 at s1 e1 ⊢
    refine ⟨Nat.zero_le _, fun l3 hl3 => ?_⟩
    have s2 := Same.new (o := .lst []) hl3
    have e2 : upd H1 l3 (.lst []) l3 = some (.lst []) := upd_same
    have hl30 : H l3 = none := same_none s1 hl3
    have n30 : l3 ≠ f0 := fun e => by rw [e, e1] at hl3; cases hl3
    have e1' := s2 _ _ e1
    generalize upd H1 l3 (.lst []) = H2 at s2 e2 e1' ⊢
    obtain ⟨W, last, eW⟩ : ∃ W last, spl z.cps.toList = W ++ [last] := by
      have := spl_ne z.cps.toList
      exact ⟨_, _, (List.dropLast_concat_getLast this).symm⟩
    have hwl := spl_len z.cps.toList
    rw [eW, List.length_append, List.length_singleton] at hwl
    have hWx : ∀ x ∈ W, x.length ≤ 4000 ∧ 10 ∉ x := fun x hx => by
      have hx' : x ∈ spl z.cps.toList := by rw [eW]; exact List.mem_append_left _ hx
      have h1 := spl_part _ x hx'
      exact ⟨by omega, spl_all _ x hx'⟩
    have hdue : dueF z.cps.toList = if last ≠ [] ∨ (W.foldl dueS ([], [])).2 ≠ [] ∨ none ∈ (W.foldl dueS ([], [])).1 then none else some ((W.foldl dueS ([], [])).1.filterMap id) := by
      unfold dueF
      rw [eW, List.dropLast_concat]
      simp
    refine ⟨_, rfl, rfl, _, "\n", rfl, rfl, by decide +kernel, by rw [← cps_len, sizeLine_eq]; omega, fun r4 hr4 => ?_⟩
    rw [split_spl, eW]
    have s3 := Same.new (o := .lst (((W ++ [last]).map fun (l : List Nat) => (⟨l.toArray⟩ : Str)).map V.str)) hr4
    have e3 : upd H2 r4 (.lst (((W ++ [last]).map fun (l : List Nat) => (⟨l.toArray⟩ : Str)).map V.str)) r4 = some (.lst ((W ++ [last]).map sV)) := by rw [upd_same, List.map_map]; rfl
    generalize upd H2 r4 (.lst (((W ++ [last]).map fun (l : List Nat) => (⟨l.toArray⟩ : Str)).map V.str)) = H3 at s3 e3 ⊢
    have s13 := (s1.trans s2).trans s3
    have e1'' := s3 _ _ e1'
    have e2'' := s3 _ _ e2
    have n43 : l3 ≠ r4 := fun e => by rw [e, hr4] at e2; cases e2
    have n40 : f0 ≠ r4 := fun e => by rw [e, hr4] at e1'; cases e1'
    refine ⟨_, rfl, 1, rfl, _, rfl, r4, _, rfl, SqL.ofL e3, fun r5 hr5 => ?_⟩
    have ecut : cutV ((W ++ [last]).map sV) none (some (-1)) = W.map sV := by rw [cut_last, List.map_append]; exact List.dropLast_concat
    rw [show (-(1 : Int)) = -1 from rfl, ecut]
    have s4 := Same.new (o := .lst (W.map sV)) hr5
    have e4 : upd H3 r5 (.lst (W.map sV)) r5 = some (.lst (W.map sV)) := upd_same
    have n53 : l3 ≠ r5 := fun e => by rw [e, hr5] at e2''; cases e2''
    have n50 : f0 ≠ r5 := fun e => by rw [e, hr5] at e1''; cases e1''
    have e34 := s4 _ _ e3
    have e14 := s4 _ _ e1''
    have e24 := s4 _ _ e2''
    generalize upd H3 r5 (.lst (W.map sV)) = H4 at s4 e4 e34 e14 e24 ⊢
    have s14 := s13.trans s4
    refine ⟨r5, rfl, ⟨_, SqL.ofL e4⟩, for_list (K := K) (a := r5) (xs := W.map sV) (fun i σ H' => ∃ (li : Addr) (o4 : Option V) (ys : List V) (fo : List (Option Msg)) (lsi : List (List Nat)), σ = [some (.str z), some (.ref f0), some (.ref li), some (.ref r4), o4] ∧
        H' f0 = some (.lst ys) ∧ HasL H' ys (fo.map oMD) ∧ H' li = some (.lst (lsi.map sV)) ∧ (W.take i).foldl dueS ([], []) = (fo, lsi) ∧ Same H H' ∧ H' r4 = some (.lst ((W ++ [last]).map sV)) ∧ H' r5 = some (.lst (W.map sV)) ∧ li ≠ f0 ∧ H li = none ∧ li ≠ r4 ∧ li ≠ r5 ∧ fo.length ≤ i ∧ lsi.length ≤ i ∧ (∀ x ∈ lsi, x.length ≤ 4000 ∧ 10 ∉ x) ∧ ∀ m, some m ∈ fo → OkM m)
      ⟨l3, none, [], [], [], rfl, e14, hasL_nil, e24, rfl, s14, e34, e4, n30, hl30, n43, n53, Nat.le_refl _, Nat.le_refl _, nofun, nofun⟩ (fun i σ H' _ ⟨_, _, _, _, _, _, _, _, _, _, _, _, h5, _⟩ => SqL.ofL h5) ?_ ?_⟩
    · rintro i y σ H' hi ⟨li, o4, ys, fo, lsi, rfl, hf, hM, hli, hfo, sH, h4, h5, nl0, hli0, nl4, nl5, hmi, hlsi, hlx, hok⟩
      rw [List.getElem?_map] at hi
      have hiW : i < W.length := by
        cases e : W[i]? with
        | none => rw [e] at hi; cases hi
        | some w => exact (List.getElem?_eq_some_iff.mp e).1
      rw [List.getElem?_eq_getElem hiW] at hi
      obtain rfl := Option.some.inj hi
      have efo : (W.take (i + 1)).foldl dueS ([], []) = dueS (fo, lsi) W[i] := by
        rw [List.take_add_one, List.getElem?_eq_getElem hiW, List.foldl_append, hfo]; rfl
      have hlx2 := hWx W[i] (List.getElem_mem hiW)
      generalize W[i] = line at efo hlx2 ⊢
      have ee : sV line = V.str "" ↔ line = [] := by
        have e0 : ("" : Str).cps.toList = [] := by decide +kernel
        refine ⟨fun w => ?_, fun w => by rw [w]; rfl⟩
        injection w with w
        have := congrArg (fun z : Str => z.cps.toList) w
        rw [e0] at this
        simpa using this
      refine rd_name ?_
      refine ⟨_, rfl, rfl, _, rfl, ite2 (fun b => ?_) (fun b => ?_)⟩
      · have hne : line ≠ [] := fun w => by simp [ee.mpr w] at b
        rw [dueS_line hne] at efo
        refine ⟨_, rfl, .inl ⟨rfl, _, SqL.ofL hli⟩, _, rfl, li, _, _, rfl, rfl, hli, (by rw [List.length_map, sizeLine_eq]; omega), ?_⟩
        have st3 : Stp [li] H' [li] (upd H' li (.lst (lsi.map sV ++ [sV line]))) := Stp.put hli (by intro xs w; cases w) (by simp)
        refine ⟨li, _, ys, fo, lsi ++ [line], rfl, by rw [upd_ne nl0.symm]; exact hf, HasL.tups st3.tup (noLst_o fo) hM, by rw [upd_same, List.map_append]; rfl, efo, same_upd sH hli0, by rw [upd_ne nl4.symm]; exact h4, by rw [upd_ne nl5.symm]; exact h5, nl0, hli0, nl4, nl5, by omega, by rw [List.length_append, List.length_singleton]; omega, fun x hx => ?_, hok⟩
        rcases List.mem_append.mp hx with hx | hx
        · exact hlx x hx
        · rw [List.mem_singleton.mp hx]; exact hlx2
      · have hne : line = [] := by
          refine Classical.byContradiction fun ne => b ?_
          rw [decide_eq_false (fun w => ne (ee.mp w))]; rfl
        rw [hne, dueS_nil] at efo
        refine ⟨_, rfl, .inl ⟨rfl, _, SqL.ofL hf⟩, _, rfl, li, lsi, rfl, hli, hlx, by omega, fun m hm c G2 u2 hc => ?_, fun hm G2 u2 => ?_⟩
        · rw [hm] at efo
          have hv : Has G2 (.ref c) (oMD (some m)) := msg_has hc
          have hoo : ∀ m', some m = some m' → OkM m' := fun m' e => by rw [← Option.some.inj e]; exact (minG_some hm).2
          refine ⟨f0, ys, (.ref c), rfl, rfl, u2 _ _ hf, (by have := hM.length; rw [List.length_map] at this; rw [this, sizeLine_eq]; omega), ?_⟩
          have st3 : Stp [f0] G2 [f0] (upd G2 f0 (.lst (ys ++ [(.ref c)]))) := Stp.put (u2 _ _ hf) (by intro xs w; cases w) (by simp)
          have hM3 : HasL (upd G2 f0 (.lst (ys ++ [(.ref c)]))) (ys ++ [(.ref c)]) ((fo ++ [(some m)]).map oMD) := by
            rw [List.map_append]
            exact HasL.tups st3.tup (by rw [← List.map_append]; exact noLst_o _) (HasL.append (HasL.same u2 hM) (hasL_cons hv hasL_nil))
          have hf3 : upd G2 f0 (.lst (ys ++ [(.ref c)])) f0 = some (.lst (ys ++ [(.ref c)])) := upd_same
          have h43 : upd G2 f0 (.lst (ys ++ [(.ref c)])) r4 = some (.lst ((W ++ [last]).map sV)) := by rw [upd_ne n40.symm]; exact u2 _ _ h4
          have h53 : upd G2 f0 (.lst (ys ++ [(.ref c)])) r5 = some (.lst (W.map sV)) := by rw [upd_ne n50.symm]; exact u2 _ _ h5
          have sH3 : Same H (upd G2 f0 (.lst (ys ++ [(.ref c)]))) := same_upd (sH.trans u2) hf0
          generalize upd G2 f0 (.lst (ys ++ [(.ref c)])) = G3 at st3 hM3 hf3 h43 h53 sH3 ⊢
          refine ⟨Nat.zero_le _, fun l' hl' => ?_⟩
          have t4 := Same.new (o := .lst []) hl'
          refine ⟨l', _, ys ++ [(.ref c)], fo ++ [(some m)], [], rfl, t4 _ _ hf3, HasL.same t4 hM3, upd_same, efo, sH3.trans t4, t4 _ _ h43, t4 _ _ h53, ?_, same_none sH3 hl', ?_, ?_, ?_, Nat.zero_le _, nofun, fun m' hm' => ?_⟩
          · intro e; rw [e, hf3] at hl'; cases hl'
          · intro e; rw [e, h43] at hl'; cases hl'
          · intro e; rw [e, h53] at hl'; cases hl'
          · rw [List.length_append, List.length_singleton]; omega
          · rcases List.mem_append.mp hm' with h | h
            · exact hok m' h
            · exact hoo m' (List.mem_singleton.mp h).symm
        · rw [hm] at efo
          have hv : Has G2 .non (oMD none) := has_none
          have hoo : ∀ m', (none : Option Msg) = some m' → OkM m' := nofun
          refine ⟨f0, ys, V.non, rfl, rfl, u2 _ _ hf, (by have := hM.length; rw [List.length_map] at this; rw [this, sizeLine_eq]; omega), ?_⟩
          have st3 : Stp [f0] G2 [f0] (upd G2 f0 (.lst (ys ++ [V.non]))) := Stp.put (u2 _ _ hf) (by intro xs w; cases w) (by simp)
          have hM3 : HasL (upd G2 f0 (.lst (ys ++ [V.non]))) (ys ++ [V.non]) ((fo ++ [none]).map oMD) := by
            rw [List.map_append]
            exact HasL.tups st3.tup (by rw [← List.map_append]; exact noLst_o _) (HasL.append (HasL.same u2 hM) (hasL_cons hv hasL_nil))
          have hf3 : upd G2 f0 (.lst (ys ++ [V.non])) f0 = some (.lst (ys ++ [V.non])) := upd_same
          have h43 : upd G2 f0 (.lst (ys ++ [V.non])) r4 = some (.lst ((W ++ [last]).map sV)) := by rw [upd_ne n40.symm]; exact u2 _ _ h4
          have h53 : upd G2 f0 (.lst (ys ++ [V.non])) r5 = some (.lst (W.map sV)) := by rw [upd_ne n50.symm]; exact u2 _ _ h5
          have sH3 : Same H (upd G2 f0 (.lst (ys ++ [V.non]))) := same_upd (sH.trans u2) hf0
          generalize upd G2 f0 (.lst (ys ++ [V.non])) = G3 at st3 hM3 hf3 h43 h53 sH3 ⊢
          refine ⟨Nat.zero_le _, fun l' hl' => ?_⟩
          have t4 := Same.new (o := .lst []) hl'
          refine ⟨l', _, ys ++ [V.non], fo ++ [none], [], rfl, t4 _ _ hf3, HasL.same t4 hM3, upd_same, efo, sH3.trans t4, t4 _ _ h43, t4 _ _ h53, ?_, same_none sH3 hl', ?_, ?_, ?_, Nat.zero_le _, nofun, fun m' hm' => ?_⟩
          · intro e; rw [e, hf3] at hl'; cases hl'
          · intro e; rw [e, h43] at hl'; cases hl'
          · intro e; rw [e, h53] at hl'; cases hl'
          · rw [List.length_append, List.length_singleton]; omega
          · rcases List.mem_append.mp hm' with h | h
            · exact hok m' h
            · exact hoo m' (List.mem_singleton.mp h).symm
    · rintro σ H' ⟨li, o4, ys, fo, lsi, rfl, hf, hM, hli, hfo, sH, h4, h5, nl0, hli0, nl4, nl5, hmi, hlsi, hlx, hok⟩
      rw [List.length_map, List.take_length] at hfo
      rw [hfo] at hdue
      have ee : sV last = V.str "" ↔ last = [] := by
        have e0 : ("" : Str).cps.toList = [] := by decide +kernel
        refine ⟨fun w => ?_, fun w => by rw [w]; rfl⟩
        injection w with w
        have := congrArg (fun z : Str => z.cps.toList) w
        rw [e0] at this
        simpa using this
      refine ⟨_, rfl, 1, rfl, r4, _, -1, _, rfl, rfl, SqL.ofL h4, (by rw [List.map_append]; exact atI_last _ _), rfl, _, rfl, ite2 (fun b => ?_) (fun b => ?_)⟩
      · refine q2 ?_ _ sH
        rw [hdue]
        refine if_pos (.inl fun w => ?_)
        simp [ee.mpr w] at b
      have hl0 : last = [] := by
        refine Classical.byContradiction fun ne => b ?_
        rw [decide_eq_false (fun w => ne (ee.mp w))]; rfl
      refine ⟨_, rfl, Nat.zero_le _, fun r6 hr6 => ?_⟩
      have t6 := Same.new (o := .lst []) hr6
      have hf6 := t6 _ _ hf
      have hli6 := t6 _ _ hli
      have hM6 := HasL.same t6 hM
      have sH6 := sH.trans t6
      refine ⟨li, r6, _, rfl, rfl, SqL.ofL hli6, SqL.ofL upd_same, _, rfl, ite2 (fun b2 => ?_) (fun b2 => ?_)⟩
      · refine q2 ?_ _ sH6
        rw [hdue]
        refine if_pos (.inr (.inl fun w => ?_))
        dsimp only at w
        rw [w] at b2
        cases b2
      have hlsi0 : lsi = [] := by
        cases lsi with
        | nil => rfl
        | cons x r => exact absurd rfl b2
      generalize upd H' r6 (.lst []) = H6 at hf6 hM6 sH6 ⊢
      refine ⟨_, rfl, f0, ys, .none, fo.map oMD, rfl, hf6, hM6, has_none, rfl, fun e he => ?_, _, rfl, ite2 (fun b3 => ?_) (fun b3 => ?_)⟩
      · obtain ⟨o, ho, rfl⟩ := List.mem_map.mp he
        exact oMD_shaped fun m hm => (hok m (hm ▸ ho)).mok
      · have b3' : ((fo.map oMD).any fun e => PyData.eqv e .none) = true := b3
        rw [oMD_any] at b3'
        refine q2 ?_ _ sH6
        rw [hdue, if_pos (.inr (.inr (of_decide_eq_true b3')))]
      · have b3' : none ∉ fo := fun w => b3 (by
          show ((fo.map oMD).any fun e => PyData.eqv e .none) = true
          rw [oMD_any]; exact decide_eq_true w)
        obtain ⟨ms, rfl⟩ : ∃ ms : List Msg, fo = ms.map some := all_some fo b3'
        rw [if_neg (by rw [not_or, not_or]; exact ⟨Classical.not_not.mpr hl0, Classical.not_not.mpr hlsi0, b3'⟩), fm_some] at hdue
        refine ⟨_, rfl, q1 ms hdue f0 ys _ sH6 hf6 ?_⟩
        have e : (ms.map some).map oMD = ms.map mD := by rw [List.map_map]; rfl
        rw [e] at hM6
        exact hM6

end
end K82

namespace K82
open PySem L2
def spLaw (K : PySem.W.Frag) : Sp := fun vs H Q _ => ∃ (a : Addr) (ns : List Int), vs = [.ref a] ∧ SqL K H a (ns.map V.int) ∧ ns.length ≤ 63 ∧ ∀ H', Q (.bl true) H'
theorem tnil {σ : St} {H : Hp} {k : List V → Hp → Prop} (h : k [] H) : tNil σ H k := h
theorem lits5 : ∀ z ∈ (["", "id: 1\ntopic: a\n\n", "id: 01\ntopic: a\ndata: x\n\n", ":\n"] : List Str), z.cps.toList.length ≤ 3900 := by decide +kernel
def lin7 : List Nat := [105, 100, 58, 32, 55]
def top7 : List Nat := [116, 111, 112]
def m7 : Msg := ⟨7, "b", "z"⟩
theorem ok7 : OkM m7 := by decide +kernel
theorem r7 : rdC ([], [], []) ("id: 7\ntop" : Str).cps.toList = some ([], [lin7], top7) := by decide +kernel
theorem rbad : rdC ([], [lin7], top7) ("ic: a\ndata: x\n\nid: 8\ntopic: A\ndata: y\n\n" : Str).cps.toList = none := by decide +kernel
theorem rb7 : rdC ([], [lin7], top7) ("ic: b\ndata: z\n\n" : Str).cps.toList = some ([m7], [], []) := by decide +kernel
theorem fr7 : ("id: 7\ntopic: b\ndata: z\n\n" : Str).cps.toList = frC m7 := by decide +kernel
theorem jn_sum : ∀ X : List (List Nat), (jn X).length ≤ (X.map List.length).sum + X.length
  | [] => Nat.le_refl _
  | [x] => by show x.length ≤ _; simp
  | x :: y :: r => by
    have := jn_sum (y :: r)
    show (x ++ 10 :: jn (y :: r)).length ≤ _
    rw [List.length_append, List.length_cons, List.map_cons, List.sum_cons, List.length_cons (a := x)]
    omega
theorem spl_sum : ∀ l : List Nat, ((spl l).map List.length).sum ≤ l.length
  | [] => Nat.le_refl _
  | c :: r => by
    have ih := spl_sum r
    rw [spl]
    split
    · rw [List.map_cons, List.sum_cons, List.length_cons]; show 0 + _ ≤ _; omega
    · cases hs : spl r with
      | nil => exact absurd hs (spl_ne r)
      | cons h t =>
        rw [hs, List.map_cons, List.sum_cons] at ih
        show (((c :: h) :: t).map List.length).sum ≤ _
        rw [List.map_cons, List.sum_cons, List.length_cons, List.length_cons]
        omega
theorem sum_cut (Y : List (List Nat)) (k : Nat) : ((Y.take k).map List.length).sum + ((Y.drop k).map List.length).sum = (Y.map List.length).sum := by
  rw [← List.sum_append, ← List.map_append, List.take_append_drop]
theorem sum_app (Y Z : List (List Nat)) : ((Y ++ Z).map List.length).sum = (Y.map List.length).sum + (Z.map List.length).sum := by rw [List.map_append, List.sum_append]
theorem sum_rev (Y : List (List Nat)) : (Y.reverse.map List.length).sum = (Y.map List.length).sum := by rw [List.map_reverse, List.sum_reverse]
theorem cut_mid {xs : List V} {i j : Int} (h0 : 0 ≤ i) (h1 : i ≤ j) : cutV xs (some i) (some j) = (xs.drop i.toNat).take (j.toNat - i.toNat) := by
  obtain ⟨a, rfl⟩ : ∃ k : Nat, i = (k : Int) := ⟨i.toNat, by omega⟩
  obtain ⟨b, rfl⟩ : ∃ k : Nat, j = (k : Int) := ⟨j.toNat, by omega⟩
  unfold cutV
  rw [HT.sIx_nat, HT.sIx_nat, Int.toNat_natCast, Int.toNat_natCast]
  by_cases h : a ≤ xs.length
  · rw [Nat.min_eq_left h]
    refine List.take_eq_take_iff.mpr ?_
    rw [List.length_drop]; omega
  · rw [List.drop_of_length_le (show xs.length ≤ min a xs.length by omega), List.drop_of_length_le (show xs.length ≤ a by omega)]; simp
/-- a joined text -/
theorem join_ok {K : PySem.W.Frag} {H : Hp} {l : Addr} {X : List (List Nat)} {Q : VK} (hl : H l = some (.lst (X.map sV))) (hs : (X.map List.length).sum + X.length ≤ 3900) (q : ∀ z : Str, z.cps.toList.length ≤ 3900 → Q (.str z) H) : rJoin K (.str "\n") [.ref l] H Q := by
  have e9 : H l = some (.lst ((X.map mkS).map V.str)) := by rw [hl, List.map_map]; rfl
  have ej : (Txt.join "\n" (X.map mkS)).cps.toList = jn X := by
    rw [join_jn, List.map_map]
    have : ((fun (y : Str) => y.cps.toList) ∘ mkS) = id := by funext l; simp [mkS]
    rw [this, List.map_id]
  refine ⟨"\n", l, X.map mkS, rfl, rfl, SqL.ofL e9, ?_, q _ ?_⟩
  · have e2 : ((fun (z : Str) => z.length) ∘ mkS) = List.length := by funext l; simp [mkS, Str.length]
    have e : ("\n" : Str).length = 1 := by decide +kernel
    rw [e, List.map_map, e2, List.length_map]
    omega
  · rw [ej]
    have := jn_sum X
    omega
section
variable {P : Program} {w : World} {K : PySem.W.Frag} {mg : Str → Option Value} {base : Heap}
abbrev s_law : Stmt := top 42
abbrev N_law : List Str := ["_law_script", "_law_messages", "_law_text", "_law_at", "_law_sign", "_law_lines", "_law_to", "_law_texts", "_law_turned", "_law_other", "_law_reader", "_law_bad", "_law_caught"]
theorem sc_law : FnScope N_law ["_law_script"] (defScope s_law) := ⟨rfl, rfl, rfl, by decide +kernel, rfl, by decide +kernel, by decide +kernel⟩
theorem ok_law {f C CT CN CM CO : Addr} {fd : FuncData} (F : Fun K "law" "law" s_law f fd) (T : Txt mg) (TC : TxtC K mg C) (TX : TxtX K mg CT CN CM CO) (c_l_wide : Callee P w K mg base 4 "_law_wide" ["_law_script", "_law_at", "_law_most"] (spWide K)) (c_l_drawn : Callee P w K mg base 2 "_law_drawn" ["_law_script", "_law_k", "_law_many"] (spDrawn K))
    (c_stream_text : Callee P w K mg base 4 "stream_text" ["messages"] spSmT) (c_frame_text : Callee P w K mg base 3 "frame_text" ["message"] spFrT) (c_l_told : Callee P w K mg base 7 "_law_told" ["_law_text"] spTold) (c_l_due : Callee P w K mg base 5 "_law_due" ["_law_text"] spDue)
    (i_Reader : CalleeI P w K mg base 1 C ["self"] (spDInit C)) (mx_feed : CalleeMX P w K mg base 5 C "feed" ["self", "piece"] (spFeedX C CN)) (m_is_between : CalleeM P w K mg base 1 C "is_between" ["self"] (spBetween C)) :
    FnOk P w K mg base CX0 8 f fd ["_law_script"] (spLaw K) := by
  refine F.ok sc_law (fun vs H Q E h => ?_) (fun cdv A outer s0 H vs Q E hr h => ?_)
  · obtain ⟨a, ns, rfl, _⟩ := h; rfl
  · obtain ⟨a, ns, rfl, hS, hlen, q⟩ := h
    refine ⟨_, (pss_cons (ps_set (i := 1) sc_law.nd rfl (Or.inl rfl) (as_fn c_l_wide (hr.mono (by decide)) (at_cons (pv 0) (as_cons pe_int (as_cons pe_int as_nil)))))
      (pss_cons (ps_set (i := 2) sc_law.nd rfl (Or.inl rfl) (as_fn c_stream_text (hr.mono (by decide)) (at_cons (pv 1) as_nil)))
      (pss_cons (ps_set (i := 3) sc_law.nd rfl (Or.inl rfl) (as_fn c_l_drawn (hr.mono (by decide)) (at_cons (pv 0) (as_cons pe_int (as_cons (pe_op op_add (as_callB call_len_str (by rfl) T.b_len PySem.boot_len (at_cons (pv 2) as_nil)) pe_int) as_nil)))))
      (pss_cons (ps_set (i := 4) sc_law.nd rfl (Or.inl rfl) (pe_ix ix_str pe_str (as_fn c_l_drawn (hr.mono (by decide)) (at_cons (pv 0) (as_cons pe_int (as_cons pe_int as_nil)))) (fun _ _ => rfl)))
      (pss_cons (ps_set (i := 5) sc_law.nd rfl (Or.inl rfl) (k_bm K PySem.F.plainAttrs_str PySem.F.slot_str_split PySem.F.type_str_split mt_split (pv 2) (pa_cons pe_str pa_nil)))
      (pss_cons (ps_set (i := 6) sc_law.nd rfl (Or.inl rfl) (as_fn c_l_drawn (hr.mono (by decide)) (at_cons (pv 0) (as_cons pe_int (as_cons (as_callB (k_len_seq K) (by rfl) T.b_len PySem.boot_len (at_cons (pv 5) as_nil)) as_nil)))))
      (pss_cons (ps_set (i := 7) sc_law.nd rfl (Or.inl rfl) (as_lst (as_cons (pv 2) (as_cons (pe_op op_add_str (pe_slice sl_str (pv 2) po_none (po_some (pv 3))) (pe_slice sl_str (pv 2) (po_some (pe_op op_add (pv 3) pe_int)) po_none)) (as_cons (pe_op op_add_str (pe_slice sl_str (pv 2) po_none (po_some (pe_op op_add (pv 3) pe_int))) (pe_slice sl_str (pv 2) (po_some (pv 3)) po_none)) (as_cons (pe_op op_add_str (pe_op op_add_str (pe_slice sl_str (pv 2) po_none (po_some (pv 3))) (pv 4)) (pe_slice sl_str (pv 2) (po_some (pe_op op_add (pv 3) pe_int)) po_none)) as_nil))))))
      (pss_cons (ps_set (i := 7) sc_law.nd rfl (Or.inl rfl) (pe_op op_cat (pv 7) (as_lst (as_cons (k_bm K PySem.F.plainAttrs_str PySem.F.slot_str_join PySem.F.type_str_join (k_join K) pe_str (pa_cons (pe_op op_cat (pe_slice (k_sl_list K) (pv 5) po_none (po_some (pv 6))) (pe_slice (k_sl_list K) (pv 5) (po_some (pe_op op_add (pv 6) pe_int)) po_none)) pa_nil)) (as_cons (k_bm K PySem.F.plainAttrs_str PySem.F.slot_str_join PySem.F.type_str_join (k_join K) pe_str (pa_cons (pe_op op_cat (pe_slice (k_sl_list K) (pv 5) po_none (po_some (pe_op op_add (pv 6) pe_int))) (pe_slice (k_sl_list K) (pv 5) (po_some (pv 6)) po_none)) pa_nil)) as_nil)))))
      (pss_cons (ps_set (i := 8) sc_law.nd rfl (Or.inl rfl) (pe_op op_cat (pe_op op_cat (pe_slice (k_sl_list K) (pv 5) po_none (po_some (pv 6))) (k_revL K (pe_slice (k_sl_list K) (pv 5) (po_some (pv 6)) (po_some (pe_op op_add (pv 6) pe_int))))) (pe_slice (k_sl_list K) (pv 5) (po_some (pe_op op_add (pv 6) pe_int)) po_none)))
      (pss_cons (ps_set (i := 7) sc_law.nd rfl (Or.inl rfl) (pe_op op_cat (pv 7) (as_lst (as_cons (k_bm K PySem.F.plainAttrs_str PySem.F.slot_str_join PySem.F.type_str_join (k_join K) pe_str (pa_cons (pv 8) pa_nil)) (as_cons pe_str (as_cons pe_str (as_cons pe_str (as_cons pe_str as_nil))))))))
      (pss_cons (ps_for PassesOwn.never rfl (k_it_list K (pv 7)) (pg_name (i := 9) sc_law.nd rfl (Or.inl rfl)) (pss_one (ps_if (pt_cmpR (op_neD hr.units) (as_fn c_l_told (hr.mono (by decide)) (at_cons (pv 9) as_nil)) (as_fn c_l_due (hr.mono (by decide)) (at_cons (pv 9) as_nil)) (nomark _)) (pss_one (ps_ret pe_bl)) pss_nil)))
      (pss_cons (ps_set (i := 10) sc_law.nd rfl (Or.inl rfl) (as_make0 i_Reader (hr.mono (by decide)) TC.mg_Reader))
      (pss_cons (ps_expr (as_methX mx_feed TC.cl_Reader (hr.mono (by decide)) pass_none (pv 10) (at_cons pe_str as_nil)))
      (pss_cons (ps_set (i := 11) sc_law.nd rfl (Or.inl rfl) pe_str)
      (pss_cons (ps_set (i := 12) sc_law.nd rfl (Or.inl rfl) pe_bl)
      (pss_cons (ps_tryK K (fun E σ0 _ _ hp => (pss_one (ps_expr (as_methG mx_feed TC.cl_Reader (hr.mono (by decide)) hp (pv 10) (at_cons (pv 11) as_nil))))) TX.a_NoText (fun _ => (pss_one (ps_set (i := 12) sc_law.nd rfl (Or.inl rfl) pe_bl))) rfl rfl)
      (pss_cons (ps_if (PW.pt (pw_or (pt_not (pt_val (pv 12))) (pw_or (pt_val (as_meth0 m_is_between TC.cl_Reader (hr.mono (by decide)) (pv 10))) (pw_or1 (pt_cmpR (op_neD hr.units) (as_methX mx_feed TC.cl_Reader (hr.mono (by decide)) pass_none (pv 10) (at_cons (pe_op op_add_str pe_str (pv 2)) as_nil)) (pe_op op_cat (as_lst (as_cons (as_tup (as_cons pe_int (as_cons pe_str (as_cons pe_str as_nil)))) as_nil)) (pv 1)) (nomark _)))))) (pss_one (ps_ret pe_bl)) pss_nil)
      (pss_one (ps_ret (pe_and (as_meth0 m_is_between TC.cl_Reader (hr.mono (by decide)) (pv 10)) (pe_one (pe_cmpR op_eq (as_fn c_frame_text (hr.mono (by decide)) (at_cons (as_tup (as_cons pe_int (as_cons pe_str (as_cons pe_str as_nil)))) as_nil)) pe_str (nomark _))))))))))))))))))))))), ?_⟩
    refine ⟨_, rfl, a, ns, 0, 3, rfl, hS, hlen, by decide, by decide, by decide, fun g ys ms H1 s1 hg0 hg hM hml okm => ?_⟩
    have hyl := hM.len
    have LS : ∀ l : List Nat, (⟨l.toArray⟩ : Str).length = l.length := fun l => by simp [Str.length]
    have hml' : ms.length ≤ 3 := by omega
    have hft : (ms.map frC).flatten.length ≤ 756 := by
      rw [List.length_flatten, List.map_map]
      have h4 : ∀ x ∈ (ms.map frC), x.length ≤ 252 := fun x hx => by
        obtain ⟨m, hm, rfl⟩ := List.mem_map.mp hx
        exact frC_len (okm m hm)
      have := sum_le _ h4
      rw [List.map_map, List.length_map] at this
      omega
    have hrun := fun fd => run_segs (segs_frames okm) fd
    have okm' : ∀ m ∈ ms, mOk m := fun m hm => (okm m hm).mok
    refine ⟨_, rfl, g, ys, ms, rfl, hg, hM, by omega, okm, fun H2 t2 => ?_⟩
    have hg2 := t2 _ _ hg
    have hM2 := hM.same t2
    have s2 := s1.trans t2
    generalize (ms.map frC).flatten = TT at hft hrun ⊢
    have sz : (⟨TT.toArray⟩ : Str).length = TT.length := LS TT
    have LC : ∀ x y : Str, (x ++ y).length = x.length + y.length := fun x y => by rw [← cps_len, cat_cps, List.length_append, cps_len, cps_len]
    have sl1 : ∀ j : Int, 0 ≤ j → (PySem.Txt.slice (⟨TT.toArray⟩ : Str) none (some j)).length ≤ 756 := fun j hj => by
      rw [slice_take hj, LS, List.length_take]
      show min _ TT.length ≤ _
      omega
    have sl2 : ∀ j : Int, 0 ≤ j → (PySem.Txt.slice (⟨TT.toArray⟩ : Str) (some j) none).length ≤ 756 := fun j hj => by
      rw [slice_from hj, LS, List.length_drop]
      show TT.length - _ ≤ _
      omega
    have d0 := drawn_nn ns 100 (m := ((⟨TT.toArray⟩ : Str).length : Int) + 1) (by omega)
    refine ⟨_, rfl, _, rfl, _, rfl, by rw [sz, sizeLine_eq]; omega, _, _, rfl, rfl, a, ns, 100, _, rfl, s2.seq hS, hlen, by decide, by omega, fun H3 t3 => ?_⟩
    generalize drawnF ns 100 (((⟨TT.toArray⟩ : Str).length : Int) + 1) = at' at d0 ⊢
    have s3 := s2.trans t3
    have c0 := drawn_nn ns 101 (m := 7) (by decide)
    have c1 := drawn_lt ns 101 (m := 7) (by decide)
    refine ⟨_, rfl, a, ns, 101, 7, rfl, s3.seq hS, hlen, by decide, by decide, fun H4 t4 => ?_⟩
    generalize drawnF ns 101 7 = d2 at c0 c1 ⊢
    have hlit : (":\n a0id" : Str).cps.toList.length = 7 := by decide +kernel
    have hlit2 : (":\n a0id" : Str).length ≤ sizeLine := by decide +kernel
    have hix : atI (":\n a0id" : Str).cps.toList d2 = some ((":\n a0id" : Str).cps.toList[d2.toNat]'(by omega)) := by
      obtain ⟨k, rfl⟩ : ∃ k : Nat, d2 = (k : Int) := ⟨d2.toNat, by omega⟩
      exact atI_nat (List.getElem?_eq_getElem (by rw [hlit]; omega))
    refine ⟨_, _, _, rfl, rfl, hlit2, hix, ?_⟩
    generalize ((":\n a0id" : Str).cps.toList[d2.toNat]'(by omega)) = cc
    have lcc : (⟨#[cc]⟩ : Str).length = 1 := rfl
    have s4 := s3.trans t4
    refine ⟨_, rfl, rfl, _, "\n", rfl, rfl, by decide +kernel, by rw [sz, sizeLine_eq]; omega, fun r5 hr5 => ?_⟩
    rw [split_spl, show (⟨TT.toArray⟩ : Str).cps.toList = TT from rfl]
    have t5 := Same.new (o := .lst (((spl TT).map fun (l : List Nat) => (⟨l.toArray⟩ : Str)).map V.str)) hr5
    have e5 : upd H4 r5 (.lst (((spl TT).map fun (l : List Nat) => (⟨l.toArray⟩ : Str)).map V.str)) r5 = some (.lst ((spl TT).map sV)) := by rw [upd_same, List.map_map]; rfl
    generalize upd H4 r5 (.lst (((spl TT).map fun (l : List Nat) => (⟨l.toArray⟩ : Str)).map V.str)) = H5 at t5 e5 ⊢
    have s5 := s4.trans t5
    have hYs := spl_sum TT
    have hYl := spl_len TT
    have hYn : 1 ≤ (spl TT).length := List.length_pos_iff.mpr (spl_ne TT)
    generalize spl TT = Y at e5 hYs hYl hYn ⊢
    have lY : (Y.map sV).length = Y.length := List.length_map _
    have f0 := drawn_nn ns 102 (m := ((Y.map sV).length : Int)) (by rw [lY]; omega)
    have f1 := drawn_lt ns 102 (m := ((Y.map sV).length : Int)) (by rw [lY]; omega)
    refine ⟨_, rfl, _, rfl, r5, _, rfl, .inl (SqL.ofL e5), a, ns, 102, _, rfl, s5.seq hS, hlen, by decide, by rw [lY]; omega, fun H6 t6 => ?_⟩
    generalize drawnF ns 102 ((Y.map sV).length : Int) = to at f0 f1 ⊢
    have s6 := s5.trans t6
    have e6 := t6 _ _ e5
    have szT : (⟨TT.toArray⟩ : Str).length ≤ sizeLine := by rw [sz, sizeLine_eq]; omega
    have i1 := sl1 at' d0
    have i2 := sl1 (at' + 1) (by omega)
    have i3 := sl2 at' d0
    have i4 := sl2 (at' + 1) (by omega)
    refine ⟨_, rfl, _, rfl, _, rfl, _, rfl, _, rfl, szT, _, rfl, _, rfl, _, _, rfl, rfl, _, rfl, _, rfl, szT, _, _, rfl, rfl, by rw [sizeLine_eq]; omega, ?_⟩
    refine ⟨_, rfl, _, rfl, _, _, rfl, rfl, _, rfl, _, rfl, szT, _, rfl, _, rfl, _, rfl, _, rfl, szT, _, _, rfl, rfl, by rw [sizeLine_eq]; omega, ?_⟩
    refine ⟨_, rfl, _, rfl, _, rfl, _, rfl, szT, _, rfl, _, _, rfl, rfl, by rw [lcc, sizeLine_eq]; omega, _, rfl, _, rfl, _, _, rfl, rfl, _, rfl, _, rfl, szT, _, _, rfl, rfl, by rw [LC, lcc, sizeLine_eq]; omega, (show 4 ≤ sizeLine by decide), fun l7 hl7 => ?_⟩
    have b1 : ∀ z ∈ [(⟨TT.toArray⟩ : Str), PySem.Txt.slice (⟨TT.toArray⟩ : Str) none (some at') ++ PySem.Txt.slice (⟨TT.toArray⟩ : Str) (some (at' + 1)) none, PySem.Txt.slice (⟨TT.toArray⟩ : Str) none (some (at' + 1)) ++ PySem.Txt.slice (⟨TT.toArray⟩ : Str) (some at') none, PySem.Txt.slice (⟨TT.toArray⟩ : Str) none (some at') ++ (⟨#[cc]⟩ : Str) ++ PySem.Txt.slice (⟨TT.toArray⟩ : Str) (some (at' + 1)) none], z.cps.toList.length ≤ 3900 := by
      intro z hz
      rw [cps_len]
      simp only [List.mem_cons, List.not_mem_nil, or_false] at hz
      rcases hz with rfl | rfl | rfl | rfl
      · rw [sz]; omega
      · rw [LC]; omega
      · rw [LC]; omega
      · rw [LC, LC, lcc]; omega
    have t7 : Same H6 (upd H6 l7 (.lst ([(⟨TT.toArray⟩ : Str), PySem.Txt.slice (⟨TT.toArray⟩ : Str) none (some at') ++ PySem.Txt.slice (⟨TT.toArray⟩ : Str) (some (at' + 1)) none, PySem.Txt.slice (⟨TT.toArray⟩ : Str) none (some (at' + 1)) ++ PySem.Txt.slice (⟨TT.toArray⟩ : Str) (some at') none, PySem.Txt.slice (⟨TT.toArray⟩ : Str) none (some at') ++ (⟨#[cc]⟩ : Str) ++ PySem.Txt.slice (⟨TT.toArray⟩ : Str) (some (at' + 1)) none].map V.str))) := Same.new hl7
    show (fun HH : Hp => _) (upd H6 l7 (.lst ([(⟨TT.toArray⟩ : Str), PySem.Txt.slice (⟨TT.toArray⟩ : Str) none (some at') ++ PySem.Txt.slice (⟨TT.toArray⟩ : Str) (some (at' + 1)) none, PySem.Txt.slice (⟨TT.toArray⟩ : Str) none (some (at' + 1)) ++ PySem.Txt.slice (⟨TT.toArray⟩ : Str) (some at') none, PySem.Txt.slice (⟨TT.toArray⟩ : Str) none (some at') ++ (⟨#[cc]⟩ : Str) ++ PySem.Txt.slice (⟨TT.toArray⟩ : Str) (some (at' + 1)) none].map V.str)))
    have l4 : [(⟨TT.toArray⟩ : Str), PySem.Txt.slice (⟨TT.toArray⟩ : Str) none (some at') ++ PySem.Txt.slice (⟨TT.toArray⟩ : Str) (some (at' + 1)) none, PySem.Txt.slice (⟨TT.toArray⟩ : Str) none (some (at' + 1)) ++ PySem.Txt.slice (⟨TT.toArray⟩ : Str) (some at') none, PySem.Txt.slice (⟨TT.toArray⟩ : Str) none (some at') ++ (⟨#[cc]⟩ : Str) ++ PySem.Txt.slice (⟨TT.toArray⟩ : Str) (some (at' + 1)) none].length = 4 := rfl
    generalize [(⟨TT.toArray⟩ : Str), PySem.Txt.slice (⟨TT.toArray⟩ : Str) none (some at') ++ PySem.Txt.slice (⟨TT.toArray⟩ : Str) (some (at' + 1)) none, PySem.Txt.slice (⟨TT.toArray⟩ : Str) none (some (at' + 1)) ++ PySem.Txt.slice (⟨TT.toArray⟩ : Str) (some at') none, PySem.Txt.slice (⟨TT.toArray⟩ : Str) none (some at') ++ (⟨#[cc]⟩ : Str) ++ PySem.Txt.slice (⟨TT.toArray⟩ : Str) (some (at' + 1)) none] = Z1 at b1 t7 l4 ⊢
    have e7 : upd H6 l7 (.lst (Z1.map V.str)) l7 = some (.lst (Z1.map V.str)) := upd_same
    generalize upd H6 l7 (.lst (Z1.map V.str)) = H7 at t7 e7 ⊢
    have s7 := s6.trans t7
    have e67 := t7 _ _ e6
    have toY : to.toNat ≤ Y.length := by rw [lY] at f1; omega
    have cTo : ∀ k : Int, 0 ≤ k → cutV (Y.map sV) none (some k) = (Y.take k.toNat).map sV := fun k hk => by rw [cut_to hk, List.map_take]
    have cFr : ∀ k : Int, 0 ≤ k → cutV (Y.map sV) (some k) none = (Y.drop k.toNat).map sV := fun k hk => by rw [cut_from hk, List.map_drop]
    have lTD : ∀ k j : Nat, ((Y.take k).map sV).length + ((Y.drop j).map sV).length ≤ sizeLine := fun k j => by
      rw [List.length_map, List.length_map, List.length_take, List.length_drop, sizeLine_eq]; omega
    have sT : ∀ k : Nat, ((Y.take k).map List.length).sum ≤ 756 := fun k => by have := sum_cut Y k; omega
    have sD : ∀ k : Nat, ((Y.drop k).map List.length).sum ≤ 756 := fun k => by have := sum_cut Y k; omega
    -- the first joined text
    refine ⟨_, rfl, rfl, _, rfl, _, rfl, _, rfl, r5, _, rfl, SqL.ofL e67, fun p1 hp1 => ?_⟩
    rw [cTo to f0]
    have u1 := Same.new (o := .lst ((Y.take to.toNat).map sV)) hp1
    have v1 : upd H7 p1 (.lst ((Y.take to.toNat).map sV)) p1 = some (.lst ((Y.take to.toNat).map sV)) := upd_same
    generalize upd H7 p1 (.lst ((Y.take to.toNat).map sV)) = H8 at u1 v1 ⊢
    refine ⟨_, rfl, _, rfl, _, _, rfl, rfl, _, rfl, r5, _, rfl, SqL.ofL (u1 _ _ e67), fun p2 hp2 => ?_⟩
    rw [cFr (to + 1) (by omega)]
    have u2 := Same.new (o := .lst ((Y.drop (to + 1).toNat).map sV)) hp2
    have v2 : upd H8 p2 (.lst ((Y.drop (to + 1).toNat).map sV)) p2 = some (.lst ((Y.drop (to + 1).toNat).map sV)) := upd_same
    generalize upd H8 p2 (.lst ((Y.drop (to + 1).toNat).map sV)) = H9 at u2 v2 ⊢
    refine ⟨p1, p2, _, _, rfl, rfl, u2 _ _ v1, v2, lTD _ _, fun p3 hp3 => ?_⟩
    rw [← List.map_append]
    have u3 := Same.new (o := .lst ((Y.take to.toNat ++ Y.drop (to + 1).toNat).map sV)) hp3
    have v3 : upd H9 p3 (.lst ((Y.take to.toNat ++ Y.drop (to + 1).toNat).map sV)) p3 = some (.lst ((Y.take to.toNat ++ Y.drop (to + 1).toNat).map sV)) := upd_same
    generalize upd H9 p3 (.lst ((Y.take to.toNat ++ Y.drop (to + 1).toNat).map sV)) = H10 at u3 v3 ⊢
    refine tnil (join_ok v3 ?_ fun z1 hz1 => ?_)
    · have h1 := sT to.toNat
      have h2 := sD (to + 1).toNat
      rw [sum_app, List.length_append, List.length_take, List.length_drop]
      omega
    have w3 := (u1.trans u2).trans u3
    have e10 := w3 _ _ e67
    -- the second
    refine ⟨rfl, _, rfl, _, rfl, _, _, rfl, rfl, _, rfl, r5, _, rfl, SqL.ofL e10, fun p4 hp4 => ?_⟩
    rw [cTo (to + 1) (by omega)]
    have u4 := Same.new (o := .lst ((Y.take (to + 1).toNat).map sV)) hp4
    have v4 : upd H10 p4 (.lst ((Y.take (to + 1).toNat).map sV)) p4 = some (.lst ((Y.take (to + 1).toNat).map sV)) := upd_same
    generalize upd H10 p4 (.lst ((Y.take (to + 1).toNat).map sV)) = H11 at u4 v4 ⊢
    refine ⟨_, rfl, _, rfl, _, rfl, r5, _, rfl, SqL.ofL (u4 _ _ e10), fun p5 hp5 => ?_⟩
    rw [cFr to f0]
    have u5 := Same.new (o := .lst ((Y.drop to.toNat).map sV)) hp5
    have v5 : upd H11 p5 (.lst ((Y.drop to.toNat).map sV)) p5 = some (.lst ((Y.drop to.toNat).map sV)) := upd_same
    generalize upd H11 p5 (.lst ((Y.drop to.toNat).map sV)) = H12 at u5 v5 ⊢
    refine ⟨p4, p5, _, _, rfl, rfl, u5 _ _ v4, v5, lTD _ _, fun p6 hp6 => ?_⟩
    rw [← List.map_append]
    have u6 := Same.new (o := .lst ((Y.take (to + 1).toNat ++ Y.drop to.toNat).map sV)) hp6
    have v6 : upd H12 p6 (.lst ((Y.take (to + 1).toNat ++ Y.drop to.toNat).map sV)) p6 = some (.lst ((Y.take (to + 1).toNat ++ Y.drop to.toNat).map sV)) := upd_same
    generalize upd H12 p6 (.lst ((Y.take (to + 1).toNat ++ Y.drop to.toNat).map sV)) = H13 at u6 v6 ⊢
    refine tnil (join_ok v6 ?_ fun z2 hz2 => ?_)
    · have h1 := sT (to + 1).toNat
      have h2 := sD to.toNat
      rw [sum_app, List.length_append, List.length_take, List.length_drop]
      omega
    have w6 := w3.trans ((u4.trans u5).trans u6)
    have e13 := w6 _ _ e67
    refine ⟨(show 2 ≤ sizeLine by decide), fun l8 hl8 => ?_⟩
    have t8 : Same H13 (upd H13 l8 (.lst ([z1, z2].map V.str))) := Same.new hl8
    refine ⟨l7, l8, _, _, rfl, rfl, t8 _ _ (w6 _ _ e7), upd_same, by rw [List.length_map, l4]; exact (show 4 + 2 ≤ sizeLine by decide), fun l9 hl9 => ?_⟩
    have t9 : Same (upd H13 l8 (.lst ([z1, z2].map V.str))) (upd (upd H13 l8 (.lst ([z1, z2].map V.str))) l9 (.lst ((Z1 ++ [z1, z2]).map V.str))) := Same.new hl9
    have e9 : upd (upd H13 l8 (.lst ([z1, z2].map V.str))) l9 (.lst (Z1.map V.str ++ [z1, z2].map V.str)) l9 = some (.lst ((Z1 ++ [z1, z2]).map V.str)) := by rw [upd_same, List.map_append]
    have t9' : Same H13 (upd (upd H13 l8 (.lst ([z1, z2].map V.str))) l9 (.lst (Z1.map V.str ++ [z1, z2].map V.str))) := by
      rw [← List.map_append]; exact t8.trans t9
    show (fun HH : Hp => _) (upd (upd H13 l8 (.lst ([z1, z2].map V.str))) l9 (.lst (Z1.map V.str ++ [z1, z2].map V.str)))
    generalize upd (upd H13 l8 (.lst ([z1, z2].map V.str))) l9 (.lst (Z1.map V.str ++ [z1, z2].map V.str)) = H14 at t9' e9
    have e14 := t9' _ _ e13
    have s14 := s7.trans (w6.trans t9')
    -- turned
    refine ⟨_, rfl, _, rfl, _, rfl, r5, _, rfl, SqL.ofL e14, fun p1 hp1 => ?_⟩
    rw [cTo to f0]
    have u7 := Same.new (o := .lst ((Y.take to.toNat).map sV)) hp1
    have v7 : upd H14 p1 (.lst ((Y.take to.toNat).map sV)) p1 = some (.lst ((Y.take to.toNat).map sV)) := upd_same
    generalize upd H14 p1 (.lst ((Y.take to.toNat).map sV)) = H15 at u7 v7 ⊢
    refine ⟨_, rfl, _, rfl, _, rfl, _, rfl, _, _, rfl, rfl, _, rfl, r5, _, rfl, SqL.ofL (u7 _ _ e14), fun p2 hp2 => ?_⟩
    have cMid : cutV (Y.map sV) (some to) (some (to + 2)) = ((Y.drop to.toNat).take ((to + 2).toNat - to.toNat)).map sV := by
      rw [cut_mid f0 (by omega), List.map_take, List.map_drop]
    rw [show (to + 2 : Int) = to + 2 from rfl, cMid]
    have u8 := Same.new (o := .lst (((Y.drop to.toNat).take ((to + 2).toNat - to.toNat)).map sV)) hp2
    have v8 : upd H15 p2 (.lst (((Y.drop to.toNat).take ((to + 2).toNat - to.toNat)).map sV)) p2 = some (.lst (((Y.drop to.toNat).take ((to + 2).toNat - to.toNat)).map sV)) := upd_same
    generalize upd H15 p2 (.lst (((Y.drop to.toNat).take ((to + 2).toNat - to.toNat)).map sV)) = H16 at u8 v8 ⊢
    refine ⟨p2, _, rfl, SqL.ofL v8, fun p3 hp3 => ?_⟩
    rw [← List.map_reverse]
    have u9 := Same.new (o := .lst ((((Y.drop to.toNat).take ((to + 2).toNat - to.toNat)).reverse).map sV)) hp3
    have v9 : upd H16 p3 (.lst ((((Y.drop to.toNat).take ((to + 2).toNat - to.toNat)).reverse).map sV)) p3 = some (.lst ((((Y.drop to.toNat).take ((to + 2).toNat - to.toNat)).reverse).map sV)) := upd_same
    generalize upd H16 p3 (.lst ((((Y.drop to.toNat).take ((to + 2).toNat - to.toNat)).reverse).map sV)) = H17 at u9 v9 ⊢
    refine ⟨p1, p3, _, _, rfl, rfl, (u8.trans u9) _ _ v7, v9, ?_, fun p4 hp4 => ?_⟩
    · rw [List.length_map, List.length_map, List.length_reverse, List.length_take, List.length_take, List.length_drop, sizeLine_eq]; omega
    rw [← List.map_append]
    have u10 := Same.new (o := .lst ((Y.take to.toNat ++ ((Y.drop to.toNat).take ((to + 2).toNat - to.toNat)).reverse).map sV)) hp4
    have v10 : upd H17 p4 (.lst ((Y.take to.toNat ++ ((Y.drop to.toNat).take ((to + 2).toNat - to.toNat)).reverse).map sV)) p4 = some (.lst ((Y.take to.toNat ++ ((Y.drop to.toNat).take ((to + 2).toNat - to.toNat)).reverse).map sV)) := upd_same
    generalize upd H17 p4 (.lst ((Y.take to.toNat ++ ((Y.drop to.toNat).take ((to + 2).toNat - to.toNat)).reverse).map sV)) = H18 at u10 v10 ⊢
    have w10 := (((u7.trans u8).trans u9).trans u10)
    refine ⟨_, rfl, _, rfl, _, _, rfl, rfl, _, rfl, r5, _, rfl, SqL.ofL (w10 _ _ e14), fun p5 hp5 => ?_⟩
    rw [cFr (to + 2) (by omega)]
    have u11 := Same.new (o := .lst ((Y.drop (to + 2).toNat).map sV)) hp5
    have v11 : upd H18 p5 (.lst ((Y.drop (to + 2).toNat).map sV)) p5 = some (.lst ((Y.drop (to + 2).toNat).map sV)) := upd_same
    generalize upd H18 p5 (.lst ((Y.drop (to + 2).toNat).map sV)) = H19 at u11 v11 ⊢
    refine ⟨p4, p5, _, _, rfl, rfl, u11 _ _ v10, v11, ?_, fun p6 hp6 => ?_⟩
    · rw [List.length_map, List.length_map, List.length_append, List.length_reverse, List.length_take, List.length_take, List.length_drop, List.length_drop, sizeLine_eq]; omega
    rw [← List.map_append]
    have u12 := Same.new (o := .lst ((Y.take to.toNat ++ ((Y.drop to.toNat).take ((to + 2).toNat - to.toNat)).reverse ++ Y.drop (to + 2).toNat).map sV)) hp6
    have v12 : upd H19 p6 (.lst ((Y.take to.toNat ++ ((Y.drop to.toNat).take ((to + 2).toNat - to.toNat)).reverse ++ Y.drop (to + 2).toNat).map sV)) p6 = some (.lst ((Y.take to.toNat ++ ((Y.drop to.toNat).take ((to + 2).toNat - to.toNat)).reverse ++ Y.drop (to + 2).toNat).map sV)) := upd_same
    generalize upd H19 p6 (.lst ((Y.take to.toNat ++ ((Y.drop to.toNat).take ((to + 2).toNat - to.toNat)).reverse ++ Y.drop (to + 2).toNat).map sV)) = H20 at u12 v12 ⊢
    have w12 := (w10.trans u11).trans u12
    refine ⟨_, rfl, rfl, _, rfl, tnil (join_ok v12 ?_ fun z3 hz3 => ?_)⟩
    · have h1 := sum_cut Y to.toNat
      have h2 := sum_cut (Y.drop to.toNat) ((to + 2).toNat - to.toNat)
      rw [List.drop_drop, show to.toNat + ((to + 2).toNat - to.toNat) = (to + 2).toNat by omega] at h2
      rw [sum_app, sum_app, sum_rev, List.length_append, List.length_append, List.length_reverse, List.length_take, List.length_take, List.length_drop, List.length_drop]
      omega
    refine ⟨(show 5 ≤ sizeLine by decide), fun l8 hl8 => ?_⟩
    obtain ⟨Z5, hZ5, b5, l5⟩ : ∃ Z5 : List Str, [V.str z3, .str "", .str "id: 1\ntopic: a\n\n", .str "id: 01\ntopic: a\ndata: x\n\n", .str ":\n"] = Z5.map V.str ∧ (∀ z ∈ Z5, z.cps.toList.length ≤ 3900) ∧ Z5.length = 5 := by
      refine ⟨[z3, "", "id: 1\ntopic: a\n\n", "id: 01\ntopic: a\ndata: x\n\n", ":\n"], rfl, fun z hz => ?_, rfl⟩
      rcases List.mem_cons.mp hz with rfl | hz
      · exact hz3
      · exact lits5 z hz
    rw [hZ5]
    have t8 := Same.new (o := .lst (Z5.map V.str)) hl8
    have e8 : upd H20 l8 (.lst (Z5.map V.str)) l8 = some (.lst (Z5.map V.str)) := upd_same
    generalize upd H20 l8 (.lst (Z5.map V.str)) = H21 at t8 e8 ⊢
    refine ⟨l9, l8, _, _, rfl, rfl, (w12.trans t8) _ _ e9, e8, by rw [List.length_map, List.length_map, List.length_append, l4, l5]; exact (show 4 + 2 + 5 ≤ sizeLine by decide), fun l10 hl10 => ?_⟩
    rw [← List.map_append]
    have t10 := Same.new (o := .lst ((Z1 ++ [z1, z2] ++ Z5).map V.str)) hl10
    have e10' : upd H21 l10 (.lst ((Z1 ++ [z1, z2] ++ Z5).map V.str)) l10 = some (.lst ((Z1 ++ [z1, z2] ++ Z5).map V.str)) := upd_same
    have bz : ∀ z ∈ Z1 ++ [z1, z2] ++ Z5, z.cps.toList.length ≤ 3900 := fun z hz => by
      rcases List.mem_append.mp hz with hz | hz
      · rcases List.mem_append.mp hz with hz | hz
        · exact b1 z hz
        · simp only [List.mem_cons, List.not_mem_nil, or_false] at hz
          rcases hz with rfl | rfl
          · exact hz1
          · exact hz2
      · exact b5 z hz
    generalize Z1 ++ [z1, z2] ++ Z5 = Z at t10 e10' bz ⊢
    generalize upd H21 l10 (.lst (Z.map V.str)) = H22 at t10 e10' ⊢
    have w22 : Same H2 H22 := ((((t3.trans t4).trans t5).trans t6).trans t7).trans ((w6.trans t9').trans ((w12.trans t8).trans t10))
    have hg22 := w22 _ _ hg2
    have hM22 := hM2.same w22
    refine ⟨_, rfl, l10, rfl, ⟨_, SqL.ofL e10'⟩, for_list (K := K) (a := l10) (xs := Z.map V.str) (fun i σ H' => ∃ (o3 o4 o5 o6 o7 o8 o9 : Option V), σ = [some (.ref a), some (.ref g), some (sV TT), o3, o4, o5, o6, o7, o8, o9, none, none, none] ∧ Same H22 H')
      ⟨_, _, _, _, _, _, _, rfl, Same.refl _⟩ (fun i σ H' _ ⟨_, _, _, _, _, _, _, _, sH⟩ => SqL.ofL (sH _ _ e10')) ?_ ?_⟩
    · rintro i y σ H' hi ⟨o3, o4, o5, o6, o7, o8, o9, rfl, sH⟩
      rw [List.getElem?_map] at hi
      cases hzi : Z[i]? with
      | none => rw [hzi] at hi; cases hi
      | some z =>
        rw [hzi] at hi
        obtain rfl := Option.some.inj hi
        have hz9 := bz z (List.mem_of_getElem? hzi)
        refine rd_name ?_
        have hdu := due_is z.cps.toList
        refine ⟨_, rfl, z, rfl, by omega, fun mz hmz qa ya Ha ta hqa hMa => ?_, fun hno Ha ta => ?_⟩
        · refine ⟨_, rfl, z, rfl, hz9, fun my hmy qb yb Hb tb hqb hMb => ?_, fun hno => ?_⟩
          · have emm : mz = my := by
              rw [hdu, hmz] at hmy; exact Option.some.inj hmy
            subst emm
            exact ne_ms (tb _ _ hqa) (hMa.same tb) hqb hMb (fun m hm => ((rdA_some hmz).2 m hm).mok) ⟨_, rfl, iteF ⟨_, _, _, _, _, _, _, rfl, sH.trans (ta.trans tb)⟩⟩
          · rw [hdu, hmz] at hno; cases hno
        · refine ⟨_, rfl, z, rfl, hz9, fun my hmy => ?_, fun _ Hb tb => ?_⟩
          · rw [hdu, hno] at hmy; cases hmy
          · exact ne_D has_none has_none rfl ⟨_, rfl, iteF ⟨_, _, _, _, _, _, _, rfl, sH.trans (ta.trans tb)⟩⟩
    · rintro σ H' ⟨o3, o4, o5, o6, o7, o8, o9, rfl, sH⟩
      have nb : ∀ {x : Str}, x = "feed" ∨ x = "is_between" → ∀ {z : Str} {l : Addr}, (rdF z l).lookup x = none := fun {x} h {z l} => by
        rcases h with rfl | rfl <;> exact rdF_no (by decide +kernel) (by decide +kernel)
      have hg23 := sH _ _ hg22
      have hM23 := hM22.same sH
      intro p dx np nd nx
      have o1 := Stp.obj (o := .own p) (o' := .ins C dx []) np nd
      refine ⟨p, dx, rfl, upd_same, fun l1 HA hDA stA => ⟨rfl, ?_⟩⟩
      have st1 := o1.trans stA
      obtain ⟨dx1, hob1⟩ := id hDA.ob
      refine ⟨_, rfl, p, dx1, _, rfl, hob1, nb (.inl rfl), p, l1, _, [], [], rfl, hDA, nofun, nofun, by decide +kernel, fun ms1 ls1 cur1 hr1 qa ya la HB hDB stB hqa nqa hqa1 hMa => ?_, fun hno => ?_⟩
      rotate_left
      · rw [r7] at hno; cases hno
      have ee : [] = ms1 ∧ [lin7] = ls1 ∧ top7 = cur1 := by
        rw [r7] at hr1
        injection hr1 with hr1
        injection hr1 with x1 hr1
        injection hr1 with x2 x3
        exact ⟨x1, x2, x3⟩
      obtain ⟨rfl, rfl, rfl⟩ := ee
      have st2 := st1.trans stB
      have hls7 : ∀ x ∈ [lin7], x.length ≤ 4000 ∧ 10 ∉ x := by decide
      obtain ⟨dx2, hob2⟩ := id hDB.ob
      refine ⟨fun cls _ H2 => cls = .ref CN ∧ Same HB H2, ?_, ?_⟩
      · refine ⟨rfl, _, rfl, p, dx2, _, rfl, hob2, nb (.inl rfl), _, rfl, p, la, _, [lin7], top7, rfl, hDB, by decide, hls7, by decide +kernel, fun ms2 ls2 cur2 hr2 => ?_, fun _ H3 s3 => ⟨rfl, s3⟩⟩
        rw [rbad] at hr2; cases hr2
      rintro cls ex HC ⟨rfl, sC⟩ hex
      refine ⟨TX.en, ?_⟩
      have hDC := hDB.same sC
      obtain ⟨dx3, hob3⟩ := id hDC.ob
      refine ⟨_, rfl, _, rfl, iteF ?_⟩
      refine ⟨_, rfl, p, dx3, _, rfl, hob3, nb (.inr rfl), p, la, [lin7], top7, rfl, hDC, fun HD tD => ⟨_, rfl, ite2 (fun z => ?_) (fun _ => ?_)⟩⟩
      · exact absurd z (by decide)
      have hDD := hDC.same tD
      obtain ⟨dx4, hob4⟩ := id hDD.ob
      have lb7 : ("ic: b\ndata: z\n\n" : Str).length ≤ 20 := by decide +kernel
      have hcat : (("ic: b\ndata: z\n\n" : Str) ++ (⟨TT.toArray⟩ : Str)).cps.toList = ("ic: b\ndata: z\n\n" : Str).cps.toList ++ TT := by rw [cat_cps]
      have hrb : rdC ([], [lin7], top7) (("ic: b\ndata: z\n\n" : Str) ++ (⟨TT.toArray⟩ : Str)).cps.toList = some ([m7] ++ ms, [], []) := by
        rw [hcat, run_app, rb7]
        exact hrun [m7]
      refine ⟨_, rfl, p, dx4, _, rfl, hob4, nb (.inl rfl), _, rfl, _, _, rfl, rfl, by rw [sz, sizeLine_eq]; omega, p, la, _, [lin7], top7, rfl, hDD, by decide, hls7, ?_, fun ms3 ls3 cur3 hr3 qb yb lb HE hDE stE hqb nqb hqb1 hMb => ?_, fun hno => ?_⟩
      · rw [cps_len, LC, sz]
        show 1 + 3 + _ ≤ _
        omega
      rotate_left
      · rw [hrb] at hno; cases hno
      have ee : [m7] ++ ms = ms3 ∧ [] = ls3 ∧ [] = cur3 := by
        rw [hrb] at hr3
        injection hr3 with hr3
        injection hr3 with x1 hr3
        injection hr3 with x2 x3
        exact ⟨x1, x2, x3⟩
      obtain ⟨rfl, rfl, rfl⟩ := ee
      have stall : Stp [] H' [p, lb] HE := (st2.trans ((sC.trans tD).step _)).trans stE
      have hgE := stall.same _ _ hg23
      have hME := hM23.same stall.same
      refine ⟨(show 3 ≤ sizeLine by decide), fun c hc => ?_⟩
      have u1 := Same.new (o := mT m7) hc
      refine ⟨(show 1 ≤ sizeLine by decide), fun lc hlc => ?_⟩
      have u2 : Same (upd HE c (mT m7)) (upd (upd HE c (mT m7)) lc (.lst [.ref c])) := Same.new hlc
      have eC : upd (upd HE c (mT m7)) lc (.lst [.ref c]) c = some (mT m7) := u2 _ _ upd_same
      have eL : upd (upd HE c (mT m7)) lc (.lst [.ref c]) lc = some (.lst [.ref c]) := upd_same
      have u12 := u1.trans u2
      refine ⟨_, rfl, lc, g, _, _, rfl, rfl, eL, u12 _ _ hgE, by rw [hyl, sizeLine_eq]; show 1 + _ ≤ _; omega, fun rr hrr => ?_⟩
      have u3 := Same.new (o := .lst ([.ref c] ++ ys)) hrr
      have u13 := u12.trans u3
      have hMr : Ms (upd (upd (upd HE c (mT m7)) lc (.lst [.ref c])) rr (.lst ([.ref c] ++ ys))) ([.ref c] ++ ys) ([m7] ++ ms) := ((Ms.one eC).append (hME.same u12)).same u3
      refine ne_ms (u13 _ _ hqb1) (hMb.same u13) upd_same hMr (fun m hm => ?_) ⟨_, rfl, iteF ?_⟩
      · rcases List.mem_append.mp hm with hm | hm
        · rw [List.mem_singleton.mp hm]; exact ok7.mok
        · exact okm' m hm
      have hDF := hDE.same u13
      show (fun HH : Hp => _) (upd (upd (upd HE c (mT m7)) lc (.lst [.ref c])) rr (.lst ([.ref c] ++ ys)))
      generalize upd (upd (upd HE c (mT m7)) lc (.lst [.ref c])) rr (.lst ([.ref c] ++ ys)) = HF at hDF
      obtain ⟨dx5, hob5⟩ := id hDF.ob
      refine ⟨_, rfl, p, dx5, _, rfl, hob5, nb (.inr rfl), p, lb, [], [], rfl, hDF, fun HG tG => ⟨_, rfl, ite2 (fun _ => ?_) (fun z => absurd (by decide) z)⟩⟩
      refine ⟨(show 3 ≤ sizeLine by decide), fun c2 hc2 => ?_⟩
      refine ⟨c2, m7, rfl, upd_same, ok7, fun HI tI => ⟨rfl, ?_⟩⟩
      have e7' : decide (sV (frC m7) = V.str "id: 7\ntopic: b\ndata: z\n\n") = true := decide_eq_true (fr7 ▸ (sV_of rfl).symm)
      rw [e7']
      exact q _
end
end K82


namespace K82
open PySem L2
theorem all_mk {l : PySem.W.OpenLaw} {w : World} {K : PySem.W.Frag} {h : Heap} {mg : Str → Option Value} {fa f0 f1 f2 f3 f4 f5 f6 f7 f8 f9 f10 f11 f12 f13 f14 f15 f16 f17 f18 f19 f20 f21 f22 f23 f24 f25 f26 C_Reader CT CN CM CO : Addr} (X : K.In h) (G : h.Ns mainGlobals mg) (hfa : mg "law" = some (.ref fa))
    {od0 an0 od1 an1 od2 an2 od3 an3 od4 an4 od5 an5 od6 an6 od7 an7 od8 an8 od9 an9 od10 an10 od11 an11 od12 an12 od13 an13 od14 an14 od15 an15 od16 an16 od17 an17 od18 an18 od19 an19 od20 an20 od21 an21 od22 an22 od23 an23 od24 an24 od25 an25 od26 an26 : Option Addr} {sl0 sl1 sl2 sl3 sl4 sl5 sl6 sl7 sl8 sl9 sl10 sl11 sl12 sl13 sl14 sl15 sl16 sl17 sl18 sl19 sl20 sl21 sl22 sl23 sl24 sl25 sl26 : Array (Option Value)} {oc0 kV0 dc0 pm0 cd0 ct0 oc1 kV1 dc1 pm1 cd1 ct1 oc2 kV2 dc2 pm2 cd2 ct2 oc3 kV3 dc3 pm3 cd3 ct3 oc4 kV4 dc4 pm4 cd4 ct4 oc5 kV5 dc5 pm5 cd5 ct5 oc6 kV6 dc6 pm6 cd6 ct6 oc7 kV7 dc7 pm7 cd7 ct7 oc8 kV8 dc8 pm8 cd8 ct8 oc9 kV9 dc9 pm9 cd9 ct9 oc10 kV10 dc10 pm10 cd10 ct10 oc11 kV11 dc11 pm11 cd11 ct11 oc12 kV12 dc12 pm12 cd12 ct12 oc13 kV13 dc13 pm13 cd13 ct13 oc14 kV14 dc14 pm14 cd14 ct14 oc15 kV15 dc15 pm15 cd15 ct15 oc16 kV16 dc16 pm16 cd16 ct16 oc17 kV17 dc17 pm17 cd17 ct17 oc18 kV18 dc18 pm18 cd18 ct18 oc19 kV19 dc19 pm19 cd19 ct19 oc20 kV20 dc20 pm20 cd20 ct20 oc21 kV21 dc21 pm21 cd21 ct21 oc22 kV22 dc22 pm22 cd22 ct22 oc23 kV23 dc23 pm23 cd23 ct23 oc24 kV24 dc24 pm24 cd24 ct24 oc25 kV25 dc25 pm25 cd25 ct25 oc26 kV26 dc26 pm26 cd26 ct26 : Value} {tk0 tk1 tk2 tk3 tk4 tk5 tk6 tk7 tk8 tk9 : Tok}
    (aX_TellError : PySem.W.nsIn K mainGlobals "TellError" = some (some (.ref CT)))
    (aX_NoText : PySem.W.nsIn K mainGlobals "NoText" = some (some (.ref CN)))
    (aX_NoNumber : PySem.W.nsIn K mainGlobals "NoNumber" = some (some (.ref CM)))
    (aX_Other : PySem.W.nsIn K mainGlobals "Other" = some (some (.ref CO)))
    (xe_NoText : PySem.W.excIn K CN [.type "ValueError", .type "Exception", .type "BaseException", .type "object"] "ValueError.__new__" = true)
    (xga_z : PySem.W.findIn K (.ref CN) "__getattribute__" = some (some (.builtin "BaseException.__getattribute__")))
    (xcl_z : PySem.W.findIn K (.ref CN) "__class__" = some (some (.builtin "object.__class__")))
    (xno_z : PySem.W.findIn K (.ref CN) "__getattr__" = some none)
    (xob_z : PySem.W.mroIn K CN (.type "object") = some true)
    (xbe_z : PySem.W.mroIn K CN (.type "BaseException") = some true)
    (xhd_z : PySem.W.hasDictIn K CN = true)
    (x_iN : PySem.W.kitOne K (.ref CN) (.ref CN) = some true)
    (x_iM : PySem.W.kitOne K (.ref CN) (.ref CM) = some false)
    (x_iO : PySem.W.kitOne K (.ref CN) (.ref CO) = some false)
    (x_iV : PySem.W.kitOne K (.ref CN) (.type "ValueError") = some true)
    (x_em : PySem.W.exmOne K (.ref CN) (.ref CT) = some true)
    (x_en : PySem.W.exmOne K (.ref CN) (.ref CN) = some true)
    (aC_Reader : PySem.W.nsIn K mainGlobals "Reader" = some (some (.ref C_Reader)))
    (pg_Reader : PySem.W.plainGet K C_Reader Str.empty = true)
    (hd_Reader : PySem.W.hasDictIn K C_Reader = true)
    (po_Reader : PySem.W.plainOver K C_Reader = true)
    (sa_Reader : PySem.W.findIn K (.ref C_Reader) "__setattr__" = some (some (.builtin "object.__setattr__")))
    (mk_Reader : PySem.W.makesIn K C_Reader = true)
    (kc_Reader : PySem.W.keepIn K (.ref C_Reader) = true)
    (n_Reader_line_begun : PySem.W.findIn K (.ref C_Reader) "line_begun" = some none)
    (n_Reader_lines_begun : PySem.W.findIn K (.ref C_Reader) "lines_begun" = some none)
    (a0 : PySem.W.nsIn K mainGlobals "number_of" = some (some (.ref f0)))
    (l0 : K.lookup f0 = some ⟨oc0, od0, .func (PySem.W.fnOf "number_of" "number_of" (defArgs s_number_of) (defBody s_number_of) (defScope s_number_of) .none kV0 dc0 pm0 an0 cd0 ct0), sl0⟩)
    (c0 : PySem.W.codeIn K cd0 "number_of" = true)
    (k0 : PySem.W.keepIn K (.ref f0) = true)
    (a1 : PySem.W.nsIn K mainGlobals "topic_of" = some (some (.ref f1)))
    (l1 : K.lookup f1 = some ⟨oc1, od1, .func (PySem.W.fnOf "topic_of" "topic_of" (defArgs s_topic_of) (defBody s_topic_of) (defScope s_topic_of) .none kV1 dc1 pm1 an1 cd1 ct1), sl1⟩)
    (c1 : PySem.W.codeIn K cd1 "topic_of" = true)
    (k1 : PySem.W.keepIn K (.ref f1) = true)
    (a2 : PySem.W.nsIn K mainGlobals "text_of" = some (some (.ref f2)))
    (l2 : K.lookup f2 = some ⟨oc2, od2, .func (PySem.W.fnOf "text_of" "text_of" (defArgs s_text_of) (defBody s_text_of) (defScope s_text_of) .none kV2 dc2 pm2 an2 cd2 ct2), sl2⟩)
    (c2 : PySem.W.codeIn K cd2 "text_of" = true)
    (k2 : PySem.W.keepIn K (.ref f2) = true)
    (a3 : PySem.W.nsIn K mainGlobals "is_whole" = some (some (.ref f3)))
    (l3 : K.lookup f3 = some ⟨oc3, od3, .func (PySem.W.fnOf "is_whole" "is_whole" (defArgs s_is_whole) (defBody s_is_whole) (defScope s_is_whole) .none kV3 dc3 pm3 an3 cd3 ct3), sl3⟩)
    (c3 : PySem.W.codeIn K cd3 "is_whole" = true)
    (k3 : PySem.W.keepIn K (.ref f3) = true)
    (a4 : PySem.W.nsIn K mainGlobals "is_number" = some (some (.ref f4)))
    (l4 : K.lookup f4 = some ⟨oc4, od4, .func (PySem.W.fnOf "is_number" "is_number" (defArgs s_is_number) (defBody s_is_number) (defScope s_is_number) .none kV4 dc4 pm4 an4 cd4 ct4), sl4⟩)
    (c4 : PySem.W.codeIn K cd4 "is_number" = true)
    (k4 : PySem.W.keepIn K (.ref f4) = true)
    (a5 : PySem.W.nsIn K mainGlobals "has_only" = some (some (.ref f5)))
    (l5 : K.lookup f5 = some ⟨oc5, od5, .func (PySem.W.fnOf "has_only" "has_only" (defArgs s_has_only) (defBody s_has_only) (defScope s_has_only) .none kV5 dc5 pm5 an5 cd5 ct5), sl5⟩)
    (c5 : PySem.W.codeIn K cd5 "has_only" = true)
    (k5 : PySem.W.keepIn K (.ref f5) = true)
    (a6 : PySem.W.nsIn K mainGlobals "is_topic" = some (some (.ref f6)))
    (l6 : K.lookup f6 = some ⟨oc6, od6, .func (PySem.W.fnOf "is_topic" "is_topic" (defArgs s_is_topic) (defBody s_is_topic) (defScope s_is_topic) .none kV6 dc6 pm6 an6 cd6 ct6), sl6⟩)
    (c6 : PySem.W.codeIn K cd6 "is_topic" = true)
    (k6 : PySem.W.keepIn K (.ref f6) = true)
    (a7 : PySem.W.nsIn K mainGlobals "is_text" = some (some (.ref f7)))
    (l7 : K.lookup f7 = some ⟨oc7, od7, .func (PySem.W.fnOf "is_text" "is_text" (defArgs s_is_text) (defBody s_is_text) (defScope s_is_text) .none kV7 dc7 pm7 an7 cd7 ct7), sl7⟩)
    (c7 : PySem.W.codeIn K cd7 "is_text" = true)
    (k7 : PySem.W.keepIn K (.ref f7) = true)
    (a8 : PySem.W.nsIn K mainGlobals "is_message" = some (some (.ref f8)))
    (l8 : K.lookup f8 = some ⟨oc8, od8, .func (PySem.W.fnOf "is_message" "is_message" (defArgs s_is_message) (defBody s_is_message) (defScope s_is_message) .none kV8 dc8 pm8 an8 cd8 ct8), sl8⟩)
    (c8 : PySem.W.codeIn K cd8 "is_message" = true)
    (k8 : PySem.W.keepIn K (.ref f8) = true)
    (a9 : PySem.W.nsIn K mainGlobals "frame_lines" = some (some (.ref f9)))
    (l9 : K.lookup f9 = some ⟨oc9, od9, .func (PySem.W.fnOf "frame_lines" "frame_lines" (defArgs s_frame_lines) (defBody s_frame_lines) (defScope s_frame_lines) .none kV9 dc9 pm9 an9 cd9 ct9), sl9⟩)
    (c9 : PySem.W.codeIn K cd9 "frame_lines" = true)
    (k9 : PySem.W.keepIn K (.ref f9) = true)
    (a10 : PySem.W.nsIn K mainGlobals "frame_text" = some (some (.ref f10)))
    (l10 : K.lookup f10 = some ⟨oc10, od10, .func (PySem.W.fnOf "frame_text" "frame_text" (defArgs s_frame_text) (defBody s_frame_text) (defScope s_frame_text) .none kV10 dc10 pm10 an10 cd10 ct10), sl10⟩)
    (c10 : PySem.W.codeIn K cd10 "frame_text" = true)
    (k10 : PySem.W.keepIn K (.ref f10) = true)
    (a11 : PySem.W.nsIn K mainGlobals "stream_text" = some (some (.ref f11)))
    (l11 : K.lookup f11 = some ⟨oc11, od11, .func (PySem.W.fnOf "stream_text" "stream_text" (defArgs s_stream_text) (defBody s_stream_text) (defScope s_stream_text) .none kV11 dc11 pm11 an11 cd11 ct11), sl11⟩)
    (c11 : PySem.W.codeIn K cd11 "stream_text" = true)
    (k11 : PySem.W.keepIn K (.ref f11) = true)
    (a12 : PySem.W.nsIn K mainGlobals "without_front" = some (some (.ref f12)))
    (l12 : K.lookup f12 = some ⟨oc12, od12, .func (PySem.W.fnOf "without_front" "without_front" (defArgs s_without_front) (defBody s_without_front) (defScope s_without_front) .none kV12 dc12 pm12 an12 cd12 ct12), sl12⟩)
    (c12 : PySem.W.codeIn K cd12 "without_front" = true)
    (k12 : PySem.W.keepIn K (.ref f12) = true)
    (a13 : PySem.W.nsIn K mainGlobals "number_in" = some (some (.ref f13)))
    (l13 : K.lookup f13 = some ⟨oc13, od13, .func (PySem.W.fnOf "number_in" "number_in" (defArgs s_number_in) (defBody s_number_in) (defScope s_number_in) .none kV13 dc13 pm13 an13 cd13 ct13), sl13⟩)
    (c13 : PySem.W.codeIn K cd13 "number_in" = true)
    (k13 : PySem.W.keepIn K (.ref f13) = true)
    (a14 : PySem.W.nsIn K mainGlobals "message_in" = some (some (.ref f14)))
    (l14 : K.lookup f14 = some ⟨oc14, od14, .func (PySem.W.fnOf "message_in" "message_in" (defArgs s_message_in) (defBody s_message_in) (defScope s_message_in) .none kV14 dc14 pm14 an14 cd14 ct14), sl14⟩)
    (c14 : PySem.W.codeIn K cd14 "message_in" = true)
    (k14 : PySem.W.keepIn K (.ref f14) = true)
    (a15 : PySem.W.findIn K (.ref C_Reader) "__init__" = some (some (.ref f15)))
    (i15 : PySem.W.isFn K (.ref f15) = true)
    (l15 : K.lookup f15 = some ⟨oc15, od15, .func (PySem.W.fnOf "__init__" "Reader.__init__" (defArgs s_Reader___init__) (defBody s_Reader___init__) (defScope s_Reader___init__) .none kV15 dc15 pm15 an15 cd15 ct15), sl15⟩)
    (c15 : PySem.W.codeIn K cd15 "Reader.__init__" = true)
    (k15 : PySem.W.keepIn K (.ref f15) = true)
    (a16 : PySem.W.findIn K (.ref C_Reader) "feed" = some (some (.ref f16)))
    (i16 : PySem.W.isFn K (.ref f16) = true)
    (l16 : K.lookup f16 = some ⟨oc16, od16, .func (PySem.W.fnOf "feed" "Reader.feed" (defArgs s_Reader_feed) (defBody s_Reader_feed) (defScope s_Reader_feed) .none kV16 dc16 pm16 an16 cd16 ct16), sl16⟩)
    (c16 : PySem.W.codeIn K cd16 "Reader.feed" = true)
    (k16 : PySem.W.keepIn K (.ref f16) = true)
    (a17 : PySem.W.findIn K (.ref C_Reader) "is_between" = some (some (.ref f17)))
    (i17 : PySem.W.isFn K (.ref f17) = true)
    (l17 : K.lookup f17 = some ⟨oc17, od17, .func (PySem.W.fnOf "is_between" "Reader.is_between" (defArgs s_Reader_is_between) (defBody s_Reader_is_between) (defScope s_Reader_is_between) .none kV17 dc17 pm17 an17 cd17 ct17), sl17⟩)
    (c17 : PySem.W.codeIn K cd17 "Reader.is_between" = true)
    (k17 : PySem.W.keepIn K (.ref f17) = true)
    (a18 : PySem.W.nsIn K mainGlobals "read" = some (some (.ref f18)))
    (l18 : K.lookup f18 = some ⟨oc18, od18, .func (PySem.W.fnOf "read" "read" (defArgs s_read) (defBody s_read) (defScope s_read) .none kV18 dc18 pm18 an18 cd18 ct18), sl18⟩)
    (c18 : PySem.W.codeIn K cd18 "read" = true)
    (k18 : PySem.W.keepIn K (.ref f18) = true)
    (a19 : PySem.W.nsIn K mainGlobals "_law_cell" = some (some (.ref f19)))
    (l19 : K.lookup f19 = some ⟨oc19, od19, .func (PySem.W.fnOf "_law_cell" "_law_cell" (defArgs s_l_cell) (defBody s_l_cell) (defScope s_l_cell) .none kV19 dc19 pm19 an19 cd19 ct19), sl19⟩)
    (c19 : PySem.W.codeIn K cd19 "_law_cell" = true)
    (k19 : PySem.W.keepIn K (.ref f19) = true)
    (a20 : PySem.W.nsIn K mainGlobals "_law_drawn" = some (some (.ref f20)))
    (l20 : K.lookup f20 = some ⟨oc20, od20, .func (PySem.W.fnOf "_law_drawn" "_law_drawn" (defArgs s_l_drawn) (defBody s_l_drawn) (defScope s_l_drawn) .none kV20 dc20 pm20 an20 cd20 ct20), sl20⟩)
    (c20 : PySem.W.codeIn K cd20 "_law_drawn" = true)
    (k20 : PySem.W.keepIn K (.ref f20) = true)
    (a21 : PySem.W.nsIn K mainGlobals "_law_word" = some (some (.ref f21)))
    (l21 : K.lookup f21 = some ⟨oc21, od21, .func (PySem.W.fnOf "_law_word" "_law_word" (defArgs s_l_word) (defBody s_l_word) (defScope s_l_word) .none kV21 dc21 pm21 an21 cd21 ct21), sl21⟩)
    (c21 : PySem.W.codeIn K cd21 "_law_word" = true)
    (k21 : PySem.W.keepIn K (.ref f21) = true)
    (a22 : PySem.W.nsIn K mainGlobals "_law_wide" = some (some (.ref f22)))
    (l22 : K.lookup f22 = some ⟨oc22, od22, .func (PySem.W.fnOf "_law_wide" "_law_wide" (defArgs s_l_wide) (defBody s_l_wide) (defScope s_l_wide) .none kV22 dc22 pm22 an22 cd22 ct22), sl22⟩)
    (c22 : PySem.W.codeIn K cd22 "_law_wide" = true)
    (k22 : PySem.W.keepIn K (.ref f22) = true)
    (a23 : PySem.W.nsIn K mainGlobals "_law_told" = some (some (.ref f23)))
    (l23 : K.lookup f23 = some ⟨oc23, od23, .func (PySem.W.fnOf "_law_told" "_law_told" (defArgs s_l_told) (defBody s_l_told) (defScope s_l_told) .none kV23 dc23 pm23 an23 cd23 ct23), sl23⟩)
    (c23 : PySem.W.codeIn K cd23 "_law_told" = true)
    (k23 : PySem.W.keepIn K (.ref f23) = true)
    (a24 : PySem.W.nsIn K mainGlobals "_law_message" = some (some (.ref f24)))
    (l24 : K.lookup f24 = some ⟨oc24, od24, .func (PySem.W.fnOf "_law_message" "_law_message" (defArgs s_l_message) (defBody s_l_message) (defScope s_l_message) .none kV24 dc24 pm24 an24 cd24 ct24), sl24⟩)
    (c24 : PySem.W.codeIn K cd24 "_law_message" = true)
    (k24 : PySem.W.keepIn K (.ref f24) = true)
    (a25 : PySem.W.nsIn K mainGlobals "_law_due" = some (some (.ref f25)))
    (l25 : K.lookup f25 = some ⟨oc25, od25, .func (PySem.W.fnOf "_law_due" "_law_due" (defArgs s_l_due) (defBody s_l_due) (defScope s_l_due) .none kV25 dc25 pm25 an25 cd25 ct25), sl25⟩)
    (c25 : PySem.W.codeIn K cd25 "_law_due" = true)
    (k25 : PySem.W.keepIn K (.ref f25) = true)
    (a26 : PySem.W.nsIn K mainGlobals "law" = some (some (.ref f26)))
    (l26 : K.lookup f26 = some ⟨oc26, od26, .func (PySem.W.fnOf "law" "law" (defArgs s_law) (defBody s_law) (defScope s_law) .none kV26 dc26 pm26 an26 cd26 ct26), sl26⟩)
    (c26 : PySem.W.codeIn K cd26 "law" = true)
    (k26 : PySem.W.keepIn K (.ref f26) = true)
    (z0 : PySem.W.nsIn K mainGlobals "isinstance" = some none)
    (z1 : PySem.W.nsIn K mainGlobals "int" = some none)
    (z2 : PySem.W.nsIn K mainGlobals "bool" = some none)
    (z3 : PySem.W.nsIn K mainGlobals "str" = some none)
    (z4 : PySem.W.nsIn K mainGlobals "tuple" = some none)
    (z5 : PySem.W.nsIn K mainGlobals "all" = some none)
    (z6 : PySem.W.nsIn K mainGlobals "len" = some none)
    (z7 : PySem.W.nsIn K mainGlobals "range" = some none)
    (z8 : PySem.W.nsIn K mainGlobals "list" = some none)
    (z9 : PySem.W.nsIn K mainGlobals "zip" = some none)
    (z10 : PySem.W.nsIn K mainGlobals "ValueError" = some none)
    (y0 : PySem.W.nsIn K mainGlobals "LETTERS" = some (some (.str "abcdefghijklmnopqrstuvwxyz" tk0)))
    (y1 : PySem.W.nsIn K mainGlobals "TEXT_SIGNS" = some (some (.str "abcdefghijklmnopqrstuvwxyz \n" tk1)))
    (y2 : PySem.W.nsIn K mainGlobals "GREATEST_NUMBER" = some (some (.int 999999 tk2)))
    (y3 : PySem.W.nsIn K mainGlobals "LONGEST_TOPIC" = some (some (.int 3 tk3)))
    (y4 : PySem.W.nsIn K mainGlobals "LONGEST_TEXT" = some (some (.int 8 tk4)))
    (y5 : PySem.W.nsIn K mainGlobals "DIGITS" = some (some (.str "0123456789" tk5)))
    (y6 : PySem.W.nsIn K mainGlobals "NUMBER_FRONT" = some (some (.str "id: " tk6)))
    (y7 : PySem.W.nsIn K mainGlobals "TOPIC_FRONT" = some (some (.str "topic: " tk7)))
    (y8 : PySem.W.nsIn K mainGlobals "TEXT_FRONT" = some (some (.str "data: " tk8)))
    (y9 : PySem.W.nsIn K mainGlobals "LEFT_OUT_FRONT" = some (some (.str ":" tk9)))
    : ∃ fd : FuncData, (∀ (s : Shared) (v : Value), BindsTo s fd ⟨[v], []⟩ [("_law_script", v)]) ∧ ∀ base : Heap, K.In base → base.Ns mainGlobals mg → FnOk l.prog w K mg base CX0 8 fa fd ["_law_script"] (spLaw K) := by
  have e := hfa.symm.trans (PySem.W.mg_of X G a26)
  cases e
  have T : Txt mg := { b_isinstance := PySem.W.mg_none_of X G z0, b_int := PySem.W.mg_none_of X G z1, b_bool := PySem.W.mg_none_of X G z2, b_str := PySem.W.mg_none_of X G z3, b_tuple := PySem.W.mg_none_of X G z4, b_all := PySem.W.mg_none_of X G z5, b_len := PySem.W.mg_none_of X G z6, b_range := PySem.W.mg_none_of X G z7, b_list := PySem.W.mg_none_of X G z8, b_zip := PySem.W.mg_none_of X G z9, b_ValueError := PySem.W.mg_none_of X G z10, g_LETTERS := ⟨_, PySem.W.mg_of X G y0, _, rfl⟩, g_TEXT_SIGNS := ⟨_, PySem.W.mg_of X G y1, _, rfl⟩, g_GREATEST_NUMBER := ⟨_, PySem.W.mg_of X G y2, _, rfl⟩, g_LONGEST_TOPIC := ⟨_, PySem.W.mg_of X G y3, _, rfl⟩, g_LONGEST_TEXT := ⟨_, PySem.W.mg_of X G y4, _, rfl⟩, g_DIGITS := ⟨_, PySem.W.mg_of X G y5, _, rfl⟩, g_NUMBER_FRONT := ⟨_, PySem.W.mg_of X G y6, _, rfl⟩, g_TOPIC_FRONT := ⟨_, PySem.W.mg_of X G y7, _, rfl⟩, g_TEXT_FRONT := ⟨_, PySem.W.mg_of X G y8, _, rfl⟩, g_LEFT_OUT_FRONT := ⟨_, PySem.W.mg_of X G y9, _, rfl⟩ }
  have R_Reader : ReaderC K mg C_Reader := { cl_Reader := ⟨pg_Reader, hd_Reader, po_Reader, sa_Reader⟩, mg_Reader := PySem.W.mg_of X G aC_Reader, n_line_begun := n_Reader_line_begun, n_lines_begun := n_Reader_lines_begun }
  have TC := R_Reader
  have TX : TxtX K mg CT CN CM CO := { a_TellError := PySem.W.mg_of X G aX_TellError, a_NoText := PySem.W.mg_of X G aX_NoText, a_NoNumber := PySem.W.mg_of X G aX_NoNumber, a_Other := PySem.W.mg_of X G aX_Other, z := ⟨xga_z, xcl_z, xno_z, xob_z, xbe_z, xhd_z⟩, iN := x_iN, iM := x_iM, iO := x_iO, iV := x_iV, em := x_em, en := x_en }
  have xc_NoText : Exc K mg "NoText" CN := ⟨PySem.W.mg_of X G aX_NoText, xe_NoText⟩
  have F0 := fun_mk (st := s_number_of) l0 c0 k0
  have b0 := F0.binds (ps := ["message"]) fun _ _ _ _ _ _ us hl => match us, hl with | [_], _ => rfl
  have F1 := fun_mk (st := s_topic_of) l1 c1 k1
  have b1 := F1.binds (ps := ["message"]) fun _ _ _ _ _ _ us hl => match us, hl with | [_], _ => rfl
  have F2 := fun_mk (st := s_text_of) l2 c2 k2
  have b2 := F2.binds (ps := ["message"]) fun _ _ _ _ _ _ us hl => match us, hl with | [_], _ => rfl
  have F3 := fun_mk (st := s_is_whole) l3 c3 k3
  have b3 := F3.binds (ps := ["thing"]) fun _ _ _ _ _ _ us hl => match us, hl with | [_], _ => rfl
  have F4 := fun_mk (st := s_is_number) l4 c4 k4
  have b4 := F4.binds (ps := ["thing"]) fun _ _ _ _ _ _ us hl => match us, hl with | [_], _ => rfl
  have F5 := fun_mk (st := s_has_only) l5 c5 k5
  have b5 := F5.binds (ps := ["text", "signs"]) fun _ _ _ _ _ _ us hl => match us, hl with | [_, _], _ => rfl
  have F6 := fun_mk (st := s_is_topic) l6 c6 k6
  have b6 := F6.binds (ps := ["thing"]) fun _ _ _ _ _ _ us hl => match us, hl with | [_], _ => rfl
  have F7 := fun_mk (st := s_is_text) l7 c7 k7
  have b7 := F7.binds (ps := ["thing"]) fun _ _ _ _ _ _ us hl => match us, hl with | [_], _ => rfl
  have F8 := fun_mk (st := s_is_message) l8 c8 k8
  have b8 := F8.binds (ps := ["thing"]) fun _ _ _ _ _ _ us hl => match us, hl with | [_], _ => rfl
  have F9 := fun_mk (st := s_frame_lines) l9 c9 k9
  have b9 := F9.binds (ps := ["message"]) fun _ _ _ _ _ _ us hl => match us, hl with | [_], _ => rfl
  have F10 := fun_mk (st := s_frame_text) l10 c10 k10
  have b10 := F10.binds (ps := ["message"]) fun _ _ _ _ _ _ us hl => match us, hl with | [_], _ => rfl
  have F11 := fun_mk (st := s_stream_text) l11 c11 k11
  have b11 := F11.binds (ps := ["messages"]) fun _ _ _ _ _ _ us hl => match us, hl with | [_], _ => rfl
  have F12 := fun_mk (st := s_without_front) l12 c12 k12
  have b12 := F12.binds (ps := ["line", "front"]) fun _ _ _ _ _ _ us hl => match us, hl with | [_, _], _ => rfl
  have F13 := fun_mk (st := s_number_in) l13 c13 k13
  have b13 := F13.binds (ps := ["text"]) fun _ _ _ _ _ _ us hl => match us, hl with | [_], _ => rfl
  have F14 := fun_mk (st := s_message_in) l14 c14 k14
  have b14 := F14.binds (ps := ["lines"]) fun _ _ _ _ _ _ us hl => match us, hl with | [_], _ => rfl
  have F15 := fun_mk (st := s_Reader___init__) l15 c15 k15
  have b15 := F15.binds (ps := ["self"]) fun _ _ _ _ _ _ us hl => match us, hl with | [_], _ => rfl
  have F16 := fun_mk (st := s_Reader_feed) l16 c16 k16
  have b16 := F16.binds (ps := ["self", "piece"]) fun _ _ _ _ _ _ us hl => match us, hl with | [_, _], _ => rfl
  have F17 := fun_mk (st := s_Reader_is_between) l17 c17 k17
  have b17 := F17.binds (ps := ["self"]) fun _ _ _ _ _ _ us hl => match us, hl with | [_], _ => rfl
  have F18 := fun_mk (st := s_read) l18 c18 k18
  have b18 := F18.binds (ps := ["text"]) fun _ _ _ _ _ _ us hl => match us, hl with | [_], _ => rfl
  have F19 := fun_mk (st := s_l_cell) l19 c19 k19
  have b19 := F19.binds (ps := ["_law_script", "_law_k"]) fun _ _ _ _ _ _ us hl => match us, hl with | [_, _], _ => rfl
  have F20 := fun_mk (st := s_l_drawn) l20 c20 k20
  have b20 := F20.binds (ps := ["_law_script", "_law_k", "_law_many"]) fun _ _ _ _ _ _ us hl => match us, hl with | [_, _, _], _ => rfl
  have F21 := fun_mk (st := s_l_word) l21 c21 k21
  have b21 := F21.binds (ps := ["_law_script", "_law_at", "_law_most"]) fun _ _ _ _ _ _ us hl => match us, hl with | [_, _, _], _ => rfl
  have F22 := fun_mk (st := s_l_wide) l22 c22 k22
  have b22 := F22.binds (ps := ["_law_script", "_law_at", "_law_most"]) fun _ _ _ _ _ _ us hl => match us, hl with | [_, _, _], _ => rfl
  have F23 := fun_mk (st := s_l_told) l23 c23 k23
  have b23 := F23.binds (ps := ["_law_text"]) fun _ _ _ _ _ _ us hl => match us, hl with | [_], _ => rfl
  have F24 := fun_mk (st := s_l_message) l24 c24 k24
  have b24 := F24.binds (ps := ["_law_lines"]) fun _ _ _ _ _ _ us hl => match us, hl with | [_], _ => rfl
  have F25 := fun_mk (st := s_l_due) l25 c25 k25
  have b25 := F25.binds (ps := ["_law_text"]) fun _ _ _ _ _ _ us hl => match us, hl with | [_], _ => rfl
  have F26 := fun_mk (st := s_law) l26 c26 k26
  refine ⟨PySem.W.fnOf "law" "law" (defArgs s_law) (defBody s_law) (defScope s_law) .none kV26 dc26 pm26 an26 cd26 ct26, fun s v => .of_eq rfl, fun base _ _ => ?_⟩
  have C0 : Callee l.prog w K mg base 1 "number_of" ["message"] (spItem 0) := ⟨_, _, ok_number_of F0 , PySem.W.mg_of X G a0, k0, b0⟩
  have C1 : Callee l.prog w K mg base 1 "topic_of" ["message"] (spItem 1) := ⟨_, _, ok_topic_of F1 , PySem.W.mg_of X G a1, k1, b1⟩
  have C2 : Callee l.prog w K mg base 1 "text_of" ["message"] (spItem 2) := ⟨_, _, ok_text_of F2 , PySem.W.mg_of X G a2, k2, b2⟩
  have C3 : Callee l.prog w K mg base 1 "is_whole" ["thing"] (spLook (fun _ => True) isWhole) := ⟨_, _, ok_is_whole F3 T, PySem.W.mg_of X G a3, k3, b3⟩
  have C4 : Callee l.prog w K mg base 2 "is_number" ["thing"] (spLook (fun _ => True) isNum) := ⟨_, _, ok_is_number F4 T C3, PySem.W.mg_of X G a4, k4, b4⟩
  have C5 : Callee l.prog w K mg base 1 "has_only" ["text", "signs"] (spOnly) := ⟨_, _, ok_has_only F5 T, PySem.W.mg_of X G a5, k5, b5⟩
  have C6 : Callee l.prog w K mg base 2 "is_topic" ["thing"] (spLook fit1 isTop) := ⟨_, _, ok_is_topic F6 T C5, PySem.W.mg_of X G a6, k6, b6⟩
  have C7 : Callee l.prog w K mg base 2 "is_text" ["thing"] (spLook fit1 isTxt) := ⟨_, _, ok_is_text F7 T C5, PySem.W.mg_of X G a7, k7, b7⟩
  have C8 : Callee l.prog w K mg base 3 "is_message" ["thing"] (spLook fitT isMsg) := ⟨_, _, ok_is_message F8 T C0 C1 C2 C4 C6 C7, PySem.W.mg_of X G a8, k8, b8⟩
  have C9 : Callee l.prog w K mg base 2 "frame_lines" ["message"] (spFrL) := ⟨_, _, ok_frame_lines F9 T C0 C1 C2, PySem.W.mg_of X G a9, k9, b9⟩
  have C10 : Callee l.prog w K mg base 3 "frame_text" ["message"] (spFrT) := ⟨_, _, ok_frame_text F10 T C9, PySem.W.mg_of X G a10, k10, b10⟩
  have C11 : Callee l.prog w K mg base 4 "stream_text" ["messages"] (spSmT) := ⟨_, _, ok_stream_text F11 T C10, PySem.W.mg_of X G a11, k11, b11⟩
  have C12 : CalleeX l.prog w K mg base 1 "without_front" ["line", "front"] (spWFX CN) := ⟨_, _, okx_without_front F12 T xc_NoText, PySem.W.mg_of X G a12, k12, b12⟩
  have C13 : CalleeX l.prog w K mg base 2 "number_in" ["text"] (spNInX CN) := ⟨_, _, okx_number_in F13 T xc_NoText C5, PySem.W.mg_of X G a13, k13, b13⟩
  have C14 : CalleeX l.prog w K mg base 4 "message_in" ["lines"] (spMInX CN) := ⟨_, _, okx_message_in F14 T xc_NoText C13 C12 C8, PySem.W.mg_of X G a14, k14, b14⟩
  have C15 : CalleeI l.prog w K mg base 1 C_Reader ["self"] (spDInit C_Reader) := ⟨_, _, ok_Reader_init F15 R_Reader, ⟨mk_Reader, a15, i15, kc_Reader⟩, b15⟩
  have C16 : CalleeMX l.prog w K mg base 5 C_Reader "feed" ["self", "piece"] (spFeedX C_Reader CN) := ⟨_, _, okx_Reader_feed F16 T R_Reader C14, ⟨a16, i16, k16⟩, b16⟩
  have C17 : CalleeM l.prog w K mg base 1 C_Reader "is_between" ["self"] (spBetween C_Reader) := ⟨_, _, ok_Reader_is_between F17 R_Reader, ⟨a17, i17, k17⟩, b17⟩
  have C18 : CalleeX l.prog w K mg base 6 "read" ["text"] (spReadX CN) := ⟨_, _, okx_read F18 R_Reader xc_NoText C15 C16 C11, PySem.W.mg_of X G a18, k18, b18⟩
  have C19 : Callee l.prog w K mg base 1 "_law_cell" ["_law_script", "_law_k"] (spCell K) := ⟨_, _, ok_l_cell F19 T, PySem.W.mg_of X G a19, k19, b19⟩
  have C20 : Callee l.prog w K mg base 2 "_law_drawn" ["_law_script", "_law_k", "_law_many"] (spDrawn K) := ⟨_, _, ok_l_drawn F20 T C19, PySem.W.mg_of X G a20, k20, b20⟩
  have C21 : Callee l.prog w K mg base 3 "_law_word" ["_law_script", "_law_at", "_law_most"] (spWord K) := ⟨_, _, ok_l_word F21 T C20, PySem.W.mg_of X G a21, k21, b21⟩
  have C22 : Callee l.prog w K mg base 4 "_law_wide" ["_law_script", "_law_at", "_law_most"] (spWide K) := ⟨_, _, ok_l_wide F22 T C20 C21, PySem.W.mg_of X G a22, k22, b22⟩
  have C23 : Callee l.prog w K mg base 7 "_law_told" ["_law_text"] (spTold) := ⟨_, _, ok_l_told F23 T TX C18, PySem.W.mg_of X G a23, k23, b23⟩
  have C24 : Callee l.prog w K mg base 4 "_law_message" ["_law_lines"] (spLMsg) := ⟨_, _, ok_l_message F24 T C8, PySem.W.mg_of X G a24, k24, b24⟩
  have C25 : Callee l.prog w K mg base 5 "_law_due" ["_law_text"] (spDue) := ⟨_, _, ok_l_due F25 T C24, PySem.W.mg_of X G a25, k25, b25⟩
  exact ok_law F26 T ⟨R_Reader⟩ TX C22 C20 C11 C10 C23 C25 C15 C16 C17
theorem walk {l : PySem.W.OpenLaw} {q : Program} {loose : List Str} {XP : (Str → Option Value) → Heap → Prop} {YP : World → Heap → Prop} {d : DefRec} {K : Params → PySem.W.Frag} (hn : l.most = some 63) (hdf : d.params.defaults = [])
    (hY : ∀ (w : World) (h : Heap), YP w h → (K w.params).In h)
    (F : ∀ (w : World) (mg : Str → Option Value) (fa : Addr) (h : Heap), (K w.params).In h → h.Ns mainGlobals mg → mg d.name = some (.ref fa) →
      ∃ fd : FuncData, (∀ (s : Shared) (u : Value), BindsTo s fd ⟨[u], []⟩ [("_law_script", u)]) ∧ ∀ base : Heap, (K w.params).In base → base.Ns mainGlobals mg → FnOk l.prog w (K w.params) mg base CX0 8 fa fd ["_law_script"] (spLaw (K w.params))) :
    PySem.W.WalkO q loose XP YP l.row.toRowW d [] (fun f vs => PySem.call f vs) :=
  L2.walk_of (n := 63) (k := 8) (x := "_law_script") (CX := fun _ => CX0) (sp := fun w => spLaw (K w.params)) hn (by decide) hdf ⟨rfl, by decide, by decide⟩ hY F (fun _ _ a ns hl _ hS => ⟨a, ns, rfl, hS, hl, fun _ => rfl⟩) fun _ _ _ _ _ z => z
end K82
open PySem PySem.W PyProof.Rows
set_option maxRecDepth 100000 in
set_option maxHeartbeats 0 in
theorem PySem.Challenge.cw_tellroads_k82_whole_read_holds : PySem.Challenge.rw_tellroads_k82_whole_read.Holds := by
  w_on; o_law; k_head; (case hw => w_witness2)
  k_fill
  refine K82.walk (l := PySem.Challenge.rw_tellroads_k82_whole_read) rfl rfl (fun w h Y => PySem.W.kIn_of Y) ?F
  case F =>
    intro w mg fa h KX G hmg
    refine' K82.all_mk KX G hmg ?aX_TellError ?aX_NoText ?aX_NoNumber ?aX_Other ?xe_NoText ?xga_z ?xcl_z ?xno_z ?xob_z ?xbe_z ?xhd_z ?x_iN ?x_iM ?x_iO ?x_iV ?x_em ?x_en ?aC_Reader ?pg_Reader ?hd_Reader ?po_Reader ?sa_Reader ?mk_Reader ?kc_Reader ?n_Reader_line_begun ?n_Reader_lines_begun ?a0 ?l0 ?c0 ?k0 ?a1 ?l1 ?c1 ?k1 ?a2 ?l2 ?c2 ?k2 ?a3 ?l3 ?c3 ?k3 ?a4 ?l4 ?c4 ?k4 ?a5 ?l5 ?c5 ?k5 ?a6 ?l6 ?c6 ?k6 ?a7 ?l7 ?c7 ?k7 ?a8 ?l8 ?c8 ?k8 ?a9 ?l9 ?c9 ?k9 ?a10 ?l10 ?c10 ?k10 ?a11 ?l11 ?c11 ?k11 ?a12 ?l12 ?c12 ?k12 ?a13 ?l13 ?c13 ?k13 ?a14 ?l14 ?c14 ?k14 ?a15 ?i15 ?l15 ?c15 ?k15 ?a16 ?i16 ?l16 ?c16 ?k16 ?a17 ?i17 ?l17 ?c17 ?k17 ?a18 ?l18 ?c18 ?k18 ?a19 ?l19 ?c19 ?k19 ?a20 ?l20 ?c20 ?k20 ?a21 ?l21 ?c21 ?k21 ?a22 ?l22 ?c22 ?k22 ?a23 ?l23 ?c23 ?k23 ?a24 ?l24 ?c24 ?k24 ?a25 ?l25 ?c25 ?k25 ?a26 ?l26 ?c26 ?k26 ?z0 ?z1 ?z2 ?z3 ?z4 ?z5 ?z6 ?z7 ?z8 ?z9 ?z10 ?y0 ?y1 ?y2 ?y3 ?y4 ?y5 ?y6 ?y7 ?y8 ?y9
    (case aX_TellError => k_is)
    (case aX_NoText => k_is)
    (case aX_NoNumber => k_is)
    (case aX_Other => k_is)
    (case xe_NoText => k_exc)
    (case xga_z => k_is)
    (case xcl_z => k_is)
    (case xno_z => k_is)
    (case xob_z => k_is)
    (case xbe_z => k_is)
    (case xhd_z => k_is)
    (case x_iN => kit_is)
    (case x_iM => kit_is)
    (case x_iO => kit_is)
    (case x_iV => kit_is)
    (case x_em => kts_exm)
    (case x_en => kts_exm)
    (case aC_Reader => k_is)
    (case pg_Reader => k_is)
    (case hd_Reader => k_is)
    (case po_Reader => k_is)
    (case sa_Reader => k_is)
    (case mk_Reader => k_is)
    (case kc_Reader => k_is)
    (case n_Reader_line_begun => k_is)
    (case n_Reader_lines_begun => k_is)
    (case a0 => k_is)
    (case l0 => k_is)
    (case c0 => k_is)
    (case k0 => k_is)
    (case a1 => k_is)
    (case l1 => k_is)
    (case c1 => k_is)
    (case k1 => k_is)
    (case a2 => k_is)
    (case l2 => k_is)
    (case c2 => k_is)
    (case k2 => k_is)
    (case a3 => k_is)
    (case l3 => k_is)
    (case c3 => k_is)
    (case k3 => k_is)
    (case a4 => k_is)
    (case l4 => k_is)
    (case c4 => k_is)
    (case k4 => k_is)
    (case a5 => k_is)
    (case l5 => k_is)
    (case c5 => k_is)
    (case k5 => k_is)
    (case a6 => k_is)
    (case l6 => k_is)
    (case c6 => k_is)
    (case k6 => k_is)
    (case a7 => k_is)
    (case l7 => k_is)
    (case c7 => k_is)
    (case k7 => k_is)
    (case a8 => k_is)
    (case l8 => k_is)
    (case c8 => k_is)
    (case k8 => k_is)
    (case a9 => k_is)
    (case l9 => k_is)
    (case c9 => k_is)
    (case k9 => k_is)
    (case a10 => k_is)
    (case l10 => k_is)
    (case c10 => k_is)
    (case k10 => k_is)
    (case a11 => k_is)
    (case l11 => k_is)
    (case c11 => k_is)
    (case k11 => k_is)
    (case a12 => k_is)
    (case l12 => k_is)
    (case c12 => k_is)
    (case k12 => k_is)
    (case a13 => k_is)
    (case l13 => k_is)
    (case c13 => k_is)
    (case k13 => k_is)
    (case a14 => k_is)
    (case l14 => k_is)
    (case c14 => k_is)
    (case k14 => k_is)
    (case a15 => k_is)
    (case i15 => k_is)
    (case l15 => k_is)
    (case c15 => k_is)
    (case k15 => k_is)
    (case a16 => k_is)
    (case i16 => k_is)
    (case l16 => k_is)
    (case c16 => k_is)
    (case k16 => k_is)
    (case a17 => k_is)
    (case i17 => k_is)
    (case l17 => k_is)
    (case c17 => k_is)
    (case k17 => k_is)
    (case a18 => k_is)
    (case l18 => k_is)
    (case c18 => k_is)
    (case k18 => k_is)
    (case a19 => k_is)
    (case l19 => k_is)
    (case c19 => k_is)
    (case k19 => k_is)
    (case a20 => k_is)
    (case l20 => k_is)
    (case c20 => k_is)
    (case k20 => k_is)
    (case a21 => k_is)
    (case l21 => k_is)
    (case c21 => k_is)
    (case k21 => k_is)
    (case a22 => k_is)
    (case l22 => k_is)
    (case c22 => k_is)
    (case k22 => k_is)
    (case a23 => k_is)
    (case l23 => k_is)
    (case c23 => k_is)
    (case k23 => k_is)
    (case a24 => k_is)
    (case l24 => k_is)
    (case c24 => k_is)
    (case k24 => k_is)
    (case a25 => k_is)
    (case l25 => k_is)
    (case c25 => k_is)
    (case k25 => k_is)
    (case a26 => k_is)
    (case l26 => k_is)
    (case c26 => k_is)
    (case k26 => k_is)
    (case z0 => k_is)
    (case z1 => k_is)
    (case z2 => k_is)
    (case z3 => k_is)
    (case z4 => k_is)
    (case z5 => k_is)
    (case z6 => k_is)
    (case z7 => k_is)
    (case z8 => k_is)
    (case z9 => k_is)
    (case z10 => k_is)
    (case y0 => k_is)
    (case y1 => k_is)
    (case y2 => k_is)
    (case y3 => k_is)
    (case y4 => k_is)
    (case y5 => k_is)
    (case y6 => k_is)
    (case y7 => k_is)
    (case y8 => k_is)
    (case y9 => k_is)

