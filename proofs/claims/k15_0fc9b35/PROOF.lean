import PyProof.Rows.All
import Wide.All
import OpenK.AllK
import Wide.FinOn
import Lean
import PyProof.EqAt
import PyProof.EqKinds
import PyProof.TupleCall
import PySem.Challenge.RW_tellroads_k15_whole_put_together
set_option Elab.async false
set_option linter.all false
set_option maxRecDepth 100000
namespace L2
open PySem PySem.Spec PyProof.Rows
abbrev Key := Sum Int Str
def keyIs : Key → Value → Bool
  | .inl k, v => Value.isInt k v
  | .inr x, v => Value.isStrOf x v
def keyH (w : World) : Key → Int
  | .inl k => hashInt k
  | .inr x => hashStr w x
theorem keyIs_shape : ∀ {k : Key} {v : Value}, keyIs k v = true → (∃ i t, k = Sum.inl i ∧ v = Value.int i t) ∨ (∃ x t, k = Sum.inr x ∧ v = Value.str x t)
  | .inl i, v, h => by
    obtain ⟨t, e⟩ := Value.isInt_shape (k := i) (v := v) h
    exact .inl ⟨i, t, rfl, e⟩
  | .inr x, v, h => by
    obtain ⟨t, e⟩ := Value.isStrOf_shape (x := x) (v := v) h
    exact .inr ⟨x, t, rfl, e⟩
theorem keyIs_int (i : Int) (t : Tok) : keyIs (.inl i) (.int i t) = true := by simp [keyIs, Value.isInt]
theorem keyIs_str (x : Str) (t : Tok) : keyIs (.inr x) (.str x t) = true := by simp [keyIs, Value.isStrOf]
theorem key_ll (a b : Int) : decide ((Sum.inl a : Key) = Sum.inl b) = (a == b) := by
  by_cases e : a = b
  · subst e; simp
  · have h : ¬ (Sum.inl a : Key) = Sum.inl b := fun q => e (Sum.inl.inj q)
    rw [decide_eq_false h]
    exact (beq_eq_false_iff_ne.mpr e).symm
theorem key_rr (a b : Str) : decide ((Sum.inr a : Key) = Sum.inr b) = decide (a = b) := by
  by_cases e : a = b
  · subst e; simp
  · have h : ¬ (Sum.inr a : Key) = Sum.inr b := fun q => e (Sum.inr.inj q)
    rw [decide_eq_false h, decide_eq_false e]
theorem key_lr (a : Int) (b : Str) : decide ((Sum.inl a : Key) = Sum.inr b) = false := decide_eq_false (fun q => nomatch q)
theorem key_rl (a : Str) (b : Int) : decide ((Sum.inr a : Key) = Sum.inl b) = false := decide_eq_false (fun q => nomatch q)
def mixKind (prog : Program) (w : World) : PySem.KeyKind prog w Key where
  is := keyIs
  hash := keyH w
  inj := fun v a b ha hb => by
    rcases keyIs_shape ha with ⟨i, t, rfl, rfl⟩ | ⟨x, t, rfl, rfl⟩
    · rcases keyIs_shape hb with ⟨j, u, rfl, e⟩ | ⟨y, u, rfl, e⟩
      · injection e with e1 _; rw [e1]
      · exact nomatch e
    · rcases keyIs_shape hb with ⟨j, u, rfl, e⟩ | ⟨y, u, rfl, e⟩
      · exact nomatch e
      · injection e with e1 _; rw [e1]
  byValue := fun k v h => by
    rcases keyIs_shape h with ⟨i, t, rfl, rfl⟩ | ⟨x, t, rfl, rfl⟩ <;> rfl
  pyHash := fun hv h => by
    rcases keyIs_shape hv with ⟨i, t, rfl, rfl⟩ | ⟨x, t, rfl, rfl⟩
    · exact wpAny_pyHash_int h
    · exact wpAny_pyHash_str h
  eqBool := fun hu hv h => by
    rcases keyIs_shape hu with ⟨i, t, rfl, rfl⟩ | ⟨x, t, rfl, rfl⟩
    · rcases keyIs_shape hv with ⟨j, u, rfl, rfl⟩ | ⟨y, u, rfl, rfl⟩
      · rw [key_ll] at h; exact wpAny_eqBool_int h
      · rw [key_lr] at h; exact SeqAt.EqAt.int_str i t y u _ _ _ _ h
    · rcases keyIs_shape hv with ⟨j, u, rfl, rfl⟩ | ⟨y, u, rfl, rfl⟩
      · rw [key_rl] at h; exact SeqAt.EqAt.str_int x t j u _ _ _ _ h
      · rw [key_rr] at h; exact wpAny_eqBool_str h
  «strs» := fun k x t v h => by
    rcases keyIs_shape h with ⟨i, u, rfl, e⟩ | ⟨y, u, rfl, e⟩
    · exact nomatch e
    · injection e with e1 _
      subst e1
      cases v <;> rfl
theorem mixKind_int (prog : Program) (w : World) (i : Int) (t : Tok) : (mixKind prog w).is (.inl i) (.int i t) = true := keyIs_int i t
theorem mixKind_str (prog : Program) (w : World) (x : Str) (t : Tok) : (mixKind prog w).is (.inr x) (.str x t) = true := keyIs_str x t
end L2
namespace L2
open PySem PySem.Spec PyProof.Rows
inductive V where
  | non | bl (b : Bool) | int (i : Int) | str (x : Str) | byt (b : Array UInt8) | flt (b : UInt64) | ref (a : Addr) | ty (n : String)
  deriving DecidableEq
def RelV : V → Value → Prop
  | .non, u => u = Value.none
  | .bl b, u => u = Value.bool b
  | .int i, u => ∃ t, u = Value.int i t
  | .str x, u => ∃ t, u = Value.str x t
  | .byt b, u => ∃ t, u = Value.bytes b t
  | .flt b, u => ∃ t, u = Value.float b t
  | .ref a, u => u = Value.ref a
  | .ty n, u => u = Value.type n
abbrev Vals : List V → List Value → Prop := Paired RelV
theorem Vals.length {xs : List V} {us : List Value} (r : Vals xs us) : xs.length = us.length := Paired.length r
theorem Vals.get : ∀ {xs : List V} {us : List Value} {i : Nat} {x : V}, Vals xs us → xs[i]? = some x → ∃ u, us[i]? = some u ∧ RelV x u
  | _, _, _, _, .nil, e => by simp at e
  | _, _, 0, _, .cons r _, e => by simp at e; subst e; exact ⟨_, rfl, r⟩
  | _, _, i + 1, x, .cons _ t, e => by
    obtain ⟨u, h1, h2⟩ := Vals.get (i := i) (x := x) t (by simpa using e)
    exact ⟨u, by simpa using h1, h2⟩
theorem Vals.set {x : V} {u : Value} (r : RelV x u) : ∀ {xs : List V} {us : List Value} (i : Nat), Vals xs us → Vals (xs.set i x) (us.set i u)
  | _, _, _, .nil => .nil
  | _, _, 0, .cons _ t => .cons r t
  | _, _, i + 1, .cons q t => .cons q (Vals.set r i t)
theorem Vals.append : ∀ {xs ys : List V} {us ws : List Value}, Vals xs us → Vals ys ws → Vals (xs ++ ys) (us ++ ws)
  | _, _, _, _, .nil, s => s
  | _, _, _, _, .cons r t, s => .cons r (Vals.append t s)
theorem Vals.take : ∀ {xs : List V} {us : List Value} (n : Nat), Vals xs us → Vals (xs.take n) (us.take n)
  | _, _, 0, _ => .nil
  | _, _, _ + 1, .nil => .nil
  | _, _, n + 1, .cons r t => .cons r (Vals.take n t)
theorem Vals.drop : ∀ {xs : List V} {us : List Value} (n : Nat), Vals xs us → Vals (xs.drop n) (us.drop n)
  | _, _, 0, r => r
  | _, _, _ + 1, .nil => .nil
  | _, _, n + 1, .cons _ t => Vals.drop n t
theorem Vals.none_of : ∀ {xs : List V} {us : List Value} {i : Nat}, Vals xs us → xs[i]? = none → us[i]? = none := fun {xs us i} r e => by
  have h1 := r.length
  have h2 : xs.length ≤ i := List.getElem?_eq_none_iff.mp e
  exact List.getElem?_eq_none_iff.mpr (by omega)
def RelO : Option V → Option Value → Prop
  | some v, some u => RelV v u
  | none, none => True
  | _, _ => False
def KV {κ : Type} : List (κ × V) → List (κ × Value) → Prop := Paired fun (p : κ × V) (q : κ × Value) => p.1 = q.1 ∧ RelV p.2 q.2
def kV : Key → V
  | .inl i => .int i
  | .inr x => .str x
inductive HO where
  /-- a list -/
  | lst (xs : List V)
  /-- a tuple (never changes) -/
  | tup (xs : List V)
  /-- a dict whose keys are ints and texts; one whose keys are tuples of ints and texts (the empty one is both) -/
  | dK (kvs : List (Key × V)) | dT (kvs : List (List Key × V))
  /-- a set of ints: its members, its size -/
  | set (S : Int → Bool) (n : Nat)
  /-- an instance of the class at C, its dict at dx, its attributes -/
  | ins (C dx : Addr) (fs : List (Str × V))
  /-- the dict of the instance at x -/
  | own (x : Addr)
  /-- the dict of an exception -/
  | xd (fs : List (Str × V))
  /-- a bound method, f of x -/
  | met (f x : Addr)
  /-- a range object lo, lo + 1, .. below hi -/
  | rng (lo hi : Int)
  /-- a thing that is known to the object (the script; a dict while a loop walks it): read, never written while it is so -/
  | frz (o : Obj) (u : HO)
  /-- a code object's table -/
  | tbl (ps : Array Value)
  /-- any other thing, by what is true of its one object (a def of one's own: SetO a S n := HO.ext fun h => ..) -/
  | ext (φ : Heap → Prop)
abbrev Hp := Addr → Option HO
def upd (H : Hp) (a : Addr) (o : HO) : Hp := fun b => if b = a then some o else H b
theorem upd_same {H : Hp} {a : Addr} {o : HO} : upd H a o a = some o := by unfold upd; rw [if_pos rfl]
theorem upd_ne {H : Hp} {a b : Addr} {o : HO} (h : b ≠ a) : upd H a o b = H b := by unfold upd; rw [if_neg h]
theorem ne_of {H : Hp} {a b : Addr} {o u : HO} (h : H a = some o) (h' : H b = some u) (d : o ≠ u) : a ≠ b := by
  intro e; subst e; rw [h] at h'; exact d (Option.some.inj h')
theorem ne_of_none {H : Hp} {a b : Addr} {o : HO} (h : H a = some o) (h' : H b = none) : a ≠ b := by
  intro e; subst e; rw [h] at h'; cases h'
section
variable (P : Program) (w : World)
def ObjOk (H : Hp) (h : Heap) (a : Addr) : HO → Prop
  | .lst xs => xs.length ≤ sizeLine ∧ ∃ (its : List Value) (n : Nat), Vals xs its ∧ h.get? a = some { cls := .type "list", data := .seq its.toArray n }
  | .tup xs => xs.length ≤ sizeLine ∧ ∃ its : List Value, Vals xs its ∧ IsTup h a its.toArray
  | .dK kvs => kvs.length ≤ sizeLine ∧ (a == sysModules) = false ∧ ∃ vs, KV kvs vs ∧ h.DictOf (mixKind P w) a vs
  | .dT kvs => kvs.length ≤ sizeLine ∧ (a == sysModules) = false ∧ ∃ xs : List (List Key × Addr × Value),
      Paired (fun (p : List Key × V) (q : List Key × Addr × Value) => p.1 = q.1 ∧ H q.2.1 = some (.tup (p.1.map kV)) ∧ RelV p.2 q.2.2) kvs xs ∧
      ∃ o es ep, h.get? a = some o ∧ o.ExactDict ∧ o.data = .dict es ep ∧ es.toList = xs.map (entryOfKey (tupleKind (mixKind P w))) ∧ (xs.map (·.1)).Nodup
  | .set S n => h.SetOf (intKind P w) a S n
  | .ins C dx fs => H dx = some (.own a) ∧ fs.length ≤ 1000 ∧ dx ≠ a ∧ h.get? a = some (PySem.W.instObj C dx) ∧
      ∃ mA, h.Ns1 dx mA ∧ (∀ f, RelO (fs.lookup f) (mA f)) ∧ PySem.Within mA (fs.map (·.1))
  | .own _ => ∃ o, h.get? a = some o
  | .xd fs => ∃ mA, h.Ns1 a mA ∧ ∀ f, RelO (fs.lookup f) (mA f)
  | .rng lo hi => ∃ t u v, h.get? a = some { cls := .type "range", data := .fields #[.int lo t, .int hi u, .int 1 v] }
  | .frz o u => h.get? a = some o ∧ ObjOk H h a u
  | .tbl ps => h.get? a = some { cls := .none, data := .fields ps }
  | .met f x => h.get? a = some (PySem.W.methodObj (.ref f) (.ref x))
  | .ext φ => φ h ∧ (∃ o, h.get? a = some o) ∧ ∀ h1 h2 : Heap, φ h1 → (∀ o, h1.get? a = some o → h2.get? a = some o) → φ h2
def HOk (H : Hp) (h : Heap) : Prop := ∀ a o, H a = some o → ObjOk P w H h a o
end
section
variable {P : Program} {w : World} {H H' : Hp} {h h' : Heap} {a : Addr} {o : HO}
theorem ObjOk.lt (x : ObjOk P w H h a o) : a < h.objs.size := by
  cases o with
  | lst xs => obtain ⟨_, _, _, _, e⟩ := x; exact Heap.lt_size e
  | tup xs => obtain ⟨_, _, _, p⟩ := x; exact p.lt
  | dK kvs => obtain ⟨_, _, _, _, o, _, _, e, _⟩ := x; exact Heap.lt_size e
  | dT kvs => obtain ⟨_, _, _, _, o, _, _, e, _⟩ := x; exact Heap.lt_size e
  | set S n => obtain ⟨o, _, _, _, e, _⟩ := x; exact Heap.lt_size e
  | ins C dx fs => obtain ⟨_, _, _, e, _⟩ := x; exact Heap.lt_size e
  | own y => obtain ⟨_, e⟩ := x; exact Heap.lt_size e
  | xd fs => obtain ⟨_, ⟨_, _, _, e, _⟩, _⟩ := x; exact Heap.lt_size e
  | rng lo hi => obtain ⟨_, _, _, e⟩ := x; exact Heap.lt_size e
  | frz ob u => obtain ⟨e, _⟩ := x; exact Heap.lt_size e
  | tbl ps => exact Heap.lt_size (show h.get? a = some _ from x)
  | met f y => exact Heap.lt_size (show h.get? a = some _ from x)
  | ext φ => obtain ⟨_, ⟨_, e⟩, _⟩ := x; exact Heap.lt_size e
theorem Paired.mapP {α β : Type} {F G : α → β → Prop} : ∀ {l₁ : List α} {l₂ : List β}, Paired F l₁ l₂ → (∀ a b, F a b → G a b) → Paired G l₁ l₂
  | _, _, .nil, _ => .nil
  | _, _, .cons r t, f => .cons (f _ _ r) (Paired.mapP t f)
theorem ObjOk.stay (x : ObjOk P w H h a o) (k : ∀ b u, (b = a ∨ H b = some (.own a)) → h.get? b = some u → h'.get? b = some u)
    (ho : ∀ b, H b = some (.own a) → H' b = some (.own a)) (ht : ∀ b xs, H b = some (.tup xs) → H' b = some (.tup xs)) : ObjOk P w H' h' a o := by
  induction o with
  | lst xs => obtain ⟨z, its, n, r, e⟩ := x; exact ⟨z, its, n, r, k _ _ (.inl rfl) e⟩
  | tup xs => obtain ⟨z, its, r, ob, e, c⟩ := x; exact ⟨z, its, r, ob, k _ _ (.inl rfl) e, c⟩
  | dK kvs => obtain ⟨z, y, vs, r, ob, es, ep, e, c⟩ := x; exact ⟨z, y, vs, r, ob, es, ep, k _ _ (.inl rfl) e, c⟩
  | dT kvs =>
    obtain ⟨z, y, xs, r, ob, es, ep, e, c⟩ := x
    exact ⟨z, y, xs, Paired.mapP r fun p q z => ⟨z.1, ht _ _ z.2.1, z.2.2⟩, ob, es, ep, k _ _ (.inl rfl) e, c⟩
  | set S n => obtain ⟨ob, es, ep, t, e, c⟩ := x; exact ⟨ob, es, ep, t, k _ _ (.inl rfl) e, c⟩
  | ins C dx fs =>
    obtain ⟨d, z, ne, e, mA, ⟨od, es, ep, e2, c⟩, r⟩ := x
    exact ⟨ho _ d, z, ne, k _ _ (.inl rfl) e, mA, ⟨od, es, ep, k _ _ (.inr d) e2, c⟩, r⟩
  | own y => obtain ⟨ob, e⟩ := x; exact ⟨ob, k _ _ (.inl rfl) e⟩
  | xd fs => obtain ⟨mA, ⟨od, es, ep, e, c⟩, r⟩ := x; exact ⟨mA, ⟨od, es, ep, k _ _ (.inl rfl) e, c⟩, r⟩
  | rng lo hi => obtain ⟨t, u, v, e⟩ := x; exact ⟨t, u, v, k _ _ (.inl rfl) e⟩
  | frz ob u ih => obtain ⟨e, q⟩ := x; exact ⟨k _ _ (.inl rfl) e, ih q⟩
  | tbl ps =>
    have e : h.get? a = some { cls := .none, data := .fields ps } := x
    show h'.get? a = some { cls := .none, data := .fields ps }
    exact k a _ (.inl rfl) e
  | met f y =>
    have e : h.get? a = some (PySem.W.methodObj (.ref f) (.ref y)) := x
    show h'.get? a = some (PySem.W.methodObj (.ref f) (.ref y))
    exact k a _ (.inl rfl) e
  | ext φ => obtain ⟨p, ⟨o, e⟩, st⟩ := x; exact ⟨st _ _ p fun o q => k _ _ (.inl rfl) q, ⟨o, k _ _ (.inl rfl) e⟩, st⟩
theorem HOk.lt (x : HOk P w H h) (e : H a = some o) : a < h.objs.size := (x a o e).lt
theorem HOk.fresh (x : HOk P w H h) (e : h.objs.size ≤ a) : H a = none := by
  cases q : H a with
  | none => rfl
  | some u => exact absurd (Nat.lt_of_lt_of_le (x.lt q) e) (Nat.lt_irrefl _)
theorem HOk.kept (x : HOk P w H h) (k : ∀ b u, h.get? b = some u → h'.get? b = some u) : HOk P w H h' := fun a o e =>
  (x a o e).stay (fun b u _ q => k b u q) (fun _ q => q) fun _ _ q => q
theorem HOk.laid (x : HOk P w H h) (k : ∀ b u, h.get? b = some u → h'.get? b = some u) (hp : h.objs.size ≤ a) (new : ObjOk P w (upd H a o) h' a o) : HOk P w (upd H a o) h' := fun b u e => by
  have hn := x.fresh hp
  by_cases hb : b = a
  · subst hb; rw [upd_same] at e; cases e; exact new
  · rw [upd_ne hb] at e
    exact (x b u e).stay (fun c v _ q => k c v q) (fun c q => by rw [upd_ne (ne_of_none q hn)]; exact q) fun c xs q => by rw [upd_ne (ne_of_none q hn)]; exact q
end
def Rd (H : Hp) (a : Addr) (u : HO) : Prop := H a = some u ∨ ∃ o, H a = some (.frz o u)
theorem Rd.of {H : Hp} {a : Addr} {u : HO} (h : H a = some u) : Rd H a u := .inl h
theorem Rd.ok {P : Program} {w : World} {H : Hp} {h : Heap} {a : Addr} {u : HO} (r : Rd H a u) (x : HOk P w H h) : ObjOk P w H h a u := by
  rcases r with r | ⟨o, r⟩
  · exact x a u r
  · obtain ⟨_, q⟩ := x a _ r
    exact q
def Mut : Option HO → Prop
  | some (.lst _) => True
  | some (.dK _) => True
  | some (.dT _) => True
  | some (.set _ _) => True
  | some (.ins _ _ _) => True
  | some (.ext _) => True
  | _ => False
section
variable {P : Program} {w : World} {H : Hp} {h h' : Heap} {x e : Addr} {o' : HO}
theorem HOk.write (ok : HOk P w H h) (mu : Mut (H x)) (he : e = x ∨ H e = some (.own x)) (k : ∀ b u, b ≠ e → h.get? b = some u → h'.get? b = some u) (heo : ∃ u, h'.get? e = some u)
    (new : ObjOk P w (upd H x o') h' x o') : HOk P w (upd H x o') h' := fun b u q => by
  have nown : ∀ c y, H c = some (.own y) → c ≠ x := fun c y r z => by subst z; rw [r] at mu; exact mu
  have ntup : ∀ c xs, H c = some (.tup xs) → c ≠ x := fun c xs r z => by subst z; rw [r] at mu; exact mu
  by_cases hb : b = x
  · subst hb; rw [upd_same] at q; cases q; exact new
  · rw [upd_ne hb] at q
    by_cases hbe : b = e
    · have q' : H b = some (.own x) := by
        rcases he with z | z
        · exact absurd (hbe.trans z) hb
        · rw [hbe]; exact z
      rw [q] at q'; cases q'
      obtain ⟨v, hv⟩ := heo
      exact ⟨v, by rw [hbe]; exact hv⟩
    · refine (ok b u q).stay (fun c v hc r => k c v ?_ r) (fun c r => by rw [upd_ne (nown c b r)]; exact r) fun c xs r => by rw [upd_ne (ntup c xs r)]; exact r
      rcases hc with rfl | hc
      · exact hbe
      · rintro rfl
        rcases he with z | z
        · exact nown c b hc z
        · rw [hc] at z; cases z; exact hb rfl
end
structure Un (fs ex : List Addr) (H H' : Hp) (h h' : Heap) : Prop where
  keep : ∀ b o, h.get? b = some o → H b = none → b ∉ fs → b ∉ ex → h'.get? b = some o
  slot : ∀ b o, h.get? b = some o → H b = none → b ∈ fs → b ∉ ex → ∃ sl, h'.get? b = some { o with slots := sl }
  free : ∀ b o, h.get? b = some o → H b = none → b ∉ ex → H' b = none
  there : ∀ b o, h.get? b = some o → b ∉ ex → ∃ o', h'.get? b = some o'
  tups : ∀ b xs, H b = some (.tup xs) → H' b = some (.tup xs)
  frzs : ∀ b o u, H b = some (.frz o u) → H' b = some (.frz o u)
  tbls : ∀ b ps, H b = some (.tbl ps) → ∃ more, H' b = some (.tbl (ps ++ more))
section
variable {fs fs' ex ex' : List Addr} {H H1 H2 : Hp} {h h1 h2 h' : Heap} {a x e : Addr} {o : HO}
theorem Un.any (u : Un fs ex H H1 h h1) {b : Addr} {ob : Obj} (q : h.get? b = some ob) (n : H b = none) (hx : b ∉ ex) : ∃ sl, h1.get? b = some { ob with slots := sl } := by
  by_cases hb : b ∈ fs
  · exact u.slot b ob q n hb hx
  · exact ⟨ob.slots, u.keep b ob q n hb hx⟩
theorem Un.trans (a : Un fs ex H H1 h h1) (b : Un fs ex H1 H2 h1 h2) : Un fs ex H H2 h h2 where
  keep := fun c ob q n hc hx => b.keep c ob (a.keep c ob q n hc hx) (a.free c ob q n hx) hc hx
  slot := fun c ob q n hc hx => by
    obtain ⟨sl, e1⟩ := a.slot c ob q n hc hx
    obtain ⟨sl', e2⟩ := b.slot c _ e1 (a.free c ob q n hx) hc hx
    exact ⟨sl', e2⟩
  free := fun c ob q n hx => by
    obtain ⟨o', e1⟩ := a.there c ob q hx
    exact b.free c o' e1 (a.free c ob q n hx) hx
  there := fun c ob q hx => by
    obtain ⟨o', e1⟩ := a.there c ob q hx
    exact b.there c o' e1 hx
  tups := fun c xs q => b.tups c xs (a.tups c xs q)
  frzs := fun c ob xs q => b.frzs c ob xs (a.frzs c ob xs q)
  tbls := fun c ps q => by
    obtain ⟨m1, e1⟩ := a.tbls c ps q
    obtain ⟨m2, e2⟩ := b.tbls c _ e1
    exact ⟨m1 ++ m2, by rw [e2, Array.append_assoc]⟩
theorem Un.kept (k : ∀ b u, h.get? b = some u → h'.get? b = some u) : Un fs ex H H h h' :=
  ⟨fun b ob q _ _ _ => k b ob q, fun b ob q _ _ _ => ⟨ob.slots, k b ob q⟩, fun _ _ _ n _ => n, fun b ob q _ => ⟨ob, k b ob q⟩, fun _ _ q => q, fun _ _ _ q => q, fun _ ps q => ⟨#[], by rw [q]; simp⟩⟩
theorem Un.refl : Un fs ex H H h h := Un.kept fun _ _ q => q
theorem Un.laid (k : ∀ b u, h.get? b = some u → h'.get? b = some u) (hp : h.objs.size ≤ a) (hn : H a = none) : Un fs ex H (upd H a o) h h' where
  keep := fun b u q _ _ _ => k b u q
  slot := fun b u q _ _ _ => ⟨u.slots, k b u q⟩
  free := fun b u q n _ => by rw [upd_ne (Nat.ne_of_lt (Nat.lt_of_lt_of_le (Heap.lt_size q) hp))]; exact n
  there := fun b u q _ => ⟨u, k b u q⟩
  tups := fun b xs q => by rw [upd_ne (ne_of_none q hn)]; exact q
  frzs := fun b u xs q => by rw [upd_ne (ne_of_none q hn)]; exact q
  tbls := fun b ps q => ⟨#[], by rw [upd_ne (ne_of_none q hn), q]; simp⟩
theorem Un.write (mu : Mut (H x)) (he : e = x ∨ H e = some (.own x)) (k : ∀ b u, b ≠ e → h.get? b = some u → h'.get? b = some u) (heo : ∃ u, h'.get? e = some u) : Un fs ex H (upd H x o) h h' := by
  have hx : ∀ b, H b = none → b ≠ x := fun b n z => by subst z; rw [n] at mu; exact mu
  have hb : ∀ b, H b = none → b ≠ e := fun b n z => by
    subst z
    rcases he with r | r
    · exact hx b n r
    · rw [n] at r; cases r
  have hm : ∀ b u, H b = some u → ¬ Mut (some u) → b ≠ x := fun b u q nm z => by subst z; rw [q] at mu; exact nm mu
  refine ⟨fun b u q n _ _ => k b u (hb b n) q, fun b u q n _ _ => ⟨u.slots, k b u (hb b n) q⟩, fun b u q n _ => by rw [upd_ne (hx b n)]; exact n, fun b u q _ => ?_,
    fun b xs q => by rw [upd_ne (hm b _ q fun z => z)]; exact q, fun b u xs q => by rw [upd_ne (hm b _ q fun z => z)]; exact q, fun b ps q => ⟨#[], by rw [upd_ne (hm b _ q fun z => z), q]; simp⟩⟩
  by_cases hbe : b = e
  · subst hbe; exact heo
  · exact ⟨u, k b u hbe q⟩
theorem Un.mono (u : Un fs ex H H1 h h1) (hs : ∀ b ∈ fs, b ∈ fs') (hx : ∀ b ∈ ex, b ∈ ex') : Un fs' ex' H H1 h h1 :=
  ⟨fun b ob q n hb he => u.keep b ob q n (fun z => hb (hs b z)) fun z => he (hx b z), fun _ _ q n _ he => u.any q n fun z => he (hx _ z), fun b ob q n he => u.free b ob q n fun z => he (hx b z), fun b ob q he => u.there b ob q fun z => he (hx b z), u.tups, u.frzs, u.tbls⟩
end
def trk (h : Heap) (H : Hp) : List Addr := (List.range h.objs.size).filter fun a => (H a).isSome
def hidT (h : Heap) (H : Hp) : Heap := PySem.W.hideAll h (trk h H)
theorem hidT_size (h : Heap) (H : Hp) : (hidT h H).objs.size = h.objs.size := PySem.W.hideAll_size _ _
theorem hidT_get {h : Heap} {H : Hp} {b : Addr} {o : Obj} (e : h.get? b = some o) (n : H b = none) : (hidT h H).get? b = some o :=
  PySem.W.hideAll_get _ e fun hm => by
    have q : (H b).isSome = true := (List.mem_filter.mp hm).2
    rw [n] at q; simp at q
theorem of_hidT {h : Heap} {H : Hp} {b : Addr} {o : Obj} (e : (hidT h H).get? b = some o) : h.get? b = some o ∧ H b = none := by
  have e' : h.get? b = some o := PySem.W.of_hideAll (trk h H) e
  refine ⟨e', ?_⟩
  cases q : H b with
  | none => rfl
  | some x =>
    have hm : b ∈ trk h H := List.mem_filter.mpr ⟨List.mem_range.mpr (Heap.lt_size e'), by simp [q]⟩
    have z : (hidT h H).get? b = none := PySem.W.hideAll_none (trk h H) hm
    rw [z] at e; cases e
def allNews (g h : Heap) (L : Addr) : List (Addr × Obj) := (List.range h.objs.size).filterMap fun a => if a = L ∨ (g.get? a).isSome = true then none else (h.get? a).map fun o => (a, o)
def rest (g h : Heap) (L d : Addr) : List (Addr × Obj) := (allNews g h L).filter fun p => decide (p.1 ≠ d)
end L2
namespace L2
open PySem PySem.Spec PyProof.Rows
structure Mod (K : PySem.W.Frag) (mg : Str → Option Value) (base : Heap) : Prop where
  kin : K.In base
  glob : base.Ns mainGlobals mg
  blt : ∃ mb, base.Ns builtinsNs mb ∧ ∀ x : Str, x ≠ "__name__" → mb x = bootBuiltins x
  nolimit : base.NoLimit
structure Cx where
  prog : Program
  w : World
  K : PySem.W.Frag
  mg : Str → Option Value
  base : Heap
  A : Around
  N : List Str
  s₀ : Shared
  H₀ : Hp
  env : Env
  outer : List Env
  stack : List Env
  ex : List Addr
  fn : Str → Bool
  calm : Bool
  pn : List (Addr × Obj)
  xe : Value → Shared → Prop
def frs (l : List Env) : List Addr := l.filterMap (·.frame)
abbrev Cx.fs (X : Cx) : List Addr := frs X.outer
def Vis (sc : Scope) (x : Str) : Prop := sc.names.lookup x = some .local ∨ sc.names.lookup x = some .cell ∨ sc.names.lookup x = some .free
def Loc (sc : Scope) (x : Str) : Prop := sc.names.lookup x = some .local ∨ sc.names.lookup x = some .cell
def Look (env : Env) (h : Heap) (m : Str → Option Value) (x : Str) (u : Value) : Prop :=
  (env.kindOf x = some .local ∧ m x = some u) ∨ ((env.kindOf x = some .cell ∨ env.kindOf x = some .free) ∧ ∃ c, env.cells.lookup x = some c ∧ h.IsCell c (some u))
structure Cx.Ok (X : Cx) : Prop where
  mod : Mod X.K X.mg X.base
  kind : X.env.scope.kind = .function
  glob : X.env.globals = mainGlobals
  blt : X.env.builtins = builtinsNs
  above : X.s₀.heap.objs.size ≤ X.env.locals
  inj : ∀ x y c, X.env.cells.lookup x = some c → X.env.cells.lookup y = some c → x = y
  has : ∀ x, (X.env.kindOf x = some .cell ∨ X.env.kindOf x = some .free) → ∃ c, X.env.cells.lookup x = some c
  cab : ∀ x c, X.fn x = true → X.env.cells.lookup x = some c → X.s₀.heap.objs.size ≤ c
  hd : X.calm = true → X.A.handled = none
  frames : X.A.frames = some X.stack
  stk : X.stack = X.outer ∨ (X.stack = X.env :: X.outer ∧ X.env.frame = some X.env.locals)
  exf : ∀ b ∈ X.ex, b ≠ X.env.locals ∧ ∀ x c, X.env.cells.lookup x = some c → c ≠ b
  bs : ∀ b o, X.base.get? b = some o → X.s₀.heap.get? b = some o ∧ X.H₀ b = none
  bsz : X.base.objs.size ≤ X.s₀.heap.objs.size
  noex : ∀ b o, X.base.get? b = some o → b ∉ X.ex
  exfs : ∀ b ∈ X.ex, b ∉ X.fs
  funs : X.s₀.heap.FunFrames X.base X.outer
  frf : ∀ b ∈ X.fs, X.H₀ b = none
structure Inv (X : Cx) (pins : List (Addr × Obj)) (σ : List (Option V)) (H : Hp) (s : Shared) : Prop where
  ok : X.Ok
  os : s.os = X.s₀.os
  bare : AllBare s.gens
  base : Un X.fs X.ex X.H₀ H X.s₀.heap s.heap
  loc : ∃ m, s.heap.Ns X.env.locals m ∧ ∀ (i : Nat) (x : Str) (v : V), X.N[i]? = some x → σ[i]? = some (some v) → Vis X.env.scope x → ∃ u, RelV v u ∧ Look X.env s.heap m x u
  cell : ∀ x c, X.env.cells.lookup x = some c → ∃ v, s.heap.IsCell c v
  free : H X.env.locals = none
  freeC : ∀ x c, X.env.cells.lookup x = some c → H c = none
  pin : ∀ p ∈ X.pn ++ pins, s.heap.get? p.1 = some p.2 ∧ H p.1 = none ∧ p.1 ≠ X.env.locals ∧ p.1 ∉ X.fs ∧ ∀ v, p.2.data ≠ .cell v
  hok : HOk X.prog X.w H s.heap
  len : σ.length = X.N.length
section
variable {X : Cx} {pins : List (Addr × Obj)} {σ : List (Option V)} {H H' : Hp} {s : Shared} {h' : Heap}
theorem Cx.Ok.nofr (ok : X.Ok) {b : Addr} {o : Obj} (e : X.base.get? b = some o) : b ∉ X.fs := fun hb => by
  have := (ok.funs.mem hb).1
  rw [e] at this; cases this
theorem Inv.bs (I : Inv X pins σ H s) : ∀ b o, X.base.get? b = some o → s.heap.get? b = some o ∧ H b = none := fun b o e =>
  ⟨I.base.keep b o (I.ok.bs b o e).1 (I.ok.bs b o e).2 (I.ok.nofr e) (I.ok.noex b o e), I.base.free b o (I.ok.bs b o e).1 (I.ok.bs b o e).2 (I.ok.noex b o e)⟩
theorem Inv.bk (I : Inv X pins σ H s) : ∀ b o, X.base.get? b = some o → s.heap.get? b = some o := fun b o e => (I.bs b o e).1
theorem Inv.mod (I : Inv X pins σ H s) : Mod X.K X.mg X.base := I.ok.mod
theorem Inv.kIn (I : Inv X pins σ H s) : X.K.In s.heap := I.ok.mod.kin.keeps I.bk
theorem Inv.nolimit (I : Inv X pins σ H s) : s.heap.NoLimit := I.ok.mod.nolimit.keeps I.bk
theorem Inv.fr (I : Inv X pins σ H s) : ∃ m, Fr X.base X.env.locals s.heap m :=
  let ⟨m, hn, _⟩ := I.loc
  ⟨m, hn, I.bk, Nat.le_trans I.ok.bsz I.ok.above⟩
theorem Inv.lt (I : Inv X pins σ H s) : X.env.locals < s.heap.objs.size := let ⟨_, hn, _⟩ := I.loc; hn.lt
theorem Inv.sz (I : Inv X pins σ H s) : X.s₀.heap.objs.size ≤ s.heap.objs.size := Nat.le_trans I.ok.above (Nat.le_of_lt I.lt)
theorem Inv.nofs (I : Inv X pins σ H s) {a : Addr} (h : s.heap.objs.size ≤ a) : a ∉ X.fs := fun hb => by
  obtain ⟨_, o, ho, _⟩ := I.ok.funs.mem hb
  exact absurd (Nat.lt_of_lt_of_le (Heap.lt_size ho) (Nat.le_trans I.sz h)) (Nat.lt_irrefl _)
theorem Inv.cne (I : Inv X pins σ H s) : ∀ x c, X.env.cells.lookup x = some c → c ≠ X.env.locals := fun x c e z => by
  obtain ⟨v, o, ho, hd⟩ := I.cell x c e
  obtain ⟨m, ⟨o', es, ep, ho', hd', _⟩, _⟩ := I.loc
  rw [z, ho'] at ho; cases ho; rw [hd'] at hd; cases hd
theorem Inv.funs (I : Inv X pins σ H s) : s.heap.FunFrames X.base X.outer := by
  have all : ∀ (l : List Env), (∀ b ∈ frs l, b ∈ X.fs) → X.s₀.heap.FunFrames X.base l → s.heap.FunFrames X.base l := by
    intro l
    induction l with
    | nil => intro _ _; trivial
    | cons env r ih =>
      intro hs hl
      obtain ⟨hk, ⟨L, o, hf, hn, ho, hd⟩, hr⟩ := hl
      have hL : L ∈ X.fs := hs L (by unfold frs; rw [List.filterMap_cons, hf]; exact List.mem_cons_self)
      obtain ⟨sl, e⟩ := I.base.slot L o ho (I.ok.frf L hL) hL fun z => I.ok.exfs L z hL
      exact ⟨hk, ⟨L, _, hf, hn, e, hd⟩, ih (fun b hb => hs b (by unfold frs; rw [List.filterMap_cons, hf]; exact List.mem_cons_of_mem _ hb)) hr⟩
  exact all X.outer (fun _ hb => hb) I.ok.funs
theorem Inv.stack (I : Inv X pins σ H s) : s.heap.FunFrames X.base X.stack := by
  rcases I.ok.stk with e | ⟨e, hf⟩
  · rw [e]; exact I.funs
  · rw [e]
    obtain ⟨m, hn, _⟩ := I.loc
    refine .cons (by rw [I.ok.kind]; decide) hf hn ?_ I.funs
    exact Heap.get?_none_of_le (Nat.le_trans I.ok.bsz I.ok.above)
theorem Inv.stkSub (I : Inv X pins σ H s) : ∀ b ∈ frs X.stack, b ∈ X.env.locals :: X.fs := fun b hb => by
  rcases I.ok.stk with e | ⟨e, hf⟩
  · rw [e] at hb; exact List.mem_cons_of_mem _ hb
  · rw [e] at hb
    unfold frs at hb
    rw [List.filterMap_cons, hf] at hb
    exact hb
theorem Inv.stkFree (I : Inv X pins σ H s) : ∀ b ∈ frs X.stack, H b = none := fun b hb => by
  rcases List.mem_cons.mp (I.stkSub b hb) with e | hb
  · rw [e]; exact I.free
  · obtain ⟨_, o, ho, _⟩ := I.ok.funs.mem hb
    exact I.base.free b o ho (I.ok.frf b hb) fun z => I.ok.exfs b z hb
theorem Inv.step {g' : Array GenState} {t' : Nat} {d' : Drawn} {ch : List Addr} (I : Inv X pins σ H s)
    (hch : ∀ b ∈ ch, (b ∈ X.ex ∨ X.s₀.heap.objs.size ≤ b) ∧ b ≠ X.env.locals ∧ (∀ x c, X.env.cells.lookup x = some c → c ≠ b) ∧ ∀ p ∈ X.pn ++ pins, p.1 ≠ b)
    (keep : ∀ b o, b ≠ X.env.locals → b ∉ X.fs → b ∉ ch → s.heap.get? b = some o → H b = none → h'.get? b = some o)
    (slot : ∀ b o, b ≠ X.env.locals → b ∈ X.fs → b ∉ ch → s.heap.get? b = some o → H b = none → ∃ sl, h'.get? b = some { o with slots := sl }) (free : ∀ b o, b ∉ ch → s.heap.get? b = some o → H b = none → H' b = none)
    (there : ∀ b o, b ∉ ch → s.heap.get? b = some o → ∃ o', h'.get? b = some o')
    (tups : ∀ b xs, H b = some (.tup xs) → H' b = some (.tup xs)) (frzs : ∀ b o u, H b = some (.frz o u) → H' b = some (.frz o u)) (tbls : ∀ b ps, H b = some (.tbl ps) → ∃ more, H' b = some (.tbl (ps ++ more)))
    (ns : ∀ m, s.heap.Ns X.env.locals m → h'.Ns X.env.locals m) (hok : HOk X.prog X.w H' h') (hg : AllBare g') :
    Inv X pins σ H' { s with heap := h', gens := g', drawn := d', toks := t' } := by
  have neL : ∀ b o, X.s₀.heap.get? b = some o → b ≠ X.env.locals := fun b o e => Nat.ne_of_lt (Nat.lt_of_lt_of_le (Heap.lt_size e) I.ok.above)
  have neC : ∀ b o, X.s₀.heap.get? b = some o → b ∉ X.ex → b ∉ ch := fun b o e hx hb => by
    rcases (hch b hb).1 with z | z
    · exact hx z
    · exact absurd (Nat.lt_of_lt_of_le (Heap.lt_size e) z) (Nat.lt_irrefl _)
  have cellK : ∀ x c, X.env.cells.lookup x = some c → ∀ v, s.heap.IsCell c v → h'.IsCell c v := fun x c e v ⟨o, ho, hd⟩ => by
    have nch : c ∉ ch := fun z => (hch c z).2.2.1 x c e rfl
    by_cases hc : c ∈ X.fs
    · obtain ⟨sl, q⟩ := slot c o (I.cne x c e) hc nch ho (I.freeC x c e)
      exact ⟨_, q, hd⟩
    · exact ⟨o, keep c o (I.cne x c e) hc nch ho (I.freeC x c e), hd⟩
  refine ⟨I.ok, I.os, hg, ⟨fun b o e n hb hx => ?_, fun b o e n hb hx => ?_, fun b o e n hx => ?_, fun b o e hx => ?_, fun b xs e => tups b xs (I.base.tups b xs e), fun b o xs e => frzs b o xs (I.base.frzs b o xs e), fun b ps e => ?_⟩, ?_, fun x c e => ?_, ?_, fun x c e => ?_, fun p hp => ?_, hok, I.len⟩
  · exact keep b o (neL b o e) hb (neC b o e hx) (I.base.keep b o e n hb hx) (I.base.free b o e n hx)
  · obtain ⟨sl, e1⟩ := I.base.slot b o e n hb hx
    obtain ⟨sl', e2⟩ := slot b _ (neL b o e) hb (neC b o e hx) e1 (I.base.free b o e n hx)
    exact ⟨sl', e2⟩
  · obtain ⟨o', e1⟩ := I.base.there b o e hx
    exact free b o' (neC b o e hx) e1 (I.base.free b o e n hx)
  · obtain ⟨o', e1⟩ := I.base.there b o e hx
    exact there b o' (neC b o e hx) e1
  · obtain ⟨m1, e1⟩ := I.base.tbls b ps e
    obtain ⟨m2, e2⟩ := tbls b _ e1
    exact ⟨m1 ++ m2, by rw [e2, Array.append_assoc]⟩
  · obtain ⟨m, hn, hl⟩ := I.loc
    refine ⟨m, ns m hn, fun i x v e1 e2 e3 => ?_⟩
    obtain ⟨u, r, l⟩ := hl i x v e1 e2 e3
    refine ⟨u, r, ?_⟩
    rcases l with l | ⟨k, c, e, z⟩
    · exact .inl l
    · exact .inr ⟨k, c, e, cellK x c e _ z⟩
  · obtain ⟨v, z⟩ := I.cell x c e
    exact ⟨v, cellK x c e v z⟩
  · obtain ⟨m, ⟨o, _, _, ho, _⟩, _⟩ := I.loc
    exact free _ o (fun z => (hch _ z).2.1 rfl) ho I.free
  · obtain ⟨v, o, ho, hd⟩ := I.cell x c e
    exact free c o (fun z => (hch c z).2.2.1 x c e rfl) ho (I.freeC x c e)
  · obtain ⟨e, n, ne, nf, d⟩ := I.pin p hp
    have nch : p.1 ∉ ch := fun z => (hch p.1 z).2.2.2 p hp rfl
    exact ⟨keep p.1 p.2 ne nf nch e n, free p.1 p.2 nch e n, ne, nf, d⟩
theorem Inv.un {t' : Nat} (I : Inv X pins σ H s) (u : Un X.fs [] H H' s.heap h') (hok : HOk X.prog X.w H' h') : Inv X pins σ H' { s with heap := h', toks := t' } := by
  obtain ⟨m, ⟨o, es, ep, ho, r⟩, _⟩ := id I.loc
  obtain ⟨sl, hL⟩ := u.any ho I.free (by simp)
  exact I.step (g' := s.gens) (d' := s.drawn) (ch := []) (fun _ z => nomatch z) (fun b o _ hb _ e n => u.keep b o e n hb (by simp)) (fun b o _ hb _ e n => u.slot b o e n hb (by simp)) (fun b o _ e n => u.free b o e n (by simp)) (fun b o _ e => u.there b o e (by simp)) u.tups u.frzs u.tbls (fun m' hm => by
    obtain ⟨o', es', ep', ho', r'⟩ := hm
    rw [ho] at ho'; cases ho'
    exact ⟨_, es', ep', hL, r'⟩) hok I.bare
theorem Inv.call {g' : Array GenState} {t' : Nat} {d' : Drawn} {ch : List Addr} (I : Inv X pins σ H s) (u : Un (frs X.stack) ch H H' s.heap h') (hok : HOk X.prog X.w H' h') (hg : AllBare g')
    (hch : ∀ b ∈ ch, (b ∈ X.ex ∨ X.s₀.heap.objs.size ≤ b) ∧ b ≠ X.env.locals ∧ (∀ x c, X.env.cells.lookup x = some c → c ≠ b) ∧ ∀ p ∈ X.pn ++ pins, p.1 ≠ b) :
    Inv X pins σ H' { s with heap := h', gens := g', drawn := d', toks := t' } := by
  obtain ⟨m, ⟨o, es, ep, ho, r⟩, _⟩ := id I.loc
  obtain ⟨sl, hL⟩ := u.any ho I.free fun z => (hch _ z).2.1 rfl
  exact I.step (ch := ch) hch (fun b o hL hb hc e n => u.keep b o e n (fun z => (List.mem_cons.mp (I.stkSub b z)).elim hL hb) hc) (fun b o _ _ hc e n => u.any e n hc) (fun b o hc e n => u.free b o e n hc) (fun b o hc e => u.there b o e hc) u.tups u.frzs u.tbls (fun m' hm => by
    obtain ⟨o', es', ep', ho', r'⟩ := hm
    rw [ho] at ho'; cases ho'
    exact ⟨_, es', ep', hL, r'⟩) hok hg
theorem Inv.turned {t' : Nat} {it : Addr} (I : Inv X pins σ H s) (k : ∀ b o, b ≠ it → s.heap.get? b = some o → h'.get? b = some o) (hn : H it = none) (hL : it ≠ X.env.locals)
    (h1 : it ∈ X.ex ∨ X.s₀.heap.objs.size ≤ it) (h2 : ∀ x c, X.env.cells.lookup x = some c → c ≠ it) (h3 : ∀ p ∈ X.pn ++ pins, p.1 ≠ it) : Inv X pins σ H { s with heap := h', toks := t' } := by
  have nit : ∀ b u, H b = some u → b ≠ it := fun b u e z => by rw [z, hn] at e; cases e
  refine I.step (g' := s.gens) (d' := s.drawn) (ch := [it]) (fun b hb => ?_) (fun b o _ _ hc e _ => k b o (fun z => hc (by simp [z])) e) (fun b o _ _ hc e _ => ⟨o.slots, k b o (fun z => hc (by simp [z])) e⟩) (fun _ _ _ _ n => n)
    (fun b o hc e => ⟨o, k b o (fun z => hc (by simp [z])) e⟩) (fun _ _ e => e) (fun _ _ _ e => e) (fun b ps e => ⟨#[], by rw [e]; simp⟩) (fun m hm => ?_) (fun b u e => ?_) I.bare
  · have e : b = it := by simpa using hb
    subst e
    exact ⟨h1, hL, h2, h3⟩
  · obtain ⟨o, es, ep, ho, r⟩ := hm
    exact ⟨o, es, ep, k _ o (Ne.symm hL) ho, r⟩
  · refine (I.hok b u e).stay (fun c v hc q => k c v ?_ q) (fun _ q => q) fun _ _ q => q
    rcases hc with z | z
    · rw [z]; exact nit b u e
    · exact nit c _ z
theorem Inv.tok (I : Inv X pins σ H s) (t : Nat) : Inv X pins σ H { s with toks := t } := I.un (h' := s.heap) (t' := t) Un.refl I.hok
theorem Inv.kept {t' : Nat} (I : Inv X pins σ H s) (k : ∀ b u, s.heap.get? b = some u → h'.get? b = some u) : Inv X pins σ H { s with heap := h', toks := t' } := I.un (Un.kept k) (I.hok.kept k)
theorem Inv.laid {a : Addr} {o : HO} {t' : Nat} (I : Inv X pins σ H s) (k : ∀ b u, s.heap.get? b = some u → h'.get? b = some u) (hp : s.heap.objs.size ≤ a) (new : ObjOk X.prog X.w (upd H a o) h' a o) :
    Inv X pins σ (upd H a o) { s with heap := h', toks := t' } := I.un (Un.laid k hp (I.hok.fresh hp)) (I.hok.laid k hp new)
theorem Inv.write {x e : Addr} {o : HO} {t' : Nat} (I : Inv X pins σ H s) (mu : Mut (H x)) (he : e = x ∨ H e = some (.own x)) (k : ∀ b u, b ≠ e → s.heap.get? b = some u → h'.get? b = some u) (heo : ∃ u, h'.get? e = some u)
    (new : ObjOk X.prog X.w (upd H x o) h' x o) : Inv X pins σ (upd H x o) { s with heap := h', toks := t' } := I.un (Un.write mu he k heo) (I.hok.write mu he k heo new)
theorem Inv.weak {σ' : List (Option V)} (I : Inv X pins σ H s) (hl : σ'.length = σ.length) (w : ∀ (i : Nat) v, σ'[i]? = some (some v) → σ[i]? = some (some v)) : Inv X pins σ' H s :=
  ⟨I.ok, I.os, I.bare, I.base, let ⟨m, hn, hl'⟩ := I.loc; ⟨m, hn, fun i x v e1 e2 e3 => hl' i x v e1 (w i v e2) e3⟩, I.cell, I.free, I.freeC, I.pin, I.hok, hl.trans I.len⟩
theorem Inv.pins_of {pins' : List (Addr × Obj)} (I : Inv X pins σ H s) (h : ∀ p ∈ pins', s.heap.get? p.1 = some p.2 ∧ H p.1 = none ∧ p.1 ≠ X.env.locals ∧ p.1 ∉ X.fs ∧ ∀ v, p.2.data ≠ .cell v) : Inv X pins' σ H s :=
  ⟨I.ok, I.os, I.bare, I.base, I.loc, I.cell, I.free, I.freeC, fun p hp => (List.mem_append.mp hp).elim (fun z => I.pin p (List.mem_append_left _ z)) (h p), I.hok, I.len⟩
theorem nodup_ix {N : List Str} (hN : N.Nodup) {i j : Nat} {x : Str} (a : N[i]? = some x) (b : N[j]? = some x) : i = j := by
  obtain ⟨h1, e1⟩ := List.getElem?_eq_some_iff.mp a
  obtain ⟨h2, e2⟩ := List.getElem?_eq_some_iff.mp b
  exact (List.getElem_inj hN).mp (e1.trans e2.symm)
theorem store_ok2 {M : Model} {A : Around} {E : Value → Shared → Prop} {i : Nat} {x : Str} {v : V} {u : Value} {Q : Unit → Shared → Prop} (I : Inv X pins σ H s) (hN : X.N.Nodup) (hi : X.N[i]? = some x) (hx : Loc X.env.scope x) (r : RelV v u)
    (h : ∀ s', Inv X pins (σ.set i (some v)) H s' → (∃ a, Heap.SameBut a s.heap s'.heap ∧ (a = X.env.locals ∨ X.env.cells.lookup x = some a)) → Q () s') (hf : X.fn x = true ∨ X.env.scope.names.lookup x = some .local := by first | exact .inl rfl | exact .inr rfl | assumption) : wpAny M A (storeName X.env x u) Q E s := by
  obtain ⟨m, hn, hl⟩ := id I.loc
  have hcls : (X.env.scope.kind == .class || (X.env.scope.kind == .module && X.env.locals != X.env.globals)) = false := by rw [I.ok.kind]; rfl
  have hiσ : i < σ.length := by rw [I.len]; exact (List.getElem?_eq_some_iff.mp hi).1
  have cne := I.cne
  have tracked : ∀ {a : Addr} {h' : Heap}, (∃ o, s.heap.get? a = some o ∧ H a = none) → Heap.SameBut a s.heap h' → HOk X.prog X.w H h' := fun {a h'} ha hs b ob e => by
    obtain ⟨_, _, hfree⟩ := ha
    refine (I.hok b ob e).stay (fun c w' hc q => (hs.2 c ?_).trans q) (fun _ q => q) fun _ _ q => q
    rintro rfl
    rcases hc with rfl | hc
    · rw [hfree] at e; cases e
    · rw [hfree] at hc; cases hc
  rcases hx with hk | hk
  · refine wpAny_storeName_local hk hn (fun h' hn' hs => ?_) hcls
    obtain ⟨oL, _, _, hoL, _⟩ := id hn
    refine h _ ⟨I.ok, I.os, I.bare, ⟨fun b o e n hb hx => ?_, fun b o e n hb hx => ?_, I.base.free, fun b o e hx => ?_, I.base.tups, I.base.frzs, I.base.tbls⟩, ⟨_, hn', fun j y v' e1 e2 e3 => ?_⟩, fun y c e => ?_, I.free, I.freeC, fun p hp => ?_, tracked ⟨oL, hoL, I.free⟩ hs, by simpa using I.len⟩ ⟨_, hs, .inl rfl⟩
    · exact (hs.2 b (Nat.ne_of_lt (Nat.lt_of_lt_of_le (Heap.lt_size e) I.ok.above))).trans (I.base.keep b o e n hb hx)
    · obtain ⟨sl, e1⟩ := I.base.slot b o e n hb hx
      exact ⟨sl, (hs.2 b (Nat.ne_of_lt (Nat.lt_of_lt_of_le (Heap.lt_size e) I.ok.above))).trans e1⟩
    · obtain ⟨o', e1⟩ := I.base.there b o e hx
      exact ⟨o', (hs.2 b (Nat.ne_of_lt (Nat.lt_of_lt_of_le (Heap.lt_size e) I.ok.above))).trans e1⟩
    · by_cases hj : j = i
      · subst hj
        rw [hi] at e1; cases e1
        rw [List.getElem?_set_self hiσ] at e2
        cases e2
        exact ⟨u, r, .inl ⟨hk, by simp⟩⟩
      · rw [List.getElem?_set_ne (Ne.symm hj)] at e2
        obtain ⟨u', r', q⟩ := hl j y v' e1 e2 e3
        refine ⟨u', r', ?_⟩
        rcases q with ⟨k, e⟩ | ⟨k, c, e, z⟩
        · refine .inl ⟨k, ?_⟩
          have : y ≠ x := fun e => hj (nodup_ix hN e1 (e ▸ hi))
          simp [this, e]
        · exact .inr ⟨k, c, e, z.sameBut hs (cne y c e)⟩
    · obtain ⟨w', z⟩ := I.cell y c e
      exact ⟨w', z.sameBut hs (cne y c e)⟩
    · obtain ⟨e, n, ne, nf, d⟩ := I.pin p hp
      exact ⟨(hs.2 p.1 ne).trans e, n, ne, nf, d⟩
  · have hfn : X.fn x = true := by
      rcases hf with z | z
      · exact z
      · rw [z] at hk; cases hk
    obtain ⟨c, hc⟩ := I.ok.has x (.inl hk)
    obtain ⟨w', z⟩ := I.cell x c hc
    refine wpAny_storeName_cell I.ok.kind hk hc z (fun h' hc' hs => ?_)
    obtain ⟨oc, hoc, hocd⟩ := id z
    refine h { s with heap := h' } ⟨I.ok, I.os, I.bare, ⟨fun b o e n hb hx => ?_, fun b o e n hb hx => ?_, I.base.free, fun b o e hx => ?_, I.base.tups, I.base.frzs, I.base.tbls⟩, ⟨m, hn.sameBut hs (Ne.symm (cne x c hc)), fun j y v' e1 e2 e3 => ?_⟩, fun y c' e => ?_, I.free, I.freeC, fun p hp => ?_, tracked ⟨oc, hoc, I.freeC x c hc⟩ hs, by simpa using I.len⟩ ⟨c, hs, .inr hc⟩
    · exact (hs.2 b (Nat.ne_of_lt (Nat.lt_of_lt_of_le (Heap.lt_size e) (I.ok.cab x c hfn hc)))).trans (I.base.keep b o e n hb hx)
    · obtain ⟨sl, e1⟩ := I.base.slot b o e n hb hx
      exact ⟨sl, (hs.2 b (Nat.ne_of_lt (Nat.lt_of_lt_of_le (Heap.lt_size e) (I.ok.cab x c hfn hc)))).trans e1⟩
    · obtain ⟨o', e1⟩ := I.base.there b o e hx
      exact ⟨o', (hs.2 b (Nat.ne_of_lt (Nat.lt_of_lt_of_le (Heap.lt_size e) (I.ok.cab x c hfn hc)))).trans e1⟩
    · by_cases hj : j = i
      · subst hj
        rw [hi] at e1; cases e1
        rw [List.getElem?_set_self hiσ] at e2
        cases e2
        exact ⟨u, r, .inr ⟨.inl hk, c, hc, hc'⟩⟩
      · rw [List.getElem?_set_ne (Ne.symm hj)] at e2
        obtain ⟨u', r', q⟩ := hl j y v' e1 e2 e3
        refine ⟨u', r', ?_⟩
        rcases q with q | ⟨k, c', e, z'⟩
        · exact .inl q
        · refine .inr ⟨k, c', e, z'.sameBut hs ?_⟩
          rintro rfl
          exact hj (nodup_ix hN e1 (I.ok.inj _ _ _ e hc ▸ hi))
    · by_cases hcc : c' = c
      · subst hcc; exact ⟨_, hc'⟩
      · obtain ⟨w2, z2⟩ := I.cell y c' e
        exact ⟨w2, z2.sameBut hs hcc⟩
    · obtain ⟨e, n, ne, nf, d⟩ := I.pin p hp
      refine ⟨(hs.2 p.1 ?_).trans e, n, ne, nf, d⟩
      intro q
      rw [q, hoc] at e
      have q' : oc = p.2 := Option.some.inj e
      exact d w' (by rw [← q']; exact hocd)
theorem store_ok {M : Model} {A : Around} {E : Value → Shared → Prop} {i : Nat} {x : Str} {v : V} {u : Value} {Q : Unit → Shared → Prop} (I : Inv X pins σ H s) (hN : X.N.Nodup) (hi : X.N[i]? = some x) (hx : Loc X.env.scope x) (r : RelV v u)
    (h : ∀ s', Inv X pins (σ.set i (some v)) H s' → Q () s') (hf : X.fn x = true ∨ X.env.scope.names.lookup x = some .local := by first | exact .inl rfl | exact .inr rfl | assumption) : wpAny M A (storeName X.env x u) Q E s :=
  store_ok2 I hN hi hx r (fun s' I' _ => h s' I') hf
theorem Inv.call' {s' : Shared} {ch : List Addr} (I : Inv X pins σ H s) (ho : s'.os = s.os) (u : Un (frs X.stack) ch H H' s.heap s'.heap) (hok : HOk X.prog X.w H' s'.heap) (hg : AllBare s'.gens)
    (hch : ∀ b ∈ ch, (b ∈ X.ex ∨ X.s₀.heap.objs.size ≤ b) ∧ b ≠ X.env.locals ∧ (∀ x c, X.env.cells.lookup x = some c → c ≠ b) ∧ ∀ p ∈ X.pn ++ pins, p.1 ≠ b) : Inv X pins σ H' s' := by
  obtain ⟨h', g', d', t', o'⟩ := s'
  have e : o' = s.os := ho
  subst e
  exact I.call (g' := g') (t' := t') (d' := d') u hok hg hch
end
abbrev XK := Value → Option Addr → Hp → Prop
abbrev St := List (Option V)
abbrev VK := V → Hp → Prop
abbrev TE := St → Hp → VK → Prop
abbrev TT := St → Hp → (Bool → Hp → Prop) → Prop
abbrev TA := St → Hp → (List V → Hp → Prop) → Prop
structure Ends where
  nx : St → Hp → Prop
  rt : VK
  bk : St → Hp → Prop := fun _ _ => False
  ct : St → Hp → Prop := fun _ _ => False
abbrev TS := Ends → St → Hp → Prop
def EP (X : Cx) (pins : List (Addr × Obj)) (σ : St) (Q : VK) (u : Value) (s' : Shared) : Prop := ∃ v H', Inv X pins σ H' s' ∧ RelV v u ∧ Q v H'
def TP (X : Cx) (pins : List (Addr × Obj)) (σ : St) (Q : Bool → Hp → Prop) (b : Bool) (s' : Shared) : Prop := ∃ H', Inv X pins σ H' s' ∧ Q b H'
def AP (X : Cx) (pins : List (Addr × Obj)) (σ : St) (Q : List V → Hp → Prop) (us : List Value) (s' : Shared) : Prop := ∃ vs H', Inv X pins σ H' s' ∧ Vals vs us ∧ Q vs H'
def SP (X : Cx) (pins : List (Addr × Obj)) (D : Ends) (f : Flow) (s' : Shared) : Prop :=
  match f with
  | .next => ∃ σ' H', Inv X pins σ' H' s' ∧ D.nx σ' H'
  | .brk => ∃ σ' H', Inv X pins σ' H' s' ∧ D.bk σ' H'
  | .cont => ∃ σ' H', Inv X pins σ' H' s' ∧ D.ct σ' H'
  | .ret u => ∃ v σ' H', Inv X pins σ' H' s' ∧ RelV v u ∧ D.rt v H'
def PE (X : Cx) (e : Expr) (t : TE) : Prop :=
  ∀ (pins : List (Addr × Obj)) (s : Shared) (σ : St) (H : Hp) (Q : VK), Inv X pins σ H s → t σ H Q → wpAny (model X.prog X.w) X.A (eval e X.env) (EP X pins σ Q) X.xe s
def PT (X : Cx) (e : Expr) (t : TT) : Prop :=
  ∀ (pins : List (Addr × Obj)) (s : Shared) (σ : St) (H : Hp) (Q : Bool → Hp → Prop), Inv X pins σ H s → t σ H Q → wpAny (model X.prog X.w) X.A (isTrue e X.env (eval e X.env)) (TP X pins σ Q) X.xe s
def PW (X : Cx) (e : Expr) (t : TT) : Prop :=
  ∀ (whole : Sem Value) (pins : List (Addr × Obj)) (s : Shared) (σ : St) (H : Hp) (Q : Bool → Hp → Prop), Inv X pins σ H s → t σ H Q → wpAny (model X.prog X.w) X.A (isTrue e X.env whole) (TP X pins σ Q) X.xe s
theorem PW.pt {X : Cx} {e : Expr} {t : TT} (h : PW X e t) : PT X e t := h _
def PA (X : Cx) (es : List Expr) (t : TA) : Prop :=
  ∀ (pos : Pos) (pins : List (Addr × Obj)) (s : Shared) (σ : St) (H : Hp) (Q : List V → Hp → Prop), Inv X pins σ H s → t σ H Q → wpAny (model X.prog X.w) X.A (spliced (backTo pos (starEach es X.env))) (AP X pins σ Q) X.xe s
def PS (X : Cx) (st : Stmt) (t : TS) : Prop :=
  ∀ (pins : List (Addr × Obj)) (s : Shared) (σ : St) (H : Hp) (D : Ends), Inv X pins σ H s → t D σ H → wpAny (model X.prog X.w) X.A (exec st X.env) (SP X pins D) X.xe s
def PSs (X : Cx) (st : List Stmt) (t : TS) : Prop :=
  ∀ (pins : List (Addr × Obj)) (s : Shared) (σ : St) (H : Hp) (D : Ends), Inv X pins σ H s → t D σ H → wpAny (model X.prog X.w) X.A (execs st X.env) (SP X pins D) X.xe s
theorem thn {α : Type} {t : Sem α} {Q Q' : α → Shared → Prop} {M : Model} {A : Around} {E : Value → Shared → Prop} {s : Shared} (h : wpAny M A t Q E s) (hQ : ∀ a s, Q a s → Q' a s) : wpAny M A t Q' E s := wpAny_mono h hQ fun _ _ x => x
end L2
namespace L2
open PySem PySem.Spec PyProof.Rows
section
variable {X : Cx}
def tVar (i : Nat) : TE := fun σ H Q => ∃ v, σ[i]? = some (some v) ∧ Q v H
def tC (v : V) : TE := fun _ H Q => Q v H
theorem pe_var {i : Nat} {x : Str} {pos : Pos} (hN : X.N[i]? = some x) (hv : Vis X.env.scope x) (hd : (x == ("__debug__" : Str)) = false := by decide) (hcd : (x == ("__classdict__" : Str)) = false := by decide) : PE X (.Name x pos) (tVar i) := by
  intro pins s σ H Q I h
  obtain ⟨v, e, h⟩ := h
  obtain ⟨m, hn, hl⟩ := I.loc
  obtain ⟨u, r, l⟩ := hl i x v hN e hv
  have fin : EP X pins σ Q u s := ⟨v, H, I, r, h⟩
  rcases l with ⟨hk, hm⟩ | ⟨hk, c, hc, hcell⟩
  · exact wpAny_Name (wpAny_loadName_local I.ok.kind hk hn hm fin) hd
  · rcases hk with hk | hk
    · exact wpAny_Name (wpAny_loadName_cell I.ok.kind hk hc hcell fin) hd
    · exact wpAny_Name (wpAny_loadName_free I.ok.kind hk hc hcell fin hcd) hd
theorem pe_int {i j pos} : PE X (.Constant (.int i) j pos) (tC (.int i)) := fun _ _ _ H _ I h => wpAny_Constant_int ⟨.int i, H, I.tok _, ⟨_, rfl⟩, h⟩
theorem pe_bl {b j pos} : PE X (.Constant (.bool b) j pos) (tC (.bl b)) := fun _ _ _ H _ I h => Constant_bool ⟨.bl b, H, I, rfl, h⟩
theorem pe_str {x j pos} : PE X (.Constant (.str x) j pos) (tC (.str x)) := fun _ _ _ H _ I h => Calls.Constant_str ⟨.str x, H, I.tok _, ⟨_, rfl⟩, h⟩
def Gl (X : Cx) (x : Str) : Prop := X.env.kindOf x = some .globalImplicit
theorem ld_glob {E : Value → Shared → Prop} {pins : List (Addr × Obj)} {s : Shared} {σ : St} {H : Hp} {x : Str} {u : Value} {pos : Pos} {Q : Value → Shared → Prop} (I : Inv X pins σ H s) (hg : Gl X x) (hm : X.mg x = some u) (h : Q u s)
    (hd : (x == ("__debug__" : Str)) = false := by decide) : wpAny (model X.prog X.w) X.A (eval (.Name x pos) X.env) Q E s :=
  Calls.Name_function_global I.ok.kind hg (Calls.loadGlobal_global (by rw [I.ok.glob]; exact I.mod.glob.keeps I.bk) hm h) hd
theorem ld_blt {E : Value → Shared → Prop} {pins : List (Addr × Obj)} {s : Shared} {σ : St} {H : Hp} {x : Str} {u : Value} {pos : Pos} {Q : Value → Shared → Prop} (I : Inv X pins σ H s) (hg : Gl X x) (hm : X.mg x = none) (hv : bootBuiltins x = some u) (h : Q u s)
    (hn : x ≠ "__name__" := by decide) (hd : (x == ("__debug__" : Str)) = false := by decide) : wpAny (model X.prog X.w) X.A (eval (.Name x pos) X.env) Q E s := by
  obtain ⟨mb, h1, h2⟩ := I.mod.blt
  exact Calls.Name_function_global I.ok.kind hg (Calls.loadGlobal_builtin (by rw [I.ok.glob]; exact I.mod.glob.keeps I.bk) hm (by rw [I.ok.blt]; exact h1.keeps I.bk) ((h2 x hn).trans hv) h) hd
theorem pe_glob {x : Str} {v : V} {u : Value} {pos : Pos} (hg : Gl X x) (hm : X.mg x = some u) (r : RelV v u) (hd : (x == ("__debug__" : Str)) = false := by decide) : PE X (.Name x pos) (tC v) :=
  fun _ _ _ H _ I h => ld_glob I hg hm ⟨v, H, I, r, h⟩ hd
variable {a b : Expr} {ta tb : TE} {pos : Pos}
def PC (X : Cx) (op : CmpOp) (a b : Expr) (t : TE) : Prop :=
  ∀ (pins : List (Addr × Obj)) (s : Shared) (σ : St) (H : Hp) (Q : VK), Inv X pins σ H s → t σ H Q →
    wpAny (model X.prog X.w) X.A (eval a X.env) (fun v s₁ => wpAny (model X.prog X.w) X.A (eval b X.env) (fun u s₂ => wpAny (model X.prog X.w) X.A (compareOp op v u) (EP X pins σ Q) X.xe s₂) X.xe s₁) X.xe s
theorem nobehind (b : Expr) {op : CmpOp} (h : op ≠ .In) (h2 : op ≠ .NotIn) : behindInMarks op b = false := by
  have e1 : (op == CmpOp.In) = false := by cases op <;> first | rfl | exact absurd rfl h
  have e2 : (op == CmpOp.NotIn) = false := by cases op <;> first | rfl | exact absurd rfl h2
  cases b <;> simp [behindInMarks, e1, e2]
def tB (t : TE) : TT := fun σ H Q => t σ H fun x H1 => ∃ c, x = .bl c ∧ Q c H1
theorem pt_cmp {op : CmpOp} {t : TE} (h : PC X op a b t) (h1 : behindInMarks op b = false := by first | exact nobehind _ (by decide) (by decide) | rfl) : PT X (.Compare a [op] [b] pos) (tB t) := by
  intro pins s σ H Q I hw
  refine wpAny_isTrue_Compare1 (thn (h pins s σ H _ I hw) fun v s1 h1 => thn h1 fun u s2 h2 => thn h2 fun c s3 ⟨x, H1, I1, r1, q1⟩ => ?_) h1
  obtain ⟨d, rfl, q⟩ := q1
  cases r1
  exact wpAny_truthy_bool ⟨H1, I1, q⟩
variable {tA tB' : TT} {rest : List Expr}
def tOr (t u : TT) : TT := fun σ H Q => t σ H fun c H1 => if c = true then Q true H1 else u σ H1 Q
theorem pw_or1 (ha : PT X a tA) : PW X (.BoolOp .Or [a] pos) tA := by
  intro wh pins s σ H Q I h
  refine isTrue_or (thn (ha pins s σ H Q I h) fun c s1 e => ?_)
  cases c with
  | false => exact isTrue_or_nil e
  | true => exact e
theorem pw_or (ha : PT X a tA) (hb : PW X (.BoolOp .Or (b :: rest) pos) tB') : PW X (.BoolOp .Or (a :: b :: rest) pos) (tOr tA tB') := by
  intro wh pins s σ H Q I h
  refine isTrue_or (thn (ha pins s σ H _ I h) fun c s1 ⟨H1, I1, q1⟩ => ?_)
  cases c with
  | true => exact ⟨H1, I1, q1⟩
  | false => exact hb wh pins s1 σ H1 Q I1 q1
end
end L2
namespace L2
open PySem PySem.Spec PyProof.Rows
def SqL (K : PySem.W.Frag) (H : Hp) (a : Addr) (xs : List V) : Prop :=
  Rd H a (.lst xs) ∨
    ∃ (o : Obj) (its : Array Value) (n : Nat), K.lookup a = some o ∧ o.cls = .type "list" ∧ o.dict = none ∧ o.data = .seq its n ∧ its.size ≤ sizeLine ∧ Vals xs its.toList
def SqT (K : PySem.W.Frag) (H : Hp) (a : Addr) (xs : List V) : Prop :=
  Rd H a (.tup xs) ∨
    ∃ (o : Obj) (its : Array Value) (n : Nat), K.lookup a = some o ∧ o.cls = .type "tuple" ∧ o.data = .seq its n ∧ its.size ≤ sizeLine ∧ Vals xs its.toList
def absV : Value → Option V
  | .none => some .non
  | .bool b => some (.bl b)
  | .int i _ => some (.int i)
  | .str x _ => some (.str x)
  | .bytes b _ => some (.byt b)
  | .float b _ => some (.flt b)
  | .ref a => some (.ref a)
  | .type n => some (.ty n)
  | _ => none
theorem RelV.abs {x : V} {u : Value} (r : RelV x u) : absV u = some x := by
  cases x with
  | non => cases r; rfl
  | bl _ => cases r; rfl
  | int _ => obtain ⟨t, rfl⟩ := r; rfl
  | str _ => obtain ⟨t, rfl⟩ := r; rfl
  | byt _ => obtain ⟨t, rfl⟩ := r; rfl
  | flt _ => obtain ⟨t, rfl⟩ := r; rfl
  | ref _ => cases r; rfl
  | ty _ => cases r; rfl
theorem RelV.inj {x y : V} {u : Value} (r : RelV x u) (q : RelV y u) : x = y := Option.some.inj (r.abs.symm.trans q.abs)
theorem Vals.inj : ∀ {xs ys : List V} {us : List Value}, Vals xs us → Vals ys us → xs = ys
  | _, _, _, .nil, .nil => rfl
  | _, _, _, .cons r t, .cons r' t' => by rw [r.inj r', Vals.inj t t']
section
variable {X : Cx} {pins : List (Addr × Obj)} {σ : St} {H : Hp} {s : Shared} {a : Addr} {xs ys : List V}
theorem SqL.of {K : PySem.W.Frag} (h : H a = some (.lst xs)) : SqL K H a xs := .inl (.inl h)
theorem SqT.of {K : PySem.W.Frag} (h : H a = some (.tup xs)) : SqT K H a xs := .inl (.inl h)
theorem Inv.list (I : Inv X pins σ H s) (h : SqL X.K H a xs) : ∃ its : List Value, Vals xs its ∧ PlainL s.heap a its.toArray ∧ xs.length ≤ sizeLine := by
  rcases h with h | ⟨o, its, n, hk, hc, hd, hs, hz, r⟩
  · obtain ⟨z, its, n, r, e⟩ := h.ok I.hok
    exact ⟨its, r, ⟨_, n, e, rfl, rfl, rfl⟩, z⟩
  · refine ⟨its.toList, r, ⟨o, n, I.kIn a o hk, hc, hd, by simpa using hs⟩, ?_⟩
    have e := r.length
    simp only [Array.length_toList] at e
    omega
theorem Inv.tuple (I : Inv X pins σ H s) (h : SqT X.K H a xs) : ∃ its : List Value, Vals xs its ∧ IsTup s.heap a its.toArray ∧ xs.length ≤ sizeLine := by
  rcases h with h | ⟨o, its, n, hk, hc, hs, hz, r⟩
  · obtain ⟨z, its, r, p⟩ := h.ok I.hok
    exact ⟨its, r, p, z⟩
  · refine ⟨its.toList, r, ⟨o, I.kIn a o hk, hc, n, by simpa using hs⟩, ?_⟩
    have e := r.length
    simp only [Array.length_toList] at e
    omega
theorem Inv.list_inj (I : Inv X pins σ H s) (h : SqL X.K H a xs) (h' : SqL X.K H a ys) : xs = ys := by
  obtain ⟨its, r, ⟨o, n, e, _, _, d⟩, _⟩ := I.list h
  obtain ⟨its', r', ⟨o', n', e', _, _, d'⟩, _⟩ := I.list h'
  rw [e] at e'; cases e'
  rw [d] at d'
  injection d' with d1 _
  have : its = its' := by simpa using congrArg Array.toList d1
  subst this
  exact r.inj r'
end
abbrev Cx.wish (X : Cx) (E : Value → Shared → Prop) : Cx := { X with xe := E }
abbrev Cx.nox (X : Cx) : Cx := X.wish fun _ _ => False
theorem Cx.Ok.wish {X : Cx} (ok : X.Ok) (E : Value → Shared → Prop) : (X.wish E).Ok :=
  ⟨ok.mod, ok.kind, ok.glob, ok.blt, ok.above, ok.inj, ok.has, ok.cab, ok.hd, ok.frames, ok.stk, ok.exf, ok.bs, ok.bsz, ok.noex, ok.exfs, ok.funs, ok.frf⟩
theorem Cx.Ok.unwish {X : Cx} {E : Value → Shared → Prop} (ok : (X.wish E).Ok) : X.Ok :=
  ⟨ok.mod, ok.kind, ok.glob, ok.blt, ok.above, ok.inj, ok.has, ok.cab, ok.hd, ok.frames, ok.stk, ok.exf, ok.bs, ok.bsz, ok.noex, ok.exfs, ok.funs, ok.frf⟩
section
variable {X : Cx} {pins : List (Addr × Obj)} {σ : St} {H : Hp} {s : Shared} {E : Value → Shared → Prop}
theorem Inv.wish (I : Inv X pins σ H s) (E : Value → Shared → Prop) : Inv (X.wish E) pins σ H s := ⟨I.ok.wish E, I.os, I.bare, I.base, I.loc, I.cell, I.free, I.freeC, I.pin, I.hok, I.len⟩
theorem Inv.unwish (I : Inv (X.wish E) pins σ H s) : Inv X pins σ H s := ⟨I.ok.unwish, I.os, I.bare, I.base, I.loc, I.cell, I.free, I.freeC, I.pin, I.hok, I.len⟩
theorem SP.unwish {D : Ends} {f : Flow} {s' : Shared} (h : SP (X.wish E) pins D f s') : SP X pins D f s' := by
  cases f with
  | next => obtain ⟨σ', H', I, q⟩ := h; exact ⟨σ', H', I.unwish, q⟩
  | brk => obtain ⟨σ', H', I, q⟩ := h; exact ⟨σ', H', I.unwish, q⟩
  | cont => obtain ⟨σ', H', I, q⟩ := h; exact ⟨σ', H', I.unwish, q⟩
  | ret u => obtain ⟨v, σ', H', I, r, q⟩ := h; exact ⟨v, σ', H', I.unwish, r, q⟩
theorem PE.nox {e : Expr} {t : TE} (h : PE X.nox e t) : PE X e t := fun pins s σ H Q I hw =>
  wpAny_mono (h pins s σ H Q (I.wish _) hw) (fun _ _ ⟨v, H', I', r, q⟩ => ⟨v, H', I'.unwish, r, q⟩) fun _ _ z => False.elim z
theorem PT.nox {e : Expr} {t : TT} (h : PT X.nox e t) : PT X e t := fun pins s σ H Q I hw =>
  wpAny_mono (h pins s σ H Q (I.wish _) hw) (fun _ _ ⟨H', I', q⟩ => ⟨H', I'.unwish, q⟩) fun _ _ z => False.elim z
theorem PSs.nox {st : List Stmt} {t : TS} (h : PSs X.nox st t) : PSs X st t := fun pins s σ H D I hw =>
  wpAny_mono (h pins s σ H D (I.wish _) hw) (fun _ _ q => q.unwish) fun _ _ z => False.elim z
end
section
variable {X : Cx} {st : Stmt} {rest : List Stmt} {t u : TS} {e : Expr} {te : TE} {pos : Pos}
def tNext : TS := fun D σ H => D.nx σ H
def tSeq (t u : TS) : TS := fun D σ H => t { D with nx := u D } σ H
theorem pss_nil : PSs X [] tNext := fun _ _ σ H _ I h => wpAny_execs_nil ⟨σ, H, I, h⟩
theorem pss_cons (h1 : PS X st t) (h2 : PSs X rest u) : PSs X (st :: rest) (tSeq t u) := by
  intro pins s σ H D I h
  refine wpAny_execs_cons (thn (h1 pins s σ H { D with nx := u D } I h) fun f s1 q => ?_)
  cases f with
  | next =>
    obtain ⟨σ', H', I', q⟩ := q
    exact h2 pins s1 σ' H' D I' q
  | ret v => exact q
  | brk => exact q
  | cont => exact q
theorem pss_one (h1 : PS X st t) : PSs X [st] t := by
  intro pins s σ H D I h
  refine wpAny_execs_cons (thn (h1 pins s σ H D I h) fun f s1 q => ?_)
  cases f with
  | next => exact wpAny_execs_nil q
  | ret v => exact q
  | brk => exact q
  | cont => exact q
theorem Inv.quiet {pins : List (Addr × Obj)} {σ : St} {H : Hp} {s : Shared} (I : Inv X pins σ H s) : interactive X.env = false := by simp [interactive, I.ok.kind]
def tDrop (te : TE) : TS := fun D σ H => te σ H fun _ H1 => D.nx σ H1
theorem ps_expr (he : PE X e te) (hs : swapsWith e none pos.line X.env = pure false := by rfl) : PS X (.Expr e pos) (tDrop te) := by
  intro pins s σ H D I h
  exact wpAny_Expr_any (thn (he pins s σ H _ I h) fun v s1 ⟨x, H1, I1, r1, q1⟩ => ⟨σ, H1, I1, q1⟩) I.quiet hs
def tRet (te : TE) : TS := fun D σ H => te σ H D.rt
theorem ps_ret (he : PE X e te) : PS X (.Return (some e) pos) (tRet te) := by
  intro pins s σ H D I h
  exact wpAny_Return_some (thn (he pins s σ H _ I h) fun v s1 ⟨x, H1, I1, r1, q1⟩ => ⟨x, σ, H1, I1, r1, q1⟩)
def tIfS (c : TT) (t u : TS) : TS := fun D σ H => c σ H fun b H1 => if b = true then t D σ H1 else u D σ H1
theorem ps_if {c : Expr} {a b : List Stmt} {tc : TT} (hc : PT X c tc) (ha : PSs X a t) (hb : PSs X b u) : PS X (.If c a b pos) (tIfS tc t u) := by
  intro pins s σ H D I h
  refine wpAny_If (thn (hc pins s σ H _ I h) fun d s1 ⟨H1, I1, q1⟩ => ?_)
  cases d with
  | true => exact ha pins s1 σ H1 D I1 q1
  | false => exact hb pins s1 σ H1 D I1 q1
def tNever : TS := fun _ _ _ => False
theorem ps_never : PS X st tNever := fun _ _ _ _ _ _ h => h.elim
end
abbrev TG := V → St → Hp → (St → Hp → Prop) → Prop
abbrev TGs := List V → St → Hp → (St → Hp → Prop) → Prop
def PG (X : Cx) (target : Expr) (t : TG) : Prop :=
  ∀ (pins : List (Addr × Obj)) (s : Shared) (σ : St) (H : Hp) (v : V) (u : Value) (Q : St → Hp → Prop), Inv X pins σ H s → RelV v u → t v σ H Q →
    wpAny (model X.prog X.w) X.A (assign target X.env u) (fun _ s' => ∃ σ' H', Inv X pins σ' H' s' ∧ Q σ' H') X.xe s
def PGs (X : Cx) (ts : List Expr) (t : TGs) : Prop :=
  ∀ (pins : List (Addr × Obj)) (s : Shared) (σ : St) (H : Hp) (vs : List V) (us : List Value) (Q : St → Hp → Prop), Inv X pins σ H s → Vals vs us → t vs σ H Q →
    wpAny (model X.prog X.w) X.A (assignInOrder ((assignEach ts X.env).map (·.2)) us) (fun _ s' => ∃ σ' H', Inv X pins σ' H' s' ∧ Q σ' H') X.xe s
section
variable {X : Cx} {pos : Pos}
def gName (i : Nat) : TG := fun v σ H Q => Q (σ.set i (some v)) H
theorem pg_name {i : Nat} {x : Str} (hN : X.N.Nodup) (hi : X.N[i]? = some x) (hx : Loc X.env.scope x) (hf : X.fn x = true ∨ X.env.scope.names.lookup x = some .local := by first | exact .inl rfl | exact .inr rfl | assumption) : PG X (.Name x pos) (gName i) := by
  intro pins s σ H v u Q I r h
  exact wpAny_assign_Name (store_ok I hN hi hx r (fun s' I' => ⟨_, H, I', h⟩) hf)
def gNil : TGs := fun vs σ H Q => vs = [] ∧ Q σ H
def gCons (t : TG) (u : TGs) : TGs := fun vs σ H Q => ∃ v r, vs = v :: r ∧ t v σ H fun σ' H' => u r σ' H' Q
theorem pgs_nil : PGs X [] gNil := by
  intro pins s σ H vs us Q I r h
  obtain ⟨e, h⟩ := h
  subst e
  cases r
  exact assignInOrder_nil ⟨σ, H, I, h⟩
theorem pgs_cons {e : Expr} {es : List Expr} {t : TG} {u : TGs} (h1 : PG X e t) (h2 : PGs X es u)
    (hs : (assignEach (e :: es) X.env).map (·.2) = assign e X.env :: (assignEach es X.env).map (·.2) := by rfl) : PGs X (e :: es) (gCons t u) := by
  intro pins s σ H vs us Q I r h
  obtain ⟨v, vr, e1, h⟩ := h
  subst e1
  cases r with
  | cons r rr =>
    rw [hs]
    refine assignInOrder_cons (thn (h1 pins s σ H _ _ _ I r h) fun _ s1 ⟨σ1, H1, I1, q1⟩ => ?_)
    exact h2 pins s1 σ1 H1 _ _ Q I1 rr q1
def gTup (K : PySem.W.Frag) (n : Nat) (t : TGs) : TG := fun v σ H Q => ∃ a xs, v = .ref a ∧ SqT K H a xs ∧ xs.length = n ∧ t xs σ H Q
theorem pg_tup {es : List Expr} {k : Nat} {t : TGs} {n : Nat} (hc : X.calm = true) (h : PGs X es t)
    (hn : (assignEach es X.env).length = n := by rfl) (hst : (assignEach es X.env).findIdx? (·.1) = none := by rfl) : PG X (.Tuple es k pos) (gTup X.K n t) := by
  intro pins s σ H v u Q I r hw
  obtain ⟨a, xs, e1, hq, hl, hw⟩ := hw
  subst e1
  cases r
  obtain ⟨its, rv, ht, hz⟩ := I.tuple hq
  refine assign_Tuple_tuple (I.ok.hd hc) ht (by simp [hn, ← hl, rv.length]) hst fun h' hx => ?_
  have I1 : Inv X pins σ H { s with heap := h' } := I.kept (t' := s.toks) fun b o e => hx b o (Nat.ne_of_lt (Heap.lt_size e)) e
  exact h pins _ σ H xs _ Q I1 (by simpa using rv) hw
def tAsg (te : TE) (g : TG) : TS := fun D σ H => te σ H fun x H1 => g x σ H1 D.nx
theorem ps_set {i : Nat} {x : Str} {e : Expr} {te : TE} {pos' : Pos} (hN : X.N.Nodup) (hi : X.N[i]? = some x) (hx : Loc X.env.scope x) (he : PE X e te) (hs : swapsWith e (some (.Name x pos')) pos.line X.env = pure false := by rfl) (hf : X.fn x = true ∨ X.env.scope.names.lookup x = some .local := by first | exact .inl rfl | exact .inr rfl | assumption) :
    PS X (.Assign [.Name x pos'] e pos) (tAsg te (gName i)) := by
  intro pins s σ H D I h
  refine wpAny_Assign_Name (thn (he pins s σ H _ I h) fun v s1 ⟨y, H1, I1, r1, q1⟩ => ?_) hs
  exact store_ok I1 hN hi hx r1 (fun s2 I2 => ⟨_, H1, I2, q1⟩) hf
end
section
variable {X : Cx} {pos : Pos}
def tWhile (c : TT) (tb : TS) : TS := fun D σ H => ∃ W : Nat → St → Hp → Prop, (∃ m, W m σ H) ∧ ∀ m σ H, W m σ H →
  c σ H fun b H1 => if b = true then ∃ N : St → Hp → Prop, (∀ σ' H', N σ' H' → ∃ m', m' < m ∧ W m' σ' H') ∧ tb { D with nx := N, ct := N, bk := D.nx } σ H1 else D.nx σ H1
theorem ps_while {c : Expr} {body : List Stmt} {tc : TT} {tb : TS} (hp : PassesOwn (model X.prog X.w) X.A X.env X.xe) (hc : PT X c tc) (hb : PSs X body tb) : PS X (.While c body [] pos) (tWhile tc tb) := by
  intro pins s σ H D I h
  obtain ⟨W, ⟨m0, w0⟩, turn⟩ := h
  refine wpAny_While (codeAny_whileLoop (fun n s' => ∃ σ' H', Inv X pins σ' H' s' ∧ W n σ' H') ?_ m0 ⟨σ, H, I, w0⟩)
  rintro n s1 ⟨σ1, H1, I1, w1⟩
  refine wpAny_passesOwn hp (thn (hc pins s1 σ1 H1 _ I1 (turn n σ1 H1 w1)) fun b s2 ⟨H2, I2, q2⟩ => ?_)
  cases b with
  | true =>
    obtain ⟨N, hN, q2⟩ := q2
    rw [if_pos rfl]
    refine wpAny_passesOwn hp (thn (hb pins s2 σ1 H2 _ I2 q2) fun f s3 q3 => ?_)
    cases f with
    | next =>
      obtain ⟨σ3, H3, I3, n3⟩ := q3
      obtain ⟨m', hm, w3⟩ := hN σ3 H3 n3
      exact ⟨m', hm, σ3, H3, I3, w3⟩
    | cont =>
      obtain ⟨σ3, H3, I3, n3⟩ := q3
      obtain ⟨m', hm, w3⟩ := hN σ3 H3 n3
      exact ⟨m', hm, σ3, H3, I3, w3⟩
    | brk => exact q3
    | ret v => exact q3
  | false =>
    rw [if_neg Bool.false_ne_true]
    exact wpAny_execs_nil ⟨σ1, H2, I2, q2⟩
end
structure It where
  go : Nat → Hp → Prop
  yld : Nat → Hp → V → Hp → Prop
  stop : Nat → Hp → Prop
def FpOk (X : Cx) (pins : List (Addr × Obj)) (H : Hp) (b : Addr) : Prop :=
  H b = none ∧ b ≠ X.env.locals ∧ b ∉ X.fs ∧ (b ∈ X.ex ∨ X.s₀.heap.objs.size ≤ b) ∧ (∀ x c, X.env.cells.lookup x = some c → c ≠ b) ∧ ∀ p ∈ X.pn ++ pins, p.1 ≠ b
theorem Inv.fpOk {X : Cx} {pins : List (Addr × Obj)} {σ : St} {H H' : Hp} {s : Shared} {b : Addr} (I : Inv X pins σ H s) (hb : s.heap.objs.size ≤ b) (hn : H' b = none) : FpOk X pins H' b := by
  refine ⟨hn, Nat.ne_of_gt (Nat.lt_of_lt_of_le I.lt hb), I.nofs hb, .inr (Nat.le_trans I.sz hb), fun x c e z => ?_, fun p hp z => ?_⟩
  · obtain ⟨v, q⟩ := I.cell x c e
    exact absurd (Nat.lt_of_lt_of_le q.lt (by rw [z]; exact hb)) (Nat.lt_irrefl _)
  · exact absurd (Nat.lt_of_lt_of_le (Heap.lt_size (I.pin p hp).1) (by rw [z]; exact hb)) (Nat.lt_irrefl _)
structure Turn (P : Program) (w : World) (K : PySem.W.Frag) (tg : Expr) (J : It) (fp : List Addr) (it : Addr) (tn : Nat → Heap → Prop) : Prop where
  mem : it ∈ fp
  obj : ∀ i h, tn i h → ∀ b ∈ fp, ∃ o, h.get? b = some o ∧ ∀ v, o.data ≠ .cell v
  keep : ∀ i h h', tn i h → (∀ b ∈ fp, ∀ o, h.get? b = some o → h'.get? b = some o) → tn i h'
  item : ∀ (X : Cx), X.prog = P → X.w = w → X.K = K → X.calm = true → ∀ (i : Nat) (pins : List (Addr × Obj)) (s : Shared) (σ : St) (H : Hp) (E : Value → Shared → Prop), Inv X pins σ H s → (∀ b ∈ fp, FpOk X pins H b) → tn i s.heap → J.go i H →
    wpAny (model P w) X.A (pyNext (.ref it)) (fun r s1 => ∃ u, r = some u ∧
      wpAny (model P w) X.A (letOwnedTupleGo tg (.ref it) u) (fun _ s2 => ∃ x H', Inv X pins σ H' s2 ∧ RelV x u ∧ J.yld i H x H' ∧ tn (i + 1) s2.heap ∧ ∀ b ∈ fp, H' b = none) E s1) E s
  done : ∀ (X : Cx), X.prog = P → X.w = w → X.K = K → X.calm = true → ∀ (i : Nat) (pins : List (Addr × Obj)) (s : Shared) (σ : St) (H : Hp) (E : Value → Shared → Prop), Inv X pins σ H s → (∀ b ∈ fp, FpOk X pins H b) → tn i s.heap → J.stop i H →
    wpAny (model P w) X.A (pyNext (.ref it)) (fun r s1 => r = none ∧ Inv X pins σ H s1) E s
  self : ∀ (A : Around) (i : Nat) (s : Shared) (Q : Value → Shared → Prop) (E : Value → Shared → Prop), tn i s.heap → Q (.ref it) s → wpAny (model P w) A (pyIter (.ref it)) Q E s
abbrev TI := St → Hp → (It → Hp → Prop) → Prop
def PIE (X : Cx) (pins : List (Addr × Obj)) (σ : St) (tg : Expr) (R : It → Hp → Prop) (itv : Value) (s2 : Shared) : Prop :=
  ∃ (it : Addr) (fp : List Addr) (tn : Nat → Heap → Prop) (J : It) (H' : Hp), itv = .ref it ∧ Inv X pins σ H' s2 ∧ Turn X.prog X.w X.K tg J fp it tn ∧ tn 0 s2.heap ∧ (∀ b ∈ fp, FpOk X pins H' b) ∧ R J H'
def PI (X : Cx) (tg iter : Expr) (wi : TI) : Prop :=
  ∀ (pins : List (Addr × Obj)) (s : Shared) (σ : St) (H : Hp) (R : It → Hp → Prop), Inv X pins σ H s → wi σ H R →
    wpAny (model X.prog X.w) X.A (eval iter X.env) (fun v s1 => wpAny (model X.prog X.w) X.A (pyIter v) (PIE X pins σ tg R) X.xe s1) X.xe s
theorem go_of {M : Model} {A : Around} {E : Value → Shared → Prop} {s : Shared} {tg : Expr} {it : Addr} {u : Value} {o : Obj} {n : String} {vs : Array Value} {Q : Unit → Shared → Prop} (ho : s.heap.get? it = some o) (hc : o.cls = .type n) (hd : o.data = .fields vs)
    (hn : ["enumerate", "zip", "dict_itemiterator", "dict_reverseitemiterator", "odict_iterator", "itertools.zip_longest", "itertools.pairwise"].contains n = false) (hQ : Q () s) : wpAny M A (letOwnedTupleGo tg (.ref it) u) Q E s := by
  unfold letOwnedTupleGo
  cases tg <;> first
    | exact wpAny_pure hQ
    | (cases u <;> first
        | exact wpAny_pure hQ
        | (refine wpAny_bind (wpAny_load ho ?_)
           rw [hc, hd]
           show wpAny M A (if (["enumerate", "zip", "dict_itemiterator", "dict_reverseitemiterator", "odict_iterator", "itertools.zip_longest", "itertools.pairwise"].contains n && vs[0]? == some (rawInt _)) = true then _ else _) Q E s
           rw [if_neg (by intro h; rw [hn, Bool.false_and] at h; cases h)]
           exact wpAny_pure hQ))
def Itl (K : PySem.W.Frag) (a : Addr) : It :=
  ⟨fun i H => ∃ xs x, SqL K H a xs ∧ xs[i]? = some x, fun i H x H' => H' = H ∧ ∀ xs, SqL K H a xs → xs[i]? = some x, fun i H => ∃ xs, SqL K H a xs ∧ xs.length ≤ i⟩
def Itr (lo : Int) (n : Nat) : It := ⟨fun i _ => i < n, fun i H x H' => H' = H ∧ x = .int (lo + i), fun i _ => n ≤ i⟩
theorem turn_list {P : Program} {w : World} {K : PySem.W.Frag} {tg : Expr} (a it : Addr) : Turn P w K tg (Itl K a) [it] it (fun i h => h.IsListIter it a i) where
  mem := by simp
  obj := fun i h st b hb => by
    have e : b = it := by simpa using hb
    subst e
    obtain ⟨o, e, c, d⟩ := st
    exact ⟨o, e, fun v z => by rw [d] at z; cases z⟩
  keep := fun i h h' st k => st.at fun o e => k it (by simp) o e
  item := by
    intro X hP hw hK hc i pins s σ H E I hf st hg
    subst hP hw hK
    obtain ⟨xs, x, hq, hx⟩ := hg
    obtain ⟨its, rv, p, hz⟩ := I.list hq
    obtain ⟨u, hu, ru⟩ := rv.get hx
    obtain ⟨f0, f1, f2, f3, f4, f5⟩ := hf it (by simp)
    refine wpAny_pyNext_list_item st p.isList (x := u) (by simpa using hu) fun h' st' sb => ?_
    have I1 : Inv X pins σ H { s with heap := h' } := I.turned (t' := s.toks) (fun b o hb e => (sb.2 b hb).trans e) f0 f1 f3 f4 f5
    obtain ⟨o, e, c, d⟩ := id st'
    exact ⟨u, rfl, go_of (s := { s with heap := h' }) e c d (by decide) ⟨x, H, I1, ru, ⟨rfl, fun ys hy => by rw [I.list_inj hy hq]; exact hx⟩, st', fun b hb => (hf b hb).1⟩⟩
  done := by
    intro X hP hw hK hc i pins s σ H E I hf st hg
    subst hP hw hK
    obtain ⟨xs, hq, hx⟩ := hg
    obtain ⟨its, rv, p, hz⟩ := I.list hq
    obtain ⟨f0, f1, f2, f3, f4, f5⟩ := hf it (by simp)
    have hl := rv.length
    exact wpAny_pyNext_list_end (I.ok.hd hc) st p.isList (by simp; omega) fun h' eb => ⟨rfl, I.turned (t' := s.toks) (fun b o hb e => eb b o hb e) f0 f1 f3 f4 f5⟩
  self := fun _ _ _ _ _ st h => wpAny_pyIter_listiter st h
theorem turn_range {P : Program} {w : World} {K : PySem.W.Frag} {tg : Expr} (it : Addr) (lo : Int) (n : Nat) : Turn P w K tg (Itr lo n) [it] it (fun i h => IsRangeIter h it (lo + (i : Nat) * 1) ((n : Int) - (i : Nat)) 1) where
  mem := by simp
  obj := fun i h st b hb => by
    have e : b = it := by simpa using hb
    subst e
    exact ⟨_, st, fun v z => by
      have z' : Data.fields _ = Data.cell v := z
      cases z'⟩
  keep := fun i h h' st k => k it (by simp) _ st
  item := by
    intro X hP hw hK hc i pins s σ H E I hf st hg
    subst hP hw hK
    obtain ⟨f0, f1, f2, f3, f4, f5⟩ := hf it (by simp)
    have W := Walks.range (prog := X.prog) (w := X.w) (I.ok.hd hc) it lo 1 n
    refine W.item i s _ _ hg st fun v h' tk hv st' kk => ?_
    obtain ⟨t, rfl⟩ := hv
    have I1 : Inv X pins σ H { s with heap := h', toks := tk } := I.turned (fun b o hb e => kk b o (by simpa using hb) e) f0 f1 f3 f4 f5
    refine ⟨_, rfl, go_of (s := { s with heap := h', toks := tk }) (n := "range_iterator") st' rfl rfl (by decide) ⟨.int (lo + i), H, I1, ⟨t, ?_⟩, ⟨rfl, rfl⟩, st', fun b hb => (hf b hb).1⟩⟩
    rw [Int.mul_one]
  done := by
    intro X hP hw hK hc i pins s σ H E I hf st hg
    subst hP hw hK
    obtain ⟨f0, f1, f2, f3, f4, f5⟩ := hf it (by simp)
    exact wpAny_pyNext_range_end (I.ok.hd hc) st (by have : n ≤ i := hg; omega) fun h' eb => ⟨rfl, I.turned (t' := s.toks) (fun b o hb e => eb b o hb e) f0 f1 f3 f4 f5⟩
  self := fun _ _ _ _ _ st h => wpAny_pyIter_rangeiter st h
end L2
namespace L2
open PySem PySem.Spec PyProof.Rows
section
variable {X : Cx} {tg : Expr}
def iList (K : PySem.W.Frag) (tl : TE) : TI := fun σ H R => tl σ H fun x H1 => ∃ a, x = .ref a ∧ (∃ xs, SqL K H1 a xs) ∧ R (Itl K a) H1
theorem pi_list {l : Expr} {tl : TE} (hl : PE X l tl) : PI X tg l (iList X.K tl) := by
  intro pins s σ H R I h
  refine thn (hl pins s σ H _ I h) fun v s1 ⟨x, H1, I1, r1, q1⟩ => ?_
  obtain ⟨a, e, ⟨xs, hq⟩, q⟩ := q1
  subst e
  cases r1
  obtain ⟨its, rv, p, hz⟩ := I1.list hq
  refine wpAny_pyIter_list p.isList ?_
  refine ⟨s1.heap.objs.size, [s1.heap.objs.size], _, _, H1, rfl, I1.kept (t' := s1.toks) fun b o e => Heap.get?_push_of_some _ e, turn_list a _, ⟨_, Heap.get?_push_size _ rfl, rfl, rfl⟩, fun b hb => ?_, q⟩
  have e : b = s1.heap.objs.size := by simpa using hb
  subst e
  exact I1.fpOk (Nat.le_refl _) (I1.hok.fresh (Nat.le_refl _))
theorem range_it {pins : List (Addr × Obj)} {σ : St} {H : Hp} {s : Shared} {R : It → Hp → Prop} {E : Value → Shared → Prop} {lo hi : Int} {t u v : Tok} {tk : Nat} (I : Inv X pins σ H s) (h1 : -(2 ^ 62) ≤ lo) (h2 : lo < 2 ^ 62) (h3 : -(2 ^ 62) ≤ hi) (h4 : hi < 2 ^ 62)
    (q : R (Itr lo (hi - lo).toNat) H) : wpAny (model X.prog X.w) X.A (pyIter (.ref s.heap.objs.size)) (PIE X pins σ tg R) E { s with heap := s.heap.push { cls := .type "range", data := .fields #[.int lo t, .int hi u, .int 1 v] }, toks := tk } := by
  refine wpAny_pyIter_range (IsRange.new ..) (small_one h1 h2 h3 h4) ?_
  have I1 : Inv X pins σ H { s with heap := s.heap.push { cls := .type "range", data := .fields #[.int lo t, .int hi u, .int 1 v] }, toks := tk } := I.kept fun b o e => Heap.get?_push_of_some _ e
  refine ⟨(s.heap.push { cls := .type "range", data := .fields #[.int lo t, .int hi u, .int 1 v] }).objs.size, [(s.heap.push { cls := .type "range", data := .fields #[.int lo t, .int hi u, .int 1 v] }).objs.size], _, _, H, rfl,
    I1.kept (t' := tk) fun b o e => Heap.get?_push_of_some _ e, turn_range _ lo (hi - lo).toNat, ?_, fun b hb => ?_, q⟩
  · have e1 : lo + ((0 : Nat) : Int) * 1 = lo := by simp
    have e2 : (((hi - lo).toNat : Nat) : Int) - ((0 : Nat) : Int) = Builtin.Range.rangeSize lo hi 1 := by rw [rangeSize_one]; split <;> omega
    show IsRangeIter _ _ (lo + ((0 : Nat) : Int) * 1) ((((hi - lo).toNat : Nat) : Int) - ((0 : Nat) : Int)) 1
    rw [e1, e2]
    exact Heap.get?_push_size _ rfl
  · have e : b = (s.heap.push { cls := .type "range", data := .fields #[.int lo t, .int hi u, .int 1 v] }).objs.size := by simpa using hb
    subst e
    exact I1.fpOk (Nat.le_refl _) (I1.hok.fresh (Nat.le_refl _))
def iRng1 (ta : TA) : TI := fun σ H R => ta σ H fun vs H1 => ∃ j : Int, vs = [.int j] ∧ -(2 ^ 62) ≤ j ∧ j < 2 ^ 62 ∧ R (Itr 0 j.toNat) H1
theorem pi_range1 {a : Expr} {ta : TA} {p pos : Pos} (hg : Gl X "range") (hm : X.mg "range" = none) (ha : PA X [a] ta) (hs : starEach [a] X.env = [(false, eval a X.env)] := by rfl) : PI X tg (.Call (.Name "range" p) [a] [] pos) (iRng1 ta) := by
  intro pins s σ H R I h
  refine Call_ (ld_blt I hg hm boot_range (PyProof.Rows.callWith_type1 (thn (ha pos pins s σ H _ I h) fun us s1 ⟨vs, H1, I1, r1, q1⟩ => ?_) hs rfl))
  obtain ⟨j, e, q1, q2, q⟩ := q1
  subst e
  cases r1 with
  | cons r rr =>
    cases rr
    obtain ⟨t, rfl⟩ := r
    exact call_range_1 (range_it I1 (by omega) (by omega) q1 q2 (by simpa using q))
def tFor (wi : TI) (g : TG) (tb : TS) : TS := fun D σ H => wi σ H fun J H1 => ∃ W : Nat → Nat → St → Hp → Prop, (∃ m, W 0 m σ H1) ∧ ∀ i m σ H, W i m σ H →
  (J.stop i H ∧ D.nx σ H) ∨ (J.go i H ∧ ∃ N : St → Hp → Prop, (∀ σ' H', N σ' H' → ∃ m', m' < m ∧ W (i + 1) m' σ' H') ∧ ∀ x H', J.yld i H x H' → g x σ H' fun σ2 H2 => tb { D with nx := N, ct := N, bk := D.nx } σ2 H2)
def pinsAt (fp : List Addr) (h : Heap) : List (Addr × Obj) := fp.filterMap fun b => (h.get? b).map fun o => (b, o)
theorem mem_pinsAt {fp : List Addr} {h : Heap} {b : Addr} {o : Obj} (hb : b ∈ fp) (e : h.get? b = some o) : (b, o) ∈ pinsAt fp h := List.mem_filterMap.mpr ⟨b, hb, by rw [e]; rfl⟩
theorem of_pinsAt {fp : List Addr} {h : Heap} {p : Addr × Obj} (hp : p ∈ pinsAt fp h) : p.1 ∈ fp ∧ h.get? p.1 = some p.2 := by
  obtain ⟨b, hb, e⟩ := List.mem_filterMap.mp hp
  cases q : h.get? b with
  | none => rw [q] at e; cases e
  | some o =>
    rw [q] at e
    have e' : (b, o) = p := Option.some.inj e
    subst e'
    exact ⟨hb, q⟩
theorem Inv.pinned {pins : List (Addr × Obj)} {σ : St} {H : Hp} {s : Shared} {fp : List Addr} (I : Inv X pins σ H s) (hf : ∀ b ∈ fp, FpOk X pins H b) (ho : ∀ b ∈ fp, ∃ o, s.heap.get? b = some o ∧ ∀ v, o.data ≠ .cell v) : Inv X (pins ++ pinsAt fp s.heap) σ H s :=
  I.pins_of fun p hp => (List.mem_append.mp hp).elim (fun z => I.pin p (List.mem_append_right _ z)) fun z => by
    obtain ⟨hb, e⟩ := of_pinsAt z
    obtain ⟨f0, f1, f2, _⟩ := hf p.1 hb
    obtain ⟨o, e', d⟩ := ho p.1 hb
    rw [e] at e'; cases e'
    exact ⟨e, f0, f1, f2, d⟩
theorem Inv.unpinned {pins pl : List (Addr × Obj)} {σ : St} {H : Hp} {s : Shared} (I : Inv X (pins ++ pl) σ H s) : Inv X pins σ H s := I.pins_of fun p hp => I.pin p (List.mem_append_right _ (List.mem_append_left _ hp))
theorem ps_for {iter : Expr} {body : List Stmt} {wi : TI} {g : TG} {tb : TS} {pos : Pos} (hp : PassesOwn (model X.prog X.w) X.A X.env X.xe) (hc : X.calm = true) (hi : PI X tg iter wi) (hg : PG X tg g) (hb : PSs X body tb)
    (hs : ∀ x, foldedSetIterable iter X.env x = pure x := by intro _; rfl) : PS X (.For tg iter body [] pos) (tFor wi g tb) := by
  intro pins s σ H D I h
  refine wpAny_For (thn (hi pins s σ H _ I h) fun v s1 h1 => thn h1 fun itv s2 h2 => ?_) hs
  obtain ⟨it, fp, tn, J, H2, e, I2, T, st2, f2, W, ⟨m0, w0⟩, turn⟩ := h2
  subst e
  have stat : ∀ {H' : Hp}, (∀ b ∈ fp, H' b = none) → ∀ b ∈ fp, FpOk X pins H' b := fun hn b hb => ⟨hn b hb, (f2 b hb).2⟩
  refine codeAny_forLoop_any (fun n s' => ∃ i σ' H', Inv X pins σ' H' s' ∧ tn i s'.heap ∧ (∀ b ∈ fp, H' b = none) ∧ W i n σ' H') ?_ m0 ⟨0, σ, H2, I2, st2, fun b hb => (f2 b hb).1, w0⟩
  rintro n s3 ⟨i, σ3, H3, I3, st3, fr3, w3⟩
  rcases turn i n σ3 H3 w3 with ⟨stop, qn⟩ | ⟨go, N, hN, step⟩
  · refine wpAny_passesOwn hp (thn (T.done X rfl rfl rfl hc i pins s3 σ3 H3 X.xe I3 (stat fr3) st3 stop) fun r s4 ⟨hr, I4⟩ => ?_)
    subst hr
    exact wpAny_execs_nil ⟨σ3, H3, I4, qn⟩
  · refine wpAny_passesOwn hp (thn (T.item X rfl rfl rfl hc i pins s3 σ3 H3 X.xe I3 (stat fr3) st3 go) fun r s4 ⟨u, hr, h4⟩ => ?_)
    subst hr
    refine wpAny_passesOwn hp (thn h4 fun _ s5 ⟨x, H5, I5, r5, y5, st5, fr5⟩ => ?_)
    have I5' := I5.pinned (stat fr5) (T.obj _ _ st5)
    refine wpAny_passesOwn hp (thn (hg _ s5 σ3 H5 x u _ I5' r5 (step x H5 y5)) fun _ s6 ⟨σ6, H6, I6, q6⟩ => ?_)
    refine wpAny_passesOwn hp (thn (hb _ s6 σ6 H6 _ I6 q6) fun f s7 q7 => ?_)
    have again : ∀ {σ7 : St} {H7 : Hp}, Inv X (pins ++ pinsAt fp s5.heap) σ7 H7 s7 → N σ7 H7 → ∃ m, m < n ∧ ∃ i σ' H', Inv X pins σ' H' s7 ∧ tn i s7.heap ∧ (∀ b ∈ fp, H' b = none) ∧ W i m σ' H' := fun {σ7 H7} I7 n7 => by
      obtain ⟨m', hm, w7⟩ := hN σ7 H7 n7
      refine ⟨m', hm, i + 1, σ7, H7, I7.unpinned, T.keep _ _ _ st5 fun b hb o e => (I7.pin (b, o) (List.mem_append_right _ (List.mem_append_right _ (mem_pinsAt hb e)))).1, fun b hb => ?_, w7⟩
      obtain ⟨o, e, d⟩ := T.obj _ _ st5 b hb
      exact (I7.pin (b, o) (List.mem_append_right _ (List.mem_append_right _ (mem_pinsAt hb e)))).2.1
    cases f with
    | next => obtain ⟨σ7, H7, I7, n7⟩ := q7; exact again I7 n7
    | cont => obtain ⟨σ7, H7, I7, n7⟩ := q7; exact again I7 n7
    | brk => obtain ⟨σ7, H7, I7, q7⟩ := q7; exact ⟨σ7, H7, I7.unpinned, q7⟩
    | ret v => obtain ⟨x7, σ7, H7, I7, r7, q7⟩ := q7; exact ⟨x7, σ7, H7, I7.unpinned, r7, q7⟩
end
theorem for_list {K : PySem.W.Frag} {a : Addr} {xs : List V} {g : TG} {tb : TS} {D : Ends} {σ : St} {H : Hp} (Pv : Nat → St → Hp → Prop) (h0 : Pv 0 σ H) (hl : ∀ i σ H, i ≤ xs.length → Pv i σ H → SqL K H a xs)
    (hs : ∀ i x σ H, xs[i]? = some x → Pv i σ H → g x σ H fun σ2 H2 => tb { D with nx := Pv (i + 1), ct := Pv (i + 1), bk := D.nx } σ2 H2) (hd : ∀ σ H, Pv xs.length σ H → D.nx σ H) :
    ∃ W : Nat → Nat → St → Hp → Prop, (∃ m, W 0 m σ H) ∧ ∀ i m σ H, W i m σ H →
      ((Itl K a).stop i H ∧ D.nx σ H) ∨ ((Itl K a).go i H ∧ ∃ N : St → Hp → Prop, (∀ σ' H', N σ' H' → ∃ m', m' < m ∧ W (i + 1) m' σ' H') ∧ ∀ x H', (Itl K a).yld i H x H' → g x σ H' fun σ2 H2 => tb { D with nx := N, ct := N, bk := D.nx } σ2 H2) := by
  refine ⟨fun i m σ H => m = xs.length - i ∧ i ≤ xs.length ∧ Pv i σ H, ⟨xs.length, by simp, Nat.zero_le _, h0⟩, ?_⟩
  rintro i m σ H ⟨rfl, hi, p⟩
  have q := hl i σ H hi p
  by_cases hlt : i < xs.length
  · refine .inr ⟨⟨xs, xs[i], q, by simp [hlt]⟩, Pv (i + 1), fun σ' H' p' => ⟨xs.length - (i + 1), by omega, rfl, hlt, p'⟩, fun x H' y => ?_⟩
    obtain ⟨e, y⟩ := y
    subst e
    exact hs i x σ _ (y xs q) p
  · have e : i = xs.length := by omega
    subst e
    exact .inl ⟨⟨xs, q, Nat.le_refl _⟩, hd σ H p⟩
theorem for_range {lo : Int} {n : Nat} {g : TG} {tb : TS} {D : Ends} {σ : St} {H : Hp} (Pv : Nat → St → Hp → Prop) (h0 : Pv 0 σ H)
    (hs : ∀ i σ H, i < n → Pv i σ H → g (.int (lo + i)) σ H fun σ2 H2 => tb { D with nx := Pv (i + 1), ct := Pv (i + 1), bk := D.nx } σ2 H2) (hd : ∀ σ H, Pv n σ H → D.nx σ H) :
    ∃ W : Nat → Nat → St → Hp → Prop, (∃ m, W 0 m σ H) ∧ ∀ i m σ H, W i m σ H →
      ((Itr lo n).stop i H ∧ D.nx σ H) ∨ ((Itr lo n).go i H ∧ ∃ N : St → Hp → Prop, (∀ σ' H', N σ' H' → ∃ m', m' < m ∧ W (i + 1) m' σ' H') ∧ ∀ x H', (Itr lo n).yld i H x H' → g x σ H' fun σ2 H2 => tb { D with nx := N, ct := N, bk := D.nx } σ2 H2) := by
  refine ⟨fun i m σ H => m = n - i ∧ i ≤ n ∧ Pv i σ H, ⟨n, by simp, Nat.zero_le _, h0⟩, ?_⟩
  rintro i m σ H ⟨rfl, hi, p⟩
  by_cases hlt : i < n
  · refine .inr ⟨hlt, Pv (i + 1), fun σ' H' p' => ⟨n - (i + 1), by omega, rfl, hlt, p'⟩, fun x H' y => ?_⟩
    obtain ⟨e, y⟩ := y
    subst e y
    exact hs i σ _ hlt p
  · have e : i = n := by omega
    subst e
    exact .inl ⟨Nat.le_refl _, hd σ H p⟩
end L2
namespace L2
open PySem PySem.Spec PyProof.Rows
abbrev R2 := V → V → Hp → VK → Prop
def OpR (X : Cx) (f : Value → Value → Sem Value) (r : R2) : Prop :=
  ∀ (pins : List (Addr × Obj)) (s : Shared) (σ : St) (H : Hp) (x y : V) (v u : Value) (Q : VK), Inv X pins σ H s → RelV x v → RelV y u → r x y H Q →
    wpAny (model X.prog X.w) X.A (f v u) (EP X pins σ Q) X.xe s
def UnR (X : Cx) (f : Value → Sem Value) (r : V → Hp → VK → Prop) : Prop :=
  ∀ (pins : List (Addr × Obj)) (s : Shared) (σ : St) (H : Hp) (x : V) (v : Value) (Q : VK), Inv X pins σ H s → RelV x v → r x H Q →
    wpAny (model X.prog X.w) X.A (f v) (EP X pins σ Q) X.xe s
def CallR (X : Cx) (f : Value) (r : List V → Hp → VK → Prop) : Prop :=
  ∀ (pins : List (Addr × Obj)) (s : Shared) (σ : St) (H : Hp) (xs : List V) (us : List Value) (Q : VK), Inv X pins σ H s → Vals xs us → r xs H Q →
    wpAny (model X.prog X.w) X.A (call f us) (EP X pins σ Q) X.xe s
def tOp (r : R2) (ta tb : TE) : TE := fun σ H Q => ta σ H fun x H1 => tb σ H1 fun y H2 => r x y H2 Q
def tUn (r : V → Hp → VK → Prop) (ta : TE) : TE := fun σ H Q => ta σ H fun x H1 => r x H1 Q
def rI (C : Int → Int → Prop) (g : Int → Int → V) : R2 := fun x y H Q => ∃ i j, x = .int i ∧ y = .int j ∧ C i j ∧ Q (g i j) H
def rI0 (g : Int → Int → V) : R2 := fun x y H Q => ∃ i j, x = .int i ∧ y = .int j ∧ Q (g i j) H
def rU (g : Int → V) : V → Hp → VK → Prop := fun x H Q => ∃ i, x = .int i ∧ Q (g i) H
section
variable {X : Cx} {a b c : Expr} {ta tb tc : TE} {pos : Pos}
theorem binT (ha : PE X a ta) (hb : PE X b tb) {pins : List (Addr × Obj)} {s : Shared} {σ : St} {H : Hp} {R : V → V → Hp → Prop} (I : Inv X pins σ H s)
    (h : ta σ H fun x H1 => tb σ H1 fun y H2 => R x y H2) {Q : Value → Shared → Prop} {f : Value → Value → Sem Value}
    (hf : ∀ v u s2 x y H2, Inv X pins σ H2 s2 → RelV x v → RelV y u → R x y H2 → wpAny (model X.prog X.w) X.A (f v u) Q X.xe s2) :
    wpAny (model X.prog X.w) X.A (eval a X.env) (fun v s₁ => wpAny (model X.prog X.w) X.A (eval b X.env) (fun u s₂ => wpAny (model X.prog X.w) X.A (f v u) Q X.xe s₂) X.xe s₁) X.xe s := by
  refine thn (ha pins s σ H _ I h) fun v s1 ⟨x, H1, I1, r1, q1⟩ => ?_
  refine thn (hb pins s1 σ H1 _ I1 q1) fun u s2 ⟨y, H2, I2, r2, q2⟩ => ?_
  exact hf v u s2 x y H2 I2 r1 r2 q2
theorem pe_op {op : Operator} {r : R2} (ho : OpR X (binaryOp op) r) (ha : PE X a ta) (hb : PE X b tb) : PE X (.BinOp a op b pos) (tOp r ta tb) := by
  intro pins s σ H Q I h
  exact wpAny_BinOp (binT ha hb I h fun v u s2 x y H2 I2 rx ry q => ho pins s2 σ H2 x y v u Q I2 rx ry q)
theorem pe_un {op : UnaryOp} {r : V → Hp → VK → Prop} (ho : UnR X (unaryOp op) r) (ha : PE X a ta) : PE X (.UnaryOp op a pos) (tUn r ta) := by
  intro pins s σ H Q I h
  exact UnaryOp_ (thn (ha pins s σ H _ I h) fun v s1 ⟨x, H1, I1, r1, q1⟩ => ho pins s1 σ H1 x v Q I1 r1 q1)
theorem opI {f : Value → Value → Sem Value} {C : Int → Int → Prop} {g : Int → Int → Int}
    (rule : ∀ (i j : Int) (t u : Tok) (s : Shared) (Q : Value → Shared → Prop) (E : Value → Shared → Prop), C i j → Q (.int (g i j) s.toks) { s with toks := s.toks + 1 } → wpAny (model X.prog X.w) X.A (f (.int i t) (.int j u)) Q E s) :
    OpR X f (rI C fun i j => .int (g i j)) := by
  intro pins s σ H x y v u Q I rx ry h
  obtain ⟨i, j, rfl, rfl, hc, q⟩ := h
  obtain ⟨t, rfl⟩ := rx
  obtain ⟨t', rfl⟩ := ry
  exact rule i j t t' s _ _ hc ⟨.int (g i j), H, I.tok _, ⟨_, rfl⟩, q⟩
theorem opI0 {f : Value → Value → Sem Value} {g : Int → Int → Int}
    (rule : ∀ (i j : Int) (t u : Tok) (s : Shared) (Q : Value → Shared → Prop) (E : Value → Shared → Prop), Q (.int (g i j) s.toks) { s with toks := s.toks + 1 } → wpAny (model X.prog X.w) X.A (f (.int i t) (.int j u)) Q E s) :
    OpR X f (rI0 fun i j => .int (g i j)) := by
  intro pins s σ H x y v u Q I rx ry h
  obtain ⟨i, j, rfl, rfl, q⟩ := h
  obtain ⟨t, rfl⟩ := rx
  obtain ⟨t', rfl⟩ := ry
  exact rule i j t t' s _ _ ⟨.int (g i j), H, I.tok _, ⟨_, rfl⟩, q⟩
theorem opB0 {f : Value → Value → Sem Value} {g : Int → Int → Bool}
    (rule : ∀ (i j : Int) (t u : Tok) (s : Shared) (Q : Value → Shared → Prop) (E : Value → Shared → Prop), Q (.bool (g i j)) s → wpAny (model X.prog X.w) X.A (f (.int i t) (.int j u)) Q E s) :
    OpR X f (rI0 fun i j => .bl (g i j)) := by
  intro pins s σ H x y v u Q I rx ry h
  obtain ⟨i, j, rfl, rfl, q⟩ := h
  obtain ⟨t, rfl⟩ := rx
  obtain ⟨t', rfl⟩ := ry
  exact rule i j t t' s _ _ ⟨.bl (g i j), H, I, rfl, q⟩
def CDiv (i j : Int) : Prop := 0 < j ∧ j < 1073741824
def CMul (i j : Int) : Prop := (-(2 ^ 64) < i ∧ i < 2 ^ 64) ∨ (-(2 ^ 64) < j ∧ j < 2 ^ 64)
theorem CMul.ok {i j : Int} (h : CMul i j) : IntMulOk i j := by
  rcases h with ⟨h1, h2⟩ | ⟨h1, h2⟩
  · exact .of_left (intBits_le_64 h1 h2)
  · exact .of_right (intBits_le_64 h1 h2)
theorem op_add : OpR X (binaryOp .Add) (rI0 fun i j => .int (i + j)) := opI0 fun _ _ _ _ _ _ _ q => add_int q
theorem op_mul : OpR X (binaryOp .Mult) (rI CMul fun i j => .int (i * j)) := opI fun _ _ _ _ _ _ _ hc q => mul_int q hc.ok
theorem op_fdiv : OpR X (binaryOp .FloorDiv) (rI CDiv fun i j => .int (i / j)) := opI fun i j _ _ _ _ _ hc q => by
  have h1 : (0 : Int) < j := hc.1
  have h2 : j < 1073741824 := hc.2
  exact floordiv_int (by omega) (by rw [Int.fdiv_eq_ediv_of_nonneg i (by omega)]; exact q) (.inl (PyProof.noPylong_small (by omega)))
theorem op_mod : OpR X (binaryOp .Mod) (rI (fun _ j => 0 < j) fun i j => .int (i % j)) := opI fun i j _ _ _ _ _ hc q => by
  have h1 : (0 : Int) < j := hc
  exact mod_int' (by omega) (by rw [Int.fmod_eq_emod_of_nonneg i (by omega)]; exact q)
theorem unI {f : Value → Sem Value} {g : Int → Int}
    (rule : ∀ (i : Int) (t : Tok) (s : Shared) (Q : Value → Shared → Prop) (E : Value → Shared → Prop), Q (.int (g i) s.toks) { s with toks := s.toks + 1 } → wpAny (model X.prog X.w) X.A (f (.int i t)) Q E s) :
    UnR X f (rU fun i => .int (g i)) := by
  intro pins s σ H x v Q I rx h
  obtain ⟨i, rfl, q⟩ := h
  obtain ⟨t, rfl⟩ := rx
  exact rule i t s _ _ ⟨.int (g i), H, I.tok _, ⟨_, rfl⟩, q⟩
theorem un_neg : UnR X (unaryOp .USub) (rU fun i => .int (-i)) := unI fun _ _ _ _ _ q => neg_int q
end
def scal : V → V → Bool
  | .non, .non => true | .non, .int _ => true | .int _, .non => true | .non, .bl _ => true | .bl _, .non => true | .non, .str _ => true | .str _, .non => true
  | .int _, .int _ => true | .bl _, .bl _ => true | .str _, .str _ => true | .byt _, .byt _ => true
  | .int _, .str _ => true | .str _, .int _ => true | .bl _, .str _ => true | .str _, .bl _ => true
  | _, _ => false
def rNe : R2 := fun x y H Q => scal x y = true ∧ Q (.bl (!decide (x = y))) H
theorem dec_int {i j : Int} : decide (V.int i = V.int j) = (i == j) := by
  rw [Bool.eq_iff_iff]
  simp
theorem dec_bl {i j : Bool} : decide (V.bl i = V.bl j) = (i == j) := by
  rw [Bool.eq_iff_iff]
  simp
theorem dec_str {i j : Str} : decide (V.str i = V.str j) = (i == j) := by
  rw [Bool.eq_iff_iff]
  simp
theorem dec_byt {i j : Array UInt8} : decide (V.byt i = V.byt j) = (i.toList == j.toList) := by
  rw [Bool.eq_iff_iff]
  cases i
  cases j
  simp
section
variable {X : Cx} {a b c : Expr} {ta tb tc : TE} {pos : Pos}
theorem fin_bl {pins : List (Addr × Obj)} {σ : St} {H : Hp} {s : Shared} {Q : VK} {k k' : Bool} (I : Inv X pins σ H s) (q : Q (.bl k) H) (e : k = k') : EP X pins σ Q (.bool k') s := by
  subst e
  exact ⟨.bl k, H, I, rfl, q⟩
theorem op_ne : OpR X (compareOp .NotEq) rNe := by
  intro pins s σ H x y v u Q I rx ry h
  obtain ⟨hs, q⟩ := h
  cases x with
  | non =>
    cases rx
    cases y with
    | non => cases ry; exact PySem.EqNone.ne_none_none (fin_bl I q (by simp))
    | bl j => cases ry; exact PySem.EqNone.ne_none_bool (fin_bl I q (by simp))
    | int j => obtain ⟨t', rfl⟩ := ry; exact PySem.EqNone.ne_none_int (fin_bl I q (by simp))
    | str j => obtain ⟨t', rfl⟩ := ry; exact PySem.EqNone.ne_none_str (fin_bl I q (by simp))
    | _ => exact absurd (show false = true from hs) Bool.false_ne_true
  | bl i =>
    cases rx
    cases y with
    | non => cases ry; exact PySem.EqNone.ne_bool_none (fin_bl I q (by simp))
    | bl j => cases ry; exact ne_bool (fin_bl I q (congrArg not dec_bl))
    | str j => obtain ⟨t', rfl⟩ := ry; exact PySem.EqMixed.ne_bool_str (fin_bl I q (by simp))
    | _ => exact absurd (show false = true from hs) Bool.false_ne_true
  | int i =>
    obtain ⟨t, rfl⟩ := rx
    cases y with
    | non => cases ry; exact PySem.EqNone.ne_int_none (fin_bl I q (by simp))
    | int j => obtain ⟨t', rfl⟩ := ry; exact ne_int (fin_bl I q (congrArg not dec_int))
    | str j => obtain ⟨t', rfl⟩ := ry; exact PySem.EqMixed.ne_int_str (fin_bl I q (by simp))
    | _ => exact absurd (show false = true from hs) Bool.false_ne_true
  | str i =>
    obtain ⟨t, rfl⟩ := rx
    cases y with
    | non => cases ry; exact PySem.EqNone.ne_str_none (fin_bl I q (by simp))
    | bl j => cases ry; exact PySem.EqMixed.ne_str_bool (fin_bl I q (by simp))
    | int j => obtain ⟨t', rfl⟩ := ry; exact PySem.EqMixed.ne_str_int (fin_bl I q (by simp))
    | str j => obtain ⟨t', rfl⟩ := ry; exact ne_str (fin_bl I q (congrArg not dec_str))
    | _ => exact absurd (show false = true from hs) Bool.false_ne_true
  | byt i =>
    obtain ⟨t, rfl⟩ := rx
    cases y with
    | byt j => obtain ⟨t', rfl⟩ := ry; exact PySem.W.ne_bytes (fin_bl I q (congrArg not dec_byt))
    | _ => exact absurd (show false = true from hs) Bool.false_ne_true
  | _ => cases y <;> exact absurd (show false = true from hs) Bool.false_ne_true
theorem op_gt : OpR X (compareOp .Gt) (rI0 fun i j => .bl (decide (j < i))) := opB0 fun _ _ _ _ _ _ _ q => gt_int q
theorem op_ge : OpR X (compareOp .GtE) (rI0 fun i j => .bl (decide (j ≤ i))) := opB0 fun _ _ _ _ _ _ _ q => ge_int q
theorem nomark (b : Expr) {op : CmpOp} (h : op ≠ .In := by decide) (h2 : op ≠ .NotIn := by decide) : behindInMarks op b = false := by
  have e1 : (op == CmpOp.In) = false := by cases op <;> first | rfl | exact absurd rfl h
  have e2 : (op == CmpOp.NotIn) = false := by cases op <;> first | rfl | exact absurd rfl h2
  cases b <;> simp [behindInMarks, e1, e2]
theorem pe_cmpR {op : CmpOp} {r : R2} (ho : OpR X (compareOp op) r) (ha : PE X a ta) (hb : PE X b tb) (hm : behindInMarks op b = false) : PE X (.Compare a [op] [b] pos) (tOp r ta tb) := by
  intro pins s σ H Q I h
  exact wpAny_Compare1 (binT ha hb I h fun v u s2 x y H2 I2 rx ry q => ho pins s2 σ H2 x y v u Q I2 rx ry q) hm
def tTest (t : TE) : TT := fun σ H Q => t σ H fun x H' => ∃ k, x = .bl k ∧ Q k H'
theorem pt_cmpR {op : CmpOp} {r : R2} (ho : OpR X (compareOp op) r) (ha : PE X a ta) (hb : PE X b tb) (hm : behindInMarks op b = false) : PT X (.Compare a [op] [b] pos) (tTest (tOp r ta tb)) := by
  intro pins s σ H Q I h
  refine wpAny_isTrue_Compare1 (thn (ha pins s σ H _ I h) fun v s1 ⟨x, H1, I1, r1, q1⟩ => thn (hb pins s1 σ H1 _ I1 q1) fun u s2 ⟨y, H2, I2, r2, q2⟩ =>
    thn (ho pins s2 σ H2 x y v u _ I2 r1 r2 q2) fun c s3 ⟨z, H3, I3, r3, k, e, q3⟩ => ?_) hm
  subst e
  cases r3
  exact wpAny_truthy_bool ⟨H3, I3, q3⟩
theorem line63 : (sizeLine : Nat) < 2 ^ 63 := by rw [sizeLine_eq]; decide
theorem vals1 {x : V} {us : List Value} (r : Vals [x] us) : ∃ u, us = [u] ∧ RelV x u := by
  cases r with
  | cons r1 r2 => cases r2; exact ⟨_, rfl, r1⟩
end
end L2
namespace L2
open PySem PySem.Spec PyProof.Rows
structure ObjM (h : Heap) (x dx C : Addr) (mA : Str → Option Value) : Prop where
  obj : h.get? x = some (PySem.W.instObj C dx)
  ns : h.Ns1 dx mA
  ne : dx ≠ x
theorem lookIn_ns {h : Heap} {dx : Addr} {mA : Str → Option Value} (n : h.Ns1 dx mA) : ∃ od, h.get? dx = some od ∧ ∀ name, PySem.W.lookIn name od = some (mA name) := by
  obtain ⟨o, es, ep, ho, hd, hk, _, hm⟩ := n
  refine ⟨o, ho, fun name => ?_⟩
  have e := hm name
  unfold nsFind findBy at e
  rw [← Array.find?_toList] at e
  unfold PySem.W.lookIn
  rw [hd]
  dsimp only
  split
  · rename_i y q
    rw [q] at e
    exact congrArg some e
  · rename_i q
    rw [q] at e
    have a : es.toList.any (·.refKey) = false := by
      rw [List.any_eq_false]
      intro y hy
      obtain ⟨z, t, hkey⟩ := hk y (Array.mem_toList_iff.mp hy)
      simp [DictEntry.refKey, hkey]
    have a' : ¬ es.toList.any (·.refKey) = true := by rw [a]; exact Bool.false_ne_true
    rw [if_neg a']
    exact congrArg some e
theorem ObjM.look {h : Heap} {x dx C : Addr} {mA : Str → Option Value} (I : ObjM h x dx C mA) : ∃ od, PySem.W.InstAt h x (PySem.W.instObj C dx) C (some od) ∧ ∀ name, PySem.W.lookIn name od = some (mA name) :=
  let ⟨od, ho, hl⟩ := lookIn_ns I.ns
  ⟨od, ⟨I.obj, rfl, rfl, ho⟩, hl⟩
section
variable {prog : Program} {w : World} {A : Around} {E : Value → Shared → Prop} {s : Shared} {K : PySem.W.Frag} {x dx C f : Addr} {mA : Str → Option Value} {name : Str} {v : Value}
theorem get_map {expr : Bool} {Q : Value → Shared → Prop} (X : K.In s.heap) (I : ObjM s.heap x dx C mA) (hg : PySem.W.plainGet K C name = true) (hh : PySem.W.hasDictIn K C = true)
    (ha : PySem.W.findIn K (.ref C) name = some none) (hv : mA name = some v) (hv' : PySem.W.handedIn v = true) (h : Q v { s with toks := s.toks + 1 }) :
    wpAny (model prog w) A (getAttr (.ref x) name expr) Q E s := by
  obtain ⟨od, J, hl⟩ := I.look
  exact PySem.W.get_value X J (PySem.W.plainGet_of hg).1 (PySem.W.findObj_own hh ha rfl (by rw [hl, hv])) hv' h
theorem get_meth {pl : Sem Bool} {Q : Value × List Value → Shared → Prop} (X : K.In s.heap) (I : ObjM s.heap x dx C mA) (hg : PySem.W.plainGet K C name = true)
    (hf : PySem.W.findIn K (.ref C) name = some (some (.ref f))) (ht : PySem.W.isFn K (.ref f) = true) (hv : mA name = none) (h : Q (.ref f, [.ref x]) s) :
    wpAny (model prog w) A (getMethod (.ref x) name pl) Q E s := by
  obtain ⟨od, J, hl⟩ := I.look
  exact PySem.W.method_fn X J (PySem.W.plainGet_of hg).1 (PySem.W.plainGet_of hg).2 hf (beq_iff_eq.mp ht) (by show (PySem.W.lookIn name od).map (·.isSome) = some false; rw [hl, hv]; rfl) h
theorem set_map {ns : List Str} {Q : Unit → Shared → Prop} (X : K.In s.heap) (I : ObjM s.heap x dx C mA)
    (hs : PySem.W.findIn K (.ref C) "__setattr__" = some (some (.builtin "object.__setattr__"))) (hp : PySem.W.plainOver K C = true) (ht : PySem.W.takerIn K C name = some none) (hh : PySem.W.hasDictIn K C = true)
    (hw : PySem.Within mA ns) (hsz : ns.length ≤ sizeLine)
    (h : ∀ h', ObjM h' x dx C (fun y => if y = name then some v else mA y) → Heap.SameBut dx s.heap h' → Q () { s with heap := h', toks := s.toks + 2 }) :
    wpAny (model prog w) A (setAttr (.ref x) name v) Q E s := by
  obtain ⟨od, J, hl⟩ := I.look
  refine PySem.W.set_plain X J hs (PySem.W.osa_open (s := { s with toks := s.toks + 1 }) (r := none) X J hp ht fun b => ?_)
  obtain ⟨cd, hc, hd'⟩ := PySem.W.any_some hh
  have hx : s.heap.get? x = some ⟨.ref C, some dx, .plain, #[]⟩ := I.obj
  refine wpAny_bind (wpAny_pure (wpAny_bind (wpAny_bind (wpAny_loadPart hx (wpAny_bind (PySem.W.Looks.here (s := { s with toks := s.toks + 1 }) (PySem.W.looks_clsIn X hc) ?_))))))
  rw [hd']
  refine wpAny_pure (a := some dx) (wpAny_bind (wpAny_pure (wpAny_bind ?_)))
  refine wpAny_nsSet1 (s := { s with toks := s.toks + 1 }) I.ns fun h' hn2 hs2 => ?_
  obtain ⟨oD, esD, epD, hoD, hdD, hcD⟩ := hn2.count (PySem.Within.cons name v hw)
  refine wpAny_bind (wpAny_lookBehind hoD (by rw [hdD]; exact pastItsLine_dict (Nat.le_trans hcD (by rw [List.length_cons]; omega))) ?_)
  exact wpAny_pure (h _ ⟨(hs2.2 _ (Ne.symm I.ne)).trans I.obj, hn2, I.ne⟩ hs2)
theorem make_map {R : Result → Shared → Prop} {vs : List Value} {kw : List (Str × Value)} (X : K.In s.heap) (hm : PySem.W.makesIn K C = true)
    (hi : PySem.W.findIn K (.ref C) "__init__" = some (some (.ref f))) (hf : PySem.W.typeIn K (.ref f) = some (.type "function"))
    (h : codeAny (model prog w) (A.under (.builtin "type.__call__" ⟨.ref C :: vs, kw⟩)) (.call (.ref f) ⟨.ref (s.heap.objs.size + 1) :: vs, kw⟩) (PySem.W.InitBack (s.heap.objs.size + 1) R)
      { s with heap := (s.heap.push PySem.W.emptyDict).push (PySem.W.instObj C s.heap.objs.size) }) :
    codeAny (model prog w) A (.call (.ref C) ⟨vs, kw⟩) R s := by
  obtain ⟨hh, g, d, t, os⟩ := s
  exact PySem.W.make_core (PySem.W.makes_of X hm) (PySem.W.looks_findIn X hi) (fun self => PySem.W.bind_fn X self hf) (.inl rfl) h
end
def putF (f : Str) (v : V) : List (Str × V) → List (Str × V)
  | [] => [(f, v)]
  | (g, x) :: r => if g = f then (g, v) :: r else (g, x) :: putF f v r
theorem lookup_putF (f g : Str) (v : V) : ∀ fs : List (Str × V), (putF f v fs).lookup g = if g = f then some v else fs.lookup g
  | [] => by
    show List.lookup g [(f, v)] = _
    by_cases h : g = f
    · have hb : (g == f) = true := beq_iff_eq.mpr h
      simp only [List.lookup, hb, if_pos h]
    · have hb : (g == f) = false := beq_eq_false_iff_ne.mpr h
      simp only [List.lookup, hb, if_neg h]
  | (k, x) :: r => by
    have ih := lookup_putF f g v r
    rw [show putF f v ((k, x) :: r) = (if k = f then (k, v) :: r else (k, x) :: putF f v r) from rfl]
    by_cases hk : k = f
    · rw [if_pos hk]
      by_cases h : g = k
      · have hb : (g == k) = true := beq_iff_eq.mpr h
        simp only [List.lookup, hb, if_pos (h.trans hk)]
      · have hb : (g == k) = false := beq_eq_false_iff_ne.mpr h
        simp only [List.lookup, hb, if_neg (fun e : g = f => h (e.trans hk.symm))]
    · rw [if_neg hk]
      by_cases h : g = k
      · have hb : (g == k) = true := beq_iff_eq.mpr h
        simp only [List.lookup, hb, if_neg (fun e : g = f => hk (h.symm.trans e))]
      · have hb : (g == k) = false := beq_eq_false_iff_ne.mpr h
        simp only [List.lookup, hb]
        exact ih
theorem keys_putF (f : Str) (v : V) : ∀ fs : List (Str × V), f ∈ (putF f v fs).map (·.1) ∧ ∀ g, g ∈ fs.map (·.1) → g ∈ (putF f v fs).map (·.1)
  | [] => ⟨by simp [putF], fun g h => by simp at h⟩
  | (k, x) :: r => by
    obtain ⟨i1, i2⟩ := keys_putF f v r
    rw [show putF f v ((k, x) :: r) = (if k = f then (k, v) :: r else (k, x) :: putF f v r) from rfl]
    by_cases hk : k = f
    · rw [if_pos hk]
      subst hk
      exact ⟨by simp, fun g h => by simpa using h⟩
    · rw [if_neg hk]
      refine ⟨?_, fun g h => ?_⟩
      · rw [List.map_cons]
        exact List.mem_cons_of_mem _ i1
      · rw [List.map_cons] at h ⊢
        rcases List.mem_cons.mp h with e | e
        · exact List.mem_cons.mpr (.inl e)
        · exact List.mem_cons_of_mem _ (i2 g e)
theorem length_putF (f : Str) (v : V) : ∀ fs : List (Str × V), (putF f v fs).length ≤ fs.length + 1
  | [] => by simp [putF]
  | (k, x) :: r => by
    have ih := length_putF f v r
    rw [show putF f v ((k, x) :: r) = (if k = f then (k, v) :: r else (k, x) :: putF f v r) from rfl]
    by_cases hk : k = f
    · rw [if_pos hk, List.length_cons, List.length_cons]; omega
    · rw [if_neg hk, List.length_cons, List.length_cons]; omega
theorem RelO.some_of {v : V} {o : Option Value} (r : RelO (some v) o) : ∃ u, o = some u ∧ RelV v u := by
  cases o with
  | none => exact (show False from r).elim
  | some u => exact ⟨u, rfl, r⟩
theorem RelO.none_of {o : Option Value} (r : RelO none o) : o = none := by
  cases o with
  | none => rfl
  | some u => exact (show False from r).elim
theorem handed_of {v : V} {u : Value} (r : RelV v u) : PySem.W.handedIn u = true := by
  cases v with
  | non => cases (show u = Value.none from r); rfl
  | bl b => cases (show u = Value.bool b from r); rfl
  | int i => obtain ⟨t, e⟩ := (show ∃ t, u = Value.int i t from r); cases e; rfl
  | str x => obtain ⟨t, e⟩ := (show ∃ t, u = Value.str x t from r); cases e; rfl
  | byt b => obtain ⟨t, e⟩ := (show ∃ t, u = Value.bytes b t from r); cases e; rfl
  | flt b => obtain ⟨t, e⟩ := (show ∃ t, u = Value.float b t from r); cases e; rfl
  | ref a => cases (show u = Value.ref a from r); rfl
  | ty n => cases (show u = Value.type n from r); rfl
section
variable {P : Program} {w : World} {H H' : Hp} {h h' : Heap} {a C dx : Addr} {fs fs' : List (Str × V)}
theorem ins_get (hok : HOk P w H h) (e : H a = some (.ins C dx fs)) : ∃ mA, ObjM h a dx C mA ∧ (∀ f, RelO (fs.lookup f) (mA f)) ∧ PySem.Within mA (fs.map (·.1)) ∧ fs.length ≤ 1000 ∧ H dx = some (.own a) := by
  obtain ⟨d, z, ne, ob, mA, n, r, q⟩ := (show ObjOk P w H h a (.ins C dx fs) from hok a _ e)
  exact ⟨mA, ⟨ob, n, ne⟩, r, q, z, d⟩
end
structure Cls (K : PySem.W.Frag) (C : Addr) : Prop where
  pg : PySem.W.plainGet K C Str.empty = true
  hd : PySem.W.hasDictIn K C = true
  po : PySem.W.plainOver K C = true
  sa : PySem.W.findIn K (.ref C) "__setattr__" = some (some (.builtin "object.__setattr__"))
theorem Cls.get {K : PySem.W.Frag} {C : Addr} (c : Cls K C) (f : Str) : PySem.W.plainGet K C f = true := c.pg
def NoAttr (K : PySem.W.Frag) (C : Addr) (f : Str) : Prop := PySem.W.findIn K (.ref C) f = some none
theorem NoAttr.taker {K : PySem.W.Frag} {C : Addr} {f : Str} (n : NoAttr K C f) : PySem.W.takerIn K C f = some none := by
  unfold PySem.W.takerIn
  rw [show PySem.W.findIn K (.ref C) f = some none from n]
  rfl
structure Meth (K : PySem.W.Frag) (C : Addr) (m : Str) (f : Addr) : Prop where
  at_ : PySem.W.findIn K (.ref C) m = some (some (.ref f))
  fn : PySem.W.isFn K (.ref f) = true
  kp : PySem.W.keepIn K (.ref f) = true
section
variable {X : Cx} {pins : List (Addr × Obj)} {σ : St} {H : Hp} {s : Shared} {a C dx : Addr} {fs : List (Str × V)} {f : Str} {v : V} {A : Around} {E : Value → Shared → Prop}
theorem getattr_ok {b : Bool} {Q : Value → Shared → Prop} (I : Inv X pins σ H s) (e : H a = some (.ins C dx fs)) (c : Cls X.K C) (n : NoAttr X.K C f) (l : fs.lookup f = some v)
    (h : ∀ u s', Inv X pins σ H s' → RelV v u → Q u s') : wpAny (model X.prog X.w) A (getAttr (.ref a) f b) Q E s := by
  obtain ⟨mA, O, r, _, _, _⟩ := ins_get I.hok e
  obtain ⟨u, hu, ru⟩ := RelO.some_of (v := v) (o := mA f) (by rw [← l]; exact r f)
  exact get_map I.kIn O (c.get f) c.hd n hu (handed_of ru) (h u _ (I.tok _) ru)
theorem getmeth_ok {m : Str} {g : Addr} {pl : Sem Bool} {Q : Value × List Value → Shared → Prop} (I : Inv X pins σ H s) (e : H a = some (.ins C dx fs)) (c : Cls X.K C) (k : Meth X.K C m g) (l : fs.lookup m = none)
    (h : Q (.ref g, [.ref a]) s) : wpAny (model X.prog X.w) A (getMethod (.ref a) m pl) Q E s := by
  obtain ⟨mA, O, r, _, _, _⟩ := ins_get I.hok e
  have hn : mA m = none := RelO.none_of (by rw [← l]; exact r m)
  exact get_meth I.kIn O (c.get m) k.at_ k.fn hn h
theorem setattr_ok {y : V} {u : Value} {Q : Unit → Shared → Prop} (I : Inv X pins σ H s) (e : H a = some (.ins C dx fs)) (c : Cls X.K C) (n : NoAttr X.K C f) (hl : fs.length < 1000) (ry : RelV y u)
    (h : ∀ s', Inv X pins σ (upd H a (.ins C dx (putF f y fs))) s' → Q () s') : wpAny (model X.prog X.w) A (setAttr (.ref a) f u) Q E s := by
  obtain ⟨mA, O, r, wi, _, ho⟩ := ins_get I.hok e
  have hz : (fs.map (·.1)).length ≤ sizeLine := by rw [List.length_map, sizeLine_eq]; omega
  refine set_map I.kIn O c.sa c.po n.taker c.hd wi hz fun h' O' sb => h _ ?_
  have hd : ∃ o, h'.get? dx = some o := let ⟨o, _, _, e', _⟩ := O'.ns; ⟨o, e'⟩
  refine I.write (x := a) (e := dx) (by rw [e]; exact True.intro) (.inr ho) (fun b q hb z => (sb.2 b hb).trans z) hd ?_
  refine ⟨by rw [upd_ne O.ne]; exact ho, ?_, O.ne, O'.obj, _, O'.ns, fun g => ?_, fun g hg => ?_⟩
  · have := length_putF f y fs; omega
  · show RelO ((putF f y fs).lookup g) (if g = f then some u else mA g)
    rw [lookup_putF]
    by_cases q : g = f
    · rw [if_pos q, if_pos q]; exact ry
    · rw [if_neg q, if_neg q]; exact r g
  · by_cases q : g = f
    · rw [q]; exact (keys_putF f y fs).1
    · refine (keys_putF f y fs).2 g (wi g fun z => hg ?_)
      show (if g = f then some u else mA g) = none
      rw [if_neg q]; exact z
theorem Inv.made (I : Inv X pins σ H s) : Inv X pins σ (upd (upd H s.heap.objs.size (.own (s.heap.objs.size + 1))) (s.heap.objs.size + 1) (.ins C s.heap.objs.size []))
    { s with heap := (s.heap.push PySem.W.emptyDict).push (PySem.W.instObj C s.heap.objs.size) } := by
  have e1 : (s.heap.push PySem.W.emptyDict).get? s.heap.objs.size = some PySem.W.emptyDict := Heap.get?_push_size s.heap rfl
  have e2 : ((s.heap.push PySem.W.emptyDict).push (PySem.W.instObj C s.heap.objs.size)).get? (s.heap.objs.size + 1) = some (PySem.W.instObj C s.heap.objs.size) := by
    have := Heap.get?_push_size (s.heap.push PySem.W.emptyDict) (o := PySem.W.instObj C s.heap.objs.size) rfl
    rwa [Heap.size_push] at this
  have e3 : (s.heap.push PySem.W.emptyDict).Ns s.heap.objs.size (fun _ => none) := ⟨PySem.W.emptyDict, #[], _, e1, rfl, (fun e he => absurd he (by simp)), fun _ => rfl⟩
  have I1 := I.laid (a := s.heap.objs.size) (o := .own (s.heap.objs.size + 1)) (h' := s.heap.push PySem.W.emptyDict) (t' := s.toks) (fun b u q => Heap.get?_push_of_some _ q) (Nat.le_refl _) ⟨_, e1⟩
  refine I1.laid (a := s.heap.objs.size + 1) (o := .ins C s.heap.objs.size []) (t' := s.toks) (fun b u q => Heap.get?_push_of_some _ q) (Nat.le_of_eq (Heap.size_push _ _)) ?_
  have ne : s.heap.objs.size ≠ s.heap.objs.size + 1 := Nat.ne_of_lt (Nat.lt_succ_self _)
  refine ⟨by rw [upd_ne ne, upd_same], Nat.zero_le _, ne, e2, fun _ => none, (Heap.Ns1.of_empty e3).at fun o q => Heap.get?_push_of_some _ q, fun _ => True.intro, fun y hy => absurd rfl hy⟩
theorem attr_of {prog : Program} {w : World} {env : Env} {e : Expr} {f : Str} {pos : Pos} {s : Shared} {Q : Value → Shared → Prop} (hb : attributeBase e f env (eval e env) = eval e env)
    (h : wpAny (model prog w) A (eval e env) (fun o s₁ => wpAny (model prog w) A (getAttr o f true) Q E s₁) E s) : wpAny (model prog w) A (eval (.Attribute e f pos) env) Q E s :=
  Attribute_any_ h (by rw [arm_eval_Attribute, hb])
end
def tFld (K : PySem.W.Frag) (ta : TE) (f : Str) : TE := fun σ H Q => ta σ H fun x H1 => ∃ a C dx fs v, x = .ref a ∧ H1 a = some (.ins C dx fs) ∧ Cls K C ∧ NoAttr K C f ∧ fs.lookup f = some v ∧ Q v H1
def sFld (K : PySem.W.Frag) (ta tv : TE) (f : Str) : TS := fun D σ H => tv σ H fun y H1 => ta σ H1 fun x H2 => ∃ a C dx fs, x = .ref a ∧ H2 a = some (.ins C dx fs) ∧ Cls K C ∧ NoAttr K C f ∧ fs.length < 1000 ∧
  D.nx σ (upd H2 a (.ins C dx (putF f y fs)))
section
variable {X : Cx} {o e value : Expr} {f : Str} {pos pos' tpos : Pos} {ta tv : TE}
theorem pe_fld (he : PE X e ta) (hb : attributeBase e f X.env (eval e X.env) = eval e X.env) : PE X (.Attribute e f pos) (tFld X.K ta f) := by
  intro pins s σ H Q I h
  refine attr_of hb (thn (he pins s σ H _ I h) fun u s1 ⟨x, H1, I1, rx, a, C, dx, fs, v, ex, ea, c, n, l, q⟩ => ?_)
  subst ex
  obtain rfl : u = Value.ref a := rx
  exact getattr_ok I1 ea c n l fun u' s2 I2 ru => ⟨v, H1, I2, ru, q⟩
theorem ps_fld (ha : PE X o ta) (hv : PE X value tv) (hs : swapsWith value (some (.Attribute o f pos')) pos.line X.env = pure false) : PS X (.Assign [.Attribute o f pos'] value pos) (sFld X.K ta tv f) := by
  intro pins s σ H D I h
  refine plainObj_wpAny_Assign_Attribute (thn (hv pins s σ H _ I h) fun u s1 ⟨y, H1, I1, ry, q⟩ => thn (ha pins s1 σ H1 _ I1 q) fun ov s2 ⟨x, H2, I2, rx, a, C, dx, fs, ex, ea, c, n, l, q2⟩ => ?_) hs
  subst ex
  obtain rfl : ov = Value.ref a := rx
  exact setattr_ok I2 ea c n l ry fun s3 I3 => ⟨σ, _, I3, q2⟩
end
end L2
namespace L2
open PySem PySem.Spec PyProof.Rows
structure Room (k : Nat) (A : Around) : Prop where
  hd : A.handled = none
  dp : A.depth + 3 * k + 5 < recursionLimit
  un : A.units + 16 * k + 200 < cLine
theorem Room.mono {j k : Nat} {A : Around} (r : Room k A) (h : j ≤ k) : Room j A := ⟨r.hd, by have := r.dp; omega, by have := r.un; omega⟩
theorem Room.deeper {k : Nat} {A : Around} (r : Room (k + 1) A) (env : Env) : Room k (A.deeper env) :=
  ⟨r.hd, by have := r.dp; show A.depth + 1 + 3 * k + 5 < _; omega, by have := r.un; show A.units + 3 + 16 * k + 200 < _; omega⟩
theorem Room.in1 {k : Nat} {A : Around} (r : Room (k + 1) A) : Room k A.in1 :=
  ⟨r.hd, by have := r.dp; show A.depth + 3 * k + 5 < _; omega, by have := r.un; show A.units + 1 + 16 * k + 200 < _; omega⟩
theorem make_depth {A : Around} {C : Addr} {us : List Value} {kw : List (Str × Value)} : (A.under (.builtin "type.__call__" ⟨.ref C :: us, kw⟩)).depth = A.depth + 1 := by
  first | rfl | simp [Around.under, Code.weight, Code.isCreation, Code.isGuard, Code.isCaller, Code.frames, Code.isFrame, guardIds]
theorem make_units {A : Around} {C : Addr} {us : List Value} {kw : List (Str × Value)} : (A.under (.builtin "type.__call__" ⟨.ref C :: us, kw⟩)).units = A.units + 1 := by
  first | rfl | simp [Around.under, Code.cUnits, Code.frames, Code.isFrame]
theorem Room.make {k : Nat} {A : Around} (r : Room (k + 1) A) (C : Addr) (us : List Value) (kw : List (Str × Value)) : Room k (A.under (.builtin "type.__call__" ⟨.ref C :: us, kw⟩)) :=
  ⟨r.hd, by have := r.dp; rw [make_depth]; omega, by have := r.un; rw [make_units]; omega⟩
theorem Room.depth {k : Nat} {A : Around} (r : Room k A) : A.depth < recursionLimit := by have := r.dp; omega
theorem Room.units {k : Nat} {A : Around} (r : Room k A) : A.units + 64 < cLine := by have := r.un; omega
theorem Room.units0 {k : Nat} {A : Around} (r : Room k A) : A.units < cLine := by have := r.un; omega
def tNil : TA := fun _ H Q => Q [] H
def tCons (ta : TE) (tr : TA) : TA := fun σ H Q => ta σ H fun x H1 => tr σ H1 fun xs H2 => Q (x :: xs) H2
section
variable {X : Cx} {e : Expr} {es : List Expr} {te : TE} {t : TA} {pos : Pos}
theorem pa_nil : PA X [] tNil := fun _ _ _ _ H Q I h => Calls.spliced_nil ⟨[], H, I, .nil, h⟩
theorem pa_cons (ha : PE X e te) (hr : PA X es t) (hs : starEach (e :: es) X.env = (false, eval e X.env) :: starEach es X.env := by rfl) : PA X (e :: es) (tCons te t) := by
  intro pos pins s σ H Q I h
  rw [hs]
  show wpAny _ _ (spliced ((false, eval e X.env) :: backTo pos (starEach es X.env))) _ _ s
  refine Calls.spliced_cons (thn (ha pins s σ H _ I h) fun u s1 ⟨x, H1, I1, r1, q1⟩ => ?_)
  exact thn (hr pos pins s1 σ H1 _ I1 q1) fun us s2 ⟨xs, H2, I2, r2, q2⟩ => ⟨x :: xs, H2, I2, .cons r1 r2, q2⟩
def tTup (t : TA) : TE := fun σ H Q => t σ H fun xs H1 => xs.length ≤ sizeLine ∧ ∀ p, H1 p = none → Q (.ref p) (upd H1 p (.tup xs))
def tLst (t : TA) : TE := fun σ H Q => t σ H fun xs H1 => xs.length ≤ sizeLine ∧ ∀ p, H1 p = none → Q (.ref p) (upd H1 p (.lst xs))
theorem pe_tup {x1} (h : PA X es t) : PE X (.Tuple es x1 pos) (tTup t) := by
  intro pins s σ H Q I hq
  refine wpAny_Tuple_spliced (thn (h pos pins s σ H _ I hq) fun us s1 ⟨xs, H1, I1, r, z, q⟩ => ⟨by rw [← r.length]; exact z, ?_⟩)
  have hf : H1 s1.heap.objs.size = none := I1.hok.fresh (Nat.le_refl _)
  refine ⟨.ref s1.heap.objs.size, upd H1 s1.heap.objs.size (.tup xs), I1.laid (t' := s1.toks) (fun b u e => Heap.get?_push_of_some _ e) (Nat.le_refl _) ?_, rfl, q _ hf⟩
  exact ⟨z, us, r, ⟨_, Heap.get?_push_size _ rfl, rfl, _, rfl⟩⟩
theorem pe_lst (h : PA X es t) : PE X (.List es pos) (tLst t) := by
  intro pins s σ H Q I hq
  refine wpAny_List_spliced (thn (h pos pins s σ H _ I hq) fun us s1 ⟨xs, H1, I1, r, z, q⟩ => ⟨by rw [← r.length]; exact z, ?_⟩)
  have hf : H1 s1.heap.objs.size = none := I1.hok.fresh (Nat.le_refl _)
  refine ⟨.ref s1.heap.objs.size, upd H1 s1.heap.objs.size (.lst xs), I1.laid (t' := s1.toks) (fun b u e => Heap.get?_push_of_some _ e) (Nat.le_refl _) ?_, rfl, q _ hf⟩
  exact ⟨z, us, 0, r, Heap.get?_push_size _ rfl⟩
end
abbrev Sp := List V → Hp → VK → XK → Prop
abbrev CXT := List Env → Hp → Shared → XK → Value → Shared → Prop
structure Env0 (P : Program) (w : World) (K : PySem.W.Frag) (mg : Str → Option Value) (base : Heap) (A : Around) (outer : List Env) (s : Shared) (H : Hp) : Prop where
  frames : A.frames = some outer
  mod : Mod K mg base
  bs : ∀ b o, base.get? b = some o → s.heap.get? b = some o ∧ H b = none
  bsz : base.objs.size ≤ s.heap.objs.size
  funs : s.heap.FunFrames base outer
  frf : ∀ b ∈ frs outer, H b = none
  hok : HOk P w H s.heap
  bare : AllBare s.gens
def CE (outer : List Env) (P : Program) (w : World) (H : Hp) (s : Shared) (Q : VK) (u : Value) (s' : Shared) : Prop :=
  ∃ v H', s'.os = s.os ∧ AllBare s'.gens ∧ Un (frs outer) [] H H' s.heap s'.heap ∧ HOk P w H' s'.heap ∧ RelV v u ∧ Q v H'
def CR (CX : CXT) (outer : List Env) (P : Program) (w : World) (H : Hp) (s : Shared) (Q : VK) (E : XK) (r : Result) (s' : Shared) : Prop :=
  match r with
  | .ok (.ret u) => CE outer P w H s Q u s'
  | .ok _ => False
  | .error e => CX outer H s E e s'
structure FnOk (P : Program) (w : World) (K : PySem.W.Frag) (mg : Str → Option Value) (base : Heap) (CX : CXT) (k : Nat) (f : Addr) (fd : FuncData) (ps : List Str) (sp : Sp) : Prop where
  len : ∀ vs H Q E, sp vs H Q E → vs.length = ps.length
  run : ∀ (A : Around) (outer : List Env) (s : Shared) (H : Hp) (args : Args) (us : List Value) (vs : List V) (Q : VK) (E : XK), Room k A → Env0 P w K mg base A outer s H → BindsTo s fd args (ps.zip us) → Vals vs us → sp vs H Q E →
    codeAny (model P w) A (.call (.ref f) args) (CR CX outer P w H s Q E) s
theorem FnOk.mono {P : Program} {w : World} {K : PySem.W.Frag} {mg : Str → Option Value} {base : Heap} {CX : CXT} {j k : Nat} {f : Addr} {fd : FuncData} {ps : List Str} {sp : Sp} (F : FnOk P w K mg base CX j f fd ps sp) (h : j ≤ k) :
    FnOk P w K mg base CX k f fd ps sp := ⟨F.len, fun A outer s H args us vs Q E hr => F.run A outer s H args us vs Q E (hr.mono h)⟩
theorem FnOk.imp {P : Program} {w : World} {K : PySem.W.Frag} {mg : Str → Option Value} {base : Heap} {CX : CXT} {k : Nat} {f : Addr} {fd : FuncData} {ps : List Str} {sp sp' : Sp} (F : FnOk P w K mg base CX k f fd ps sp)
    (h : ∀ vs H Q E, sp' vs H Q E → sp vs H Q E) : FnOk P w K mg base CX k f fd ps sp' :=
  ⟨fun vs H Q E q => F.len vs H Q E (h _ _ _ _ q), fun A outer s H args us vs Q E hr he hb hv hs => F.run A outer s H args us vs Q E hr he hb hv (h _ _ _ _ hs)⟩
theorem Env0.make {P : Program} {w : World} {K : PySem.W.Frag} {mg : Str → Option Value} {base : Heap} {A : Around} {outer : List Env} {s : Shared} {H : Hp} (e : Env0 P w K mg base A outer s H) (C : Addr) (us : List Value) (kw : List (Str × Value)) :
    Env0 P w K mg base (A.under (.builtin "type.__call__" ⟨.ref C :: us, kw⟩)) outer s H := ⟨by first | exact e.frames | (simpa [Around.under, Code.envs, Code.isFrame, pushEnvs] using e.frames), e.mod, e.bs, e.bsz, e.funs, e.frf, e.hok, e.bare⟩
theorem Env0.in1 {P : Program} {w : World} {K : PySem.W.Frag} {mg : Str → Option Value} {base : Heap} {A : Around} {outer : List Env} {s : Shared} {H : Hp} (e : Env0 P w K mg base A outer s H) :
    Env0 P w K mg base A.in1 outer s H := ⟨e.frames, e.mod, e.bs, e.bsz, e.funs, e.frf, e.hok, e.bare⟩
section
variable {X : Cx} {pins : List (Addr × Obj)} {σ : St} {H : Hp} {s s' : Shared}
theorem Inv.env0 (I : Inv X pins σ H s) : Env0 X.prog X.w X.K X.mg X.base X.A X.stack s H :=
  ⟨I.ok.frames, I.ok.mod, I.bs, Nat.le_trans I.ok.bsz I.sz, I.stack, I.stkFree, I.hok, I.bare⟩
theorem Inv.after {Q : VK} {u : Value} (I : Inv X pins σ H s) (h : CE X.stack X.prog X.w H s Q u s') : EP X pins σ Q u s' := by
  obtain ⟨v, H', os, bare, un, hok, r, q⟩ := h
  obtain ⟨hh, g, d, t, os'⟩ := s'
  obtain rfl : os' = s.os := os
  exact ⟨v, H', I.call (h' := hh) (g' := g) (d' := d) (t' := t) (ch := []) un hok bare (fun b z => absurd z (by simp)), r, q⟩
end
def tCall (sp : Sp) (dvs : List V) (E : XK) (t : TA) : TE := fun σ H Q => t σ H fun vs H1 => sp (vs ++ dvs) H1 Q E
def tMeth (C : Addr) (m : Str) (sp : Sp) (dvs : List V) (E : XK) (ta : TE) (t : TA) : TE := fun σ H Q => ta σ H fun x H1 => ∃ a dx fs, x = .ref a ∧ H1 a = some (.ins C dx fs) ∧ fs.lookup m = none ∧
  t σ H1 fun vs H2 => sp (x :: (vs ++ dvs)) H2 Q E
def tMake (C : Addr) (sp : Sp) (dvs : List V) (E : XK) (t : TA) : TE := fun σ H Q => t σ H fun vs H1 => ∀ x dx, H1 x = none → H1 dx = none → dx ≠ x →
  sp (.ref x :: (vs ++ dvs)) (upd (upd H1 dx (.own x)) x (.ins C dx [])) (fun v H2 => v = .non ∧ Q (.ref x) H2) E
def Binds (K : PySem.W.Frag) (fd : FuncData) (ps : List Str) (ds : List Value) : Prop :=
  ∀ (s : Shared) (us : List Value), K.In s.heap → (us ++ ds).length = ps.length → BindsTo s fd ⟨us, []⟩ (ps.zip (us ++ ds))
theorem Binds.all {K : PySem.W.Frag} {fd : FuncData} {ps : List Str} (h : ∀ us : List Value, us.length = ps.length → bindArgs fd ⟨us, []⟩ = pure (ps.zip us)) : Binds K fd ps [] := fun s us _ hl => by
  rw [List.append_nil] at hl ⊢
  exact .of_eq (h us hl)
def Passes (CX : CXT) (X : Cx) (E : XK) : Prop := ∀ (pins : List (Addr × Obj)) (σ : St) (H : Hp) (s : Shared) (e : Value) (s' : Shared), Inv X pins σ H s → CX X.stack H s E e s' → X.xe e s'
section
variable {X : Cx} {CX : CXT} {k : Nat} {f C : Addr} {fd : FuncData} {ps : List Str} {sp : Sp} {dvs : List V} {ds : List Value} {E : XK} {x m : Str} {p pos apos : Pos} {e o : Expr} {es : List Expr} {ta : TE} {t : TA}
theorem run_fn {pins : List (Addr × Obj)} {σ : St} {H : Hp} {s : Shared} {Q : VK} {us : List Value} {vs : List V} (F : FnOk X.prog X.w X.K X.mg X.base CX k f fd ps sp) (hr : Room k X.A) (hb : Binds X.K fd ps ds) (hd : Vals dvs ds) (hx : Passes CX X E)
    (I : Inv X pins σ H s) (r : Vals vs us) (h : sp (vs ++ dvs) H Q E) : wpAny (model X.prog X.w) X.A (call (.ref f) us) (EP X pins σ Q) X.xe s := by
  have r2 : Vals (vs ++ dvs) (us ++ ds) := r.append hd
  have hl : (us ++ ds).length = ps.length := by rw [← r2.length]; exact F.len _ _ _ _ h
  refine wpAny_call (codeAny_mono (F.run X.A X.stack s H ⟨us, []⟩ (us ++ ds) (vs ++ dvs) Q E hr I.env0 (hb s us I.kIn hl) r2 h) fun r s' hq => ?_)
  cases r with
  | error e => exact hx pins σ H s e s' I hq
  | ok fl =>
    cases fl with
    | ret u => exact I.after hq
    | next => exact False.elim hq
    | brk => exact False.elim hq
    | cont => exact False.elim hq
theorem pe_call (F : FnOk X.prog X.w X.K X.mg X.base CX k f fd ps sp) (hr : Room k X.A) (hg : Gl X x) (hm : X.mg x = some (.ref f)) (hk : PySem.W.keepIn X.K (.ref f) = true) (hb : Binds X.K fd ps ds) (hd : Vals dvs ds) (hx : Passes CX X E)
    (ha : PA X (e :: es) t) (hdb : (x == ("__debug__" : Str)) = false := by decide) (he : starEach (e :: es) X.env = (false, eval e X.env) :: starEach es X.env := by rfl) (hpl : (backTo pos (starEach es X.env)).any (·.1) = false := by rfl) :
    PE X (.Call (.Name x p) (e :: es) [] pos) (tCall sp dvs E t) := by
  intro pins s σ H Q I h
  refine wpAny_Call_Name_kw (ld_glob I hg hm ?_ hdb)
  refine PySem.W.callWith_K (h₀ := X.base) I.ok.mod.kin hk (thn (ha pos pins s σ H _ I h) fun us s1 ⟨vs, H1, I1, r, q⟩ => ⟨I1.kIn, ?_⟩) he hpl
  exact run_fn F hr hb hd hx I1 r q
theorem pe_meth {pl : Sem Bool} (he : PE X o ta) (c : Cls X.K C) (hm : Meth X.K C m f) (F : FnOk X.prog X.w X.K X.mg X.base CX k f fd ps sp) (hr : Room k X.A) (hb : Binds X.K fd ps ds) (hd : Vals dvs ds) (hx : Passes CX X E) (ha : PA X (e :: es) t)
    (hst : starEach (e :: es) X.env = (false, eval e X.env) :: starEach es X.env := by rfl) (hpl : (backTo pos (starEach es X.env)).any (·.1) = false := by rfl)
    (ht : eval (.Call (.Attribute o m apos) (e :: es) [] pos) X.env = (do
      let ov ← eval o X.env
      standAt apos.atName
      let (f, first) ← holding [ov] (getMethod ov m pl)
      callWith pos f first (backTo pos (starEach (e :: es) X.env)) (backToKw pos (keywordEach [] X.env))) := by rfl) :
    PE X (.Call (.Attribute o m apos) (e :: es) [] pos) (tMeth C m sp dvs E ta t) := by
  intro pins s σ H Q I h
  refine PySem.W.methodCall_KW (pl := pl) (thn (he pins s σ H _ I h) fun u s1 ⟨x, H1, I1, rx, a, dx, fs, ex, ea, l, q⟩ => ?_) ht
  subst ex
  obtain rfl : u = Value.ref a := rx
  refine getmeth_ok I1 ea c hm l ?_
  refine PySem.W.callWith_K (first := [.ref a]) (h₀ := X.base) I.ok.mod.kin hm.kp (thn (ha pos pins s1 σ H1 _ I1 q) fun us s2 ⟨vs, H2, I2, r, q2⟩ => ⟨I2.kIn, ?_⟩) hst hpl
  exact run_fn (us := .ref a :: us) (vs := .ref a :: vs) F hr hb hd hx I2 (.cons rfl r) q2
theorem pe_meth0 {pl : Sem Bool} (he : PE X o ta) (c : Cls X.K C) (hm : Meth X.K C m f) (F : FnOk X.prog X.w X.K X.mg X.base CX k f fd ps sp) (hr : Room k X.A) (hb : Binds X.K fd ps ds) (hd : Vals dvs ds) (hx : Passes CX X E)
    (ht : eval (.Call (.Attribute o m apos) [] [] pos) X.env = (do
      let ov ← eval o X.env
      standAt apos.atName
      let (f, first) ← holding [ov] (getMethod ov m pl)
      callWith pos f first (backTo pos (starEach [] X.env)) (backToKw pos (keywordEach [] X.env))) := by rfl) :
    PE X (.Call (.Attribute o m apos) [] [] pos) (tMeth C m sp dvs E ta tNil) := by
  intro pins s σ H Q I h
  refine PySem.W.methodCall_KW (pl := pl) (thn (he pins s σ H _ I h) fun u s1 ⟨x, H1, I1, rx, a, dx, fs, ex, ea, l, q⟩ => ?_) ht
  subst ex
  obtain rfl : u = Value.ref a := rx
  refine getmeth_ok I1 ea c hm l ?_
  exact PySem.W.callWith_K0 (first := [.ref a]) I1.kIn hm.kp (run_fn (us := [.ref a]) (vs := [.ref a]) F hr hb hd hx I1 (.cons rfl .nil) q)
structure Mk (K : PySem.W.Frag) (C f : Addr) : Prop where
  makes : PySem.W.makesIn K C = true
  init : PySem.W.findIn K (.ref C) "__init__" = some (some (.ref f))
  fn : PySem.W.isFn K (.ref f) = true
  kp : PySem.W.keepIn K (.ref C) = true
theorem run_make {pins : List (Addr × Obj)} {σ : St} {H : Hp} {s : Shared} {Q : VK} {us : List Value} {vs : List V} (M : Mk X.K C f) (F : FnOk X.prog X.w X.K X.mg X.base CX k f fd ps sp) (hr : Room (k + 1) X.A) (hb : Binds X.K fd ps ds) (hd : Vals dvs ds)
    (hx : Passes CX X E) (I : Inv X pins σ H s) (r : Vals vs us)
    (h : ∀ x dx, H x = none → H dx = none → dx ≠ x → sp (.ref x :: (vs ++ dvs)) (upd (upd H dx (.own x)) x (.ins C dx [])) (fun v H2 => v = .non ∧ Q (.ref x) H2) E) :
    wpAny (model X.prog X.w) X.A (call (.ref C) us) (EP X pins σ Q) X.xe s := by
  have hq := h (s.heap.objs.size + 1) s.heap.objs.size (I.hok.fresh (Nat.le_succ _)) (I.hok.fresh (Nat.le_refl _)) (Nat.ne_of_lt (Nat.lt_succ_self _))
  have I2 := Inv.made (C := C) I
  have r2 : Vals (V.ref (s.heap.objs.size + 1) :: (vs ++ dvs)) (Value.ref (s.heap.objs.size + 1) :: (us ++ ds)) := .cons rfl (r.append hd)
  have hl : (Value.ref (s.heap.objs.size + 1) :: us ++ ds).length = ps.length := by
    have e := r2.length
    rw [F.len _ _ _ _ hq] at e
    exact e.symm
  refine wpAny_call (make_map (f := f) I.kIn M.makes M.init (beq_iff_eq.mp M.fn) (codeAny_mono (F.run _ X.stack _ _ ⟨Value.ref (s.heap.objs.size + 1) :: us, []⟩ (Value.ref (s.heap.objs.size + 1) :: (us ++ ds)) _ _ E (hr.make C us [])
    (I2.env0.make C us []) (hb _ (Value.ref (s.heap.objs.size + 1) :: us) I2.kIn hl) r2 hq) fun r s' hq' => ?_))
  cases r with
  | error e => exact hx pins σ _ _ e s' I2 hq'
  | ok fl =>
    cases fl with
    | ret u =>
      obtain ⟨v, H', I3, rv, ev, q3⟩ := I2.after hq'
      subst ev
      exact ⟨rv, ⟨V.ref (s.heap.objs.size + 1), H', I3, rfl, q3⟩⟩
    | next => exact False.elim hq'
    | brk => exact False.elim hq'
    | cont => exact False.elim hq'
theorem pe_make0 (M : Mk X.K C f) (F : FnOk X.prog X.w X.K X.mg X.base CX k f fd ps sp) (hr : Room (k + 1) X.A) (hg : Gl X x) (hm : X.mg x = some (.ref C)) (hb : Binds X.K fd ps ds) (hd : Vals dvs ds) (hx : Passes CX X E)
    (hdb : (x == ("__debug__" : Str)) = false := by decide) : PE X (.Call (.Name x p) [] [] pos) (tMake C sp dvs E tNil) := by
  intro pins s σ H Q I h
  refine wpAny_Call_Name_kw (ld_glob I hg hm ?_ hdb)
  exact PySem.W.callWith_K0 I.kIn M.kp (run_make (us := []) M F hr hb hd hx I .nil h)
end
def PK (X : Cx) (kws : List Keyword) (t : TA) : Prop :=
  ∀ (pos : Pos) (pins : List (Addr × Obj)) (s : Shared) (σ : St) (H : Hp) (Q : List V → Hp → Prop), Inv X pins σ H s → t σ H Q → wpAny (model X.prog X.w) X.A (evalAll ((backToKw pos (keywordEach kws X.env)).map (·.2))) (AP X pins σ Q) X.xe s
section
variable {X : Cx} {CX : CXT} {k : Nat} {f C : Addr} {fd : FuncData} {ps ks : List Str} {sp : Sp} {E : XK} {x m : Str} {p pos apos kpos : Pos} {e o : Expr} {es : List Expr} {kws : List Keyword} {te ta : TE} {t tk : TA} {nm : Option Str}
theorem pk_nil : PK X [] tNil := fun _ _ _ _ H Q I h => wpAny_evalAll_nil ⟨[], H, I, .nil, h⟩
theorem pk_cons (ha : PE X e te) (hr : PK X kws t) : PK X (⟨nm, e, kpos⟩ :: kws) (tCons te t) := by
  intro pos pins s σ H Q I h
  show wpAny _ _ (evalAll ((do let v ← eval e X.env; standAt pos; pure v) :: (backToKw pos (keywordEach kws X.env)).map (·.2))) _ _ s
  refine wpAny_evalAll_cons (wpAny_bind (thn (ha pins s σ H _ I h) fun u s1 ⟨x, H1, I1, r1, q1⟩ => wpAny_bind (wpAny_standAt (wpAny_pure ?_))))
  exact thn (hr pos pins s1 σ H1 _ I1 q1) fun us s2 ⟨xs, H2, I2, r2, q2⟩ => ⟨x :: xs, H2, I2, .cons r1 r2, q2⟩
variable {g : List Value → List Value → List Value} {gV : List V → List V → List V}
end
structure FnScope (N P : List Str) (sc : Scope) : Prop where
  kind : sc.kind = .function
  co : sc.isCoroutine = false
  gen : sc.isGenerator = false
  nd : N.Nodup
  pre : N.take P.length = P
  par : ∀ x ∈ P, sc.names.lookup x = some .local ∨ sc.names.lookup x = some .cell
  nofree : ∀ y ∈ sc.names, y.2 ≠ .free
theorem bindL_out {kindOf : Str → Option NameKind} {x : Str} : ∀ {binds : List (Str × Value)} {m : Str → Option Value}, (∀ v, (x, v) ∉ binds) → bindL kindOf binds m x = m x
  | [], _, _ => rfl
  | (n, v) :: r, m, h => by
    unfold bindL
    rw [bindL_out fun w hw => h w (List.mem_cons_of_mem _ hw)]
    split
    · have : x ≠ n := by rintro rfl; exact h v List.mem_cons_self
      simp [this]
    · rfl
theorem bindC_out {kindOf : Str → Option NameKind} {x : Str} : ∀ {binds : List (Str × Value)} {m : Str → Option Value}, (∀ v, (x, v) ∉ binds) → bindC kindOf binds m x = m x
  | [], _, _ => rfl
  | (n, v) :: r, m, h => by
    unfold bindC
    rw [bindC_out fun w hw => h w (List.mem_cons_of_mem _ hw)]
    split
    · rfl
    · have : x ≠ n := by rintro rfl; exact h v List.mem_cons_self
      simp [this]
theorem bindL_get {kindOf : Str → Option NameKind} {x : Str} {v : Value} : ∀ {P : List Str} {vs : List Value} {i : Nat} {m : Str → Option Value}, P.Nodup → P[i]? = some x → vs[i]? = some v → kindOf x = some .local →
    bindL kindOf (P.zip vs) m x = some v
  | [], _, _, _, _, h, _, _ => by simp at h
  | _ :: _, [], _, _, _, _, h, _ => by simp at h
  | p :: P, w :: vs, 0, m, nd, h1, h2, hk => by
    simp at h1 h2; subst h1; subst h2
    show bindL kindOf ((p, w) :: P.zip vs) m p = _
    unfold bindL
    rw [bindL_out fun v hv => (List.nodup_cons.mp nd).1 (List.of_mem_zip hv).1, if_pos hk]
    simp
  | p :: P, w :: vs, i + 1, m, nd, h1, h2, hk => by
    show bindL kindOf ((p, w) :: P.zip vs) m x = _
    unfold bindL
    exact bindL_get (i := i) (List.nodup_cons.mp nd).2 (by simpa using h1) (by simpa using h2) hk
theorem bindC_get {kindOf : Str → Option NameKind} {x : Str} {v : Value} : ∀ {P : List Str} {vs : List Value} {i : Nat} {m : Str → Option Value}, P.Nodup → P[i]? = some x → vs[i]? = some v → kindOf x ≠ some .local →
    bindC kindOf (P.zip vs) m x = some v
  | [], _, _, _, _, h, _, _ => by simp at h
  | _ :: _, [], _, _, _, _, h, _ => by simp at h
  | p :: P, w :: vs, 0, m, nd, h1, h2, hk => by
    simp at h1 h2; subst h1; subst h2
    show bindC kindOf ((p, w) :: P.zip vs) m p = _
    unfold bindC
    rw [bindC_out fun v hv => (List.nodup_cons.mp nd).1 (List.of_mem_zip hv).1, if_neg hk]
    simp
  | p :: P, w :: vs, i + 1, m, nd, h1, h2, hk => by
    show bindC kindOf ((p, w) :: P.zip vs) m x = _
    unfold bindC
    exact bindC_get (i := i) (List.nodup_cons.mp nd).2 (by simpa using h1) (by simpa using h2) hk
def start (N : List Str) (vs : List V) : St := vs.map some ++ List.replicate (N.length - vs.length) none
def cxOf (CX : CXT) (P : Program) (w : World) (K : PySem.W.Frag) (mg : Str → Option Value) (base : Heap) (N : List Str) (qual : Str) (scope : Scope) (f : Addr) (cd : Value) (A : Around) (outer : List Env) (s : Shared) (H : Hp) (E : XK) : Cx where
  prog := P
  w := w
  K := K
  mg := mg
  base := base
  A := A.deeper (envOfC qual scope s.heap.objs.size f cd)
  N := N
  s₀ := s
  H₀ := H
  env := envOfC qual scope s.heap.objs.size f cd
  outer := outer
  stack := envOfC qual scope s.heap.objs.size f cd :: outer
  ex := []
  calm := true
  fn := fun _ => true
  pn := []
  xe := fun e s' => wpAny (model P w) (A.deeper (envOfC qual scope s.heap.objs.size f cd)) (leaving (envOfC qual scope s.heap.objs.size f cd) e) (fun _ s'' => CX outer H s E e s'') (fun e' s'' => CX outer H s E e' s'') s'
theorem cell_has {sc : Scope} {n : Nat} {x : Str} (h : sc.names.lookup x = some .cell) : ∃ c, (cellsFrom n sc.names []).lookup x = some c := by
  have q := PySem.W.cellsFrom_some sc.names n [] (.inl h)
  exact Option.isSome_iff_exists.mp q
theorem inv_start {CX : CXT} {P : Program} {w : World} {K : PySem.W.Frag} {mg : Str → Option Value} {base : Heap} {N ps : List Str} {qual : Str} {scope : Scope} {f : Addr} {cd : Value} {A : Around} {outer : List Env} {s s1 : Shared} {H : Hp} {E : XK} {us : List Value} {vs : List V}
    (S : FnScope N ps scope) (hd : A.handled = none) (e0 : Env0 P w K mg base A outer s H) (hl : vs.length = ps.length) (r : Vals vs us)
    (x : InCallC s s.heap.objs.size (bindL (envOfC qual scope s.heap.objs.size f cd).kindOf (ps.zip us) fun _ => none) (cellsFrom (s.heap.objs.size + 1) scope.names []) (bindC (envOfC qual scope s.heap.objs.size f cd).kindOf (ps.zip us) fun _ => none) s1) :
    Inv (cxOf CX P w K mg base N qual scope f cd A outer s H E) [] (start N vs) H s1 := by
  have hpl : ps.length ≤ N.length := by have := congrArg List.length S.pre; rw [List.length_take] at this; omega
  obtain ⟨h1, tk, rfl, hk⟩ := x.done
  have noA : ∀ b : Addr, b ∉ (cxOf CX P w K mg base N qual scope f cd A outer s H E).ex := fun b z => absurd (show b ∈ ([] : List Addr) from z) (by simp)
  refine ⟨⟨e0.mod, S.kind, rfl, rfl, Nat.le_refl _, fun y z c h1 h2 => ?_, fun y hy => ?_, fun y c _ h => ?_, fun _ => hd, Around.frames_deeper e0.frames, .inr ⟨rfl, rfl⟩, fun b z => absurd z (noA b), e0.bs, e0.bsz, fun b _ _ => noA b, fun b z => absurd z (noA b), e0.funs, e0.frf⟩,
    rfl, e0.bare, Un.kept hk, ⟨_, x.toInCall.ns, fun i y v h1 h2 h3 => ?_⟩, fun y c h => ⟨_, x.cell y c h⟩, e0.hok.fresh (Nat.le_refl _), fun y c h => ?_, fun p hp => absurd (show p ∈ ([] : List (Addr × Obj)) from hp) (by simp), e0.hok.kept hk, ?_⟩
  · exact name_of_addr x.apart (PySem.mem_of_lookup h1) (PySem.mem_of_lookup h2)
  · have hy : scope.names.lookup y = some .cell ∨ scope.names.lookup y = some .free := hy
    rcases hy with hy | hy
    · exact cell_has hy
    · exact absurd rfl (S.nofree _ (PySem.mem_of_lookup hy))
  · exact Nat.le_of_lt (x.above y c (PySem.mem_of_lookup h))
  · have hi : i < vs.length := by
      unfold start at h2
      by_cases hi : i < vs.length
      · exact hi
      · rw [List.getElem?_append_right (by simpa using hi)] at h2
        rw [List.getElem?_replicate] at h2
        split at h2 <;> cases h2
    have ha : vs[i]? = some v := by
      unfold start at h2
      rw [List.getElem?_append_left (by simpa using hi), List.getElem?_map] at h2
      cases e : vs[i]? with
      | none => rw [e] at h2; cases h2
      | some a => rw [e] at h2; cases h2; rfl
    obtain ⟨u, hu, rv⟩ := r.get ha
    have hp : ps[i]? = some y := by
      rw [← S.pre, List.getElem?_take_of_lt (by omega)]; exact h1
    have ndP : ps.Nodup := by rw [← S.pre]; exact S.nd.sublist (List.take_sublist _ _)
    refine ⟨u, rv, ?_⟩
    rcases S.par y (List.mem_of_getElem? hp) with k | k
    · exact .inl ⟨k, bindL_get ndP hp hu k⟩
    · obtain ⟨c, e⟩ := cell_has (n := s.heap.objs.size + 1) k
      refine .inr ⟨.inl k, c, e, ?_⟩
      have q := x.cell y c e
      rw [bindC_get ndP hp hu (by show scope.names.lookup y ≠ _; rw [k]; decide)] at q
      exact q
  · exact e0.hok.fresh (Nat.le_of_lt (x.above y c (PySem.mem_of_lookup h)))
  · unfold start
    show _ = N.length
    rw [List.length_append, List.length_map, List.length_replicate]
    omega
theorem fn_of {CX : CXT} {P : Program} {w : World} {K : PySem.W.Frag} {mg : Str → Option Value} {base : Heap} {k : Nat} {f : Addr} {name qual : Str} {params : Arguments} {body : List Stmt} {scope : Scope} {dV kV doc pm cdv ct oc : Value} {an od : Option Addr}
    {osl : Array (Option Value)} {N ps : List Str} {sp : Sp} (lk : K.lookup f = some ⟨oc, od, .func (PySem.W.fnOf name qual params body scope dV kV doc pm an cdv ct), osl⟩) (hcd : PySem.W.codeIn K cdv qual = true) (S : FnScope N ps scope)
    (len : ∀ vs H Q E, sp vs H Q E → vs.length = ps.length)
    (hbody : ∀ (A : Around) (outer : List Env) (s : Shared) (H : Hp) (vs : List V) (Q : VK) (E : XK), Room k (A.deeper (envOfC qual scope s.heap.objs.size f cdv)) → sp vs H Q E →
      ∃ t, PSs (cxOf CX P w K mg base N qual scope f cdv A outer s H E) body t ∧ t { nx := fun _ H' => Q .non H', rt := Q } (start N vs) H) :
    FnOk P w K mg base CX (k + 1) f (PySem.W.fnOf name qual params body scope dV kV doc pm an cdv ct) ps sp := by
  refine ⟨len, fun A outer s H args us vs Q E hr e0 hb r hsp => ?_⟩
  have hl := len _ _ _ _ hsp
  have KX : K.In s.heap := e0.mod.kin.keeps fun b o e => (e0.bs b o e).1
  have lim : s.heap.NoLimit := e0.mod.nolimit.keeps fun b o e => (e0.bs b o e).1
  have hkind : ∀ y ∈ ps.zip us, scope.names.lookup y.1 = some .local ∨ (scope.names.lookup y.1 = some .cell ∧ ((cellsFrom (s.heap.objs.size + 1) scope.names []).lookup y.1).isSome = true) := fun ⟨n, v⟩ hy => by
    rcases S.par n (List.of_mem_zip hy).1 with q | q
    · exact .inl q
    · exact .inr ⟨q, PySem.W.cellsFrom_some _ _ _ (.inl q)⟩
  refine codeAny_call_function hr.depth (KX _ _ lk) rfl S.co S.gen rfl (PySem.W.codeRec_of KX hcd) (hb _ _ _ _ ?_)
  refine wpAny_newFunctionEnv_cells S.kind hkind fun env he s1 x => ?_
  subst he
  refine ⟨lim.keeps x.toInCall.keep, codeAny_func ?_⟩
  obtain ⟨t, ht, hq⟩ := hbody A outer s H vs Q E (hr.deeper _) hsp
  have I : Inv (cxOf CX P w K mg base N qual scope f cdv A outer s H E) [] (start N vs) H s1 := inv_start S hr.hd e0 hl r x
  refine wpAny_mono (ht [] s1 (start N vs) H _ I hq) (fun fl s' hs => ?_) fun e s' hs => hs
  have fin : ∀ {σ' : St} {H' : Hp} {v : V} {u : Value}, Inv (cxOf CX P w K mg base N qual scope f cdv A outer s H E) [] σ' H' s' → RelV v u → Q v H' → CE outer P w H s Q u s' :=
    fun {σ' H' v u} J rv q => ⟨v, H', J.os, J.bare, J.base, J.hok, rv, q⟩
  cases fl with
  | ret u =>
    obtain ⟨v, σ', H', J, rv, q⟩ := hs
    exact fin J rv q
  | next =>
    obtain ⟨σ', H', J, q⟩ := hs
    exact fin (v := V.non) (u := Value.none) J rfl q
  | brk =>
    obtain ⟨_, _, _, q⟩ := hs
    exact False.elim q
  | cont =>
    obtain ⟨_, _, _, q⟩ := hs
    exact False.elim q
end L2
namespace L2
open PySem PySem.Spec PyProof.Rows
section
variable {X : Cx} {x : Str} {p pos : Pos} {e : Expr} {es : List Expr} {t : TA} {id T : String} {r : List V → Hp → VK → Prop}
def tCB (r : List V → Hp → VK → Prop) (t : TA) : TE := fun σ H Q => t σ H fun vs H1 => r vs H1 Q
theorem pe_callB (hc : CallR X (.builtin id) r) (hg : Gl X x) (hm : X.mg x = none) (hv : bootBuiltins x = some (.builtin id)) (ha : PA X (e :: es) t) (hn : x ≠ "__name__" := by decide) (hdb : (x == ("__debug__" : Str)) = false := by decide)
    (he : starEach (e :: es) X.env = (false, eval e X.env) :: starEach es X.env := by rfl) (hpl : (backTo pos (starEach es X.env)).any (·.1) = false := by rfl) : PE X (.Call (.Name x p) (e :: es) [] pos) (tCB r t) := by
  intro pins s σ H Q I h
  refine wpAny_Call_Name_kw (ld_blt I hg hm hv ?_ hn hdb)
  exact PyProof.Rows.callWith_builtin1 (thn (ha pos pins s σ H _ I h) fun us s1 ⟨vs, H1, I1, r1, q1⟩ => hc pins s1 σ H1 vs us Q I1 r1 q1) he hpl
theorem pe_callTy (hc : CallR X (.type T) r) (hg : Gl X x) (hm : X.mg x = none) (hv : bootBuiltins x = some (.type T)) (ha : PA X (e :: es) t) (hn : x ≠ "__name__" := by decide) (hdb : (x == ("__debug__" : Str)) = false := by decide)
    (he : starEach (e :: es) X.env = (false, eval e X.env) :: starEach es X.env := by rfl) (hpl : (backTo pos (starEach es X.env)).any (·.1) = false := by rfl) : PE X (.Call (.Name x p) (e :: es) [] pos) (tCB r t) := by
  intro pins s σ H Q I h
  refine wpAny_Call_Name_kw (ld_blt I hg hm hv ?_ hn hdb)
  exact PyProof.Rows.callWith_type1 (thn (ha pos pins s σ H _ I h) fun us s1 ⟨vs, H1, I1, r1, q1⟩ => hc pins s1 σ H1 vs us Q I1 r1 q1) he hpl
end
end L2
namespace L2
open PySem PySem.Spec PyProof.Rows
abbrev TO := St → Hp → (Option Int → Hp → Prop) → Prop
theorem intsAre_of {ns : List Int} : ∀ {us : List Value}, Vals (ns.map V.int) us → IntsAre us ns := by
  induction ns with
  | nil => intro us r; rw [List.map_nil] at r; cases r; exact .nil
  | cons n ns ih =>
    intro us r
    rw [List.map_cons] at r
    cases r with
    | cons r1 r2 =>
      obtain ⟨t, e⟩ := r1
      subst e
      exact .cons n t (ih r2)
end L2
namespace L2
open PySem PySem.Spec PyProof.Rows
def ixN (n : Nat) (i : Int) : Option Nat := if 0 ≤ i then (if i < n then some i.toNat else none) else if -(n : Int) ≤ i then some (i + n).toNat else none
def atI {α : Type} (xs : List α) (i : Int) : Option α := (ixN xs.length i).bind fun j => xs[j]?
theorem ixN_seq {n : Nat} {i : Int} {j : Nat} (h : ixN n i = some j) : seqIndex? i n = some j ∧ j < n ∧ -(n : Int) ≤ i ∧ i < n := by
  unfold ixN at h
  by_cases h0 : 0 ≤ i
  · rw [if_pos h0] at h
    by_cases h1 : i < n
    · rw [if_pos h1] at h
      have e : i.toNat = j := Option.some.inj h
      exact ⟨by rw [seqIndex_of h0 h1, e], by omega, by omega, h1⟩
    · rw [if_neg h1] at h; cases h
  · rw [if_neg h0] at h
    by_cases h1 : -(n : Int) ≤ i
    · rw [if_pos h1] at h
      have e : (i + n).toNat = j := Option.some.inj h
      exact ⟨by rw [seqIndex_neg (by omega) h1, e], by omega, h1, by omega⟩
    · rw [if_neg h1] at h; cases h
theorem atI_get {α : Type} {xs : List α} {i : Int} {v : α} (h : atI xs i = some v) : ∃ j, seqIndex? i xs.length = some j ∧ xs[j]? = some v ∧ j < xs.length ∧ -(xs.length : Int) ≤ i ∧ i < xs.length := by
  unfold atI at h
  cases e : ixN xs.length i with
  | none => rw [e] at h; cases h
  | some j =>
    rw [e] at h
    obtain ⟨h1, h2, h3, h4⟩ := ixN_seq e
    exact ⟨j, h1, h, h2, h3, h4⟩
theorem atI_nat {α : Type} {xs : List α} {j : Nat} {v : α} (h : xs[j]? = some v) : atI xs (j : Int) = some v := by
  have hj : j < xs.length := (List.getElem?_eq_some_iff.mp h).1
  have e : ixN xs.length (j : Int) = some j := by
    unfold ixN
    rw [if_pos (by omega), if_pos (by omega)]; simp
  unfold atI; rw [e]; exact h
theorem atI_last {α : Type} (xs : List α) (v : α) : atI (xs ++ [v]) (-1) = some v := by
  have hl : (xs ++ [v]).length = xs.length + 1 := by simp
  have e : ixN (xs ++ [v]).length (-1) = some xs.length := by
    unfold ixN
    rw [hl, if_neg (by decide), if_pos (by omega)]
    congr 1
    omega
  unfold atI
  rw [e]
  show (xs ++ [v])[xs.length]? = some v
  simp
def PlainIx (b : Expr) : Prop := ∀ o i, subscripted b false o i = operate [o, i] (getItem o i)
def IxR (X : Cx) (r : R2) : Prop :=
  ∀ (value slice : Expr) (pins : List (Addr × Obj)) (s : Shared) (σ : St) (H : Hp) (x y : V) (v u : Value) (Q : VK), Inv X pins σ H s → RelV x v → RelV y u → r x y H Q →
    subscripted slice false v u = operate [v, u] (getItem v u) → wpAny (model X.prog X.w) X.A (subscriptTail value slice v u) (EP X pins σ Q) X.xe s
def MtR (X : Cx) (id : String) (r : V → List V → Hp → VK → Prop) : Prop :=
  ∀ (pins : List (Addr × Obj)) (s : Shared) (σ : St) (H : Hp) (x : V) (xs : List V) (v : Value) (us : List Value) (Q : VK), Inv X pins σ H s → RelV x v → Vals xs us → r x xs H Q →
    wpAny (model X.prog X.w) X.A (call (.builtin id) (v :: us)) (EP X pins σ Q) X.xe s
section
variable {X : Cx} {a b : Expr} {ta tb : TE} {pos : Pos}
theorem pe_ix {r : R2} (hr : IxR X r) (ha : PE X a ta) (hb : PE X b tb) (hs : PlainIx b) : PE X (.Subscript a b pos) (tOp r ta tb) := by
  intro pins s σ H Q I h
  exact Subscript_ (binT ha hb I h fun v u s2 x y H2 I2 rx ry q => hr a b pins s2 σ H2 x y v u Q I2 rx ry q (hs _ _))
def rIxL (K : PySem.W.Frag) : R2 := fun x y H Q => ∃ p xs i v, x = .ref p ∧ y = .int i ∧ SqL K H p xs ∧ atI xs i = some v ∧ Q v H
def rIxT (K : PySem.W.Frag) : R2 := fun x y H Q => ∃ p xs i v, x = .ref p ∧ y = .int i ∧ SqT K H p xs ∧ atI xs i = some v ∧ Q v H
def rIxS : R2 := fun x y H Q => ∃ z i c, x = .str z ∧ y = .int i ∧ z.length ≤ sizeLine ∧ atI z.cps.toList i = some c ∧ Q (.str ⟨#[c]⟩) H
theorem ix_list : IxR X (rIxL X.K) := by
  intro value slice pins s σ H x y v u Q I rx ry h hs
  obtain ⟨p, xs, i, z, rfl, rfl, hq, he, q⟩ := h
  cases rx
  obtain ⟨t, rfl⟩ := ry
  obtain ⟨its, r, pl, hz⟩ := I.list hq
  obtain ⟨j, h1, h2, h3, h4, h5⟩ := atI_get he
  obtain ⟨w, ew, rw'⟩ := r.get h2
  have hl := r.length
  have hn := line63
  have fin : EP X pins σ Q w s := ⟨z, H, I, rw', q⟩
  by_cases h0 : 0 ≤ i
  · have hj : i.toNat = j := by
      rw [seqIndex_of h0 h5] at h1
      exact Option.some.inj h1
    exact item_listR pl.isList h0 (by omega) (by rw [hj]; simpa using ew) fin hs
  · have hj : (i + (its.toArray.size : Int)).toNat = j := by
      rw [seqIndex_neg (by omega) h4] at h1
      rw [List.size_toArray, ← hl]
      exact Option.some.inj h1
    exact subscriptTail_builtinR (x := w) pl.isList.typeIs slot_list_getitem.lookup
      (wpAny_getItem_list_neg (Q := fun r s' => r = w ∧ EP X pins σ Q r s') pl.isList (by omega) (by rw [List.size_toArray] <;> omega) (by omega) (by rw [hj]; simpa using ew) ⟨rfl, fin⟩) hs
theorem ix_tup : IxR X (rIxT X.K) := by
  intro value slice pins s σ H x y v u Q I rx ry h hs
  obtain ⟨p, xs, i, z, rfl, rfl, hq, he, q⟩ := h
  cases rx
  obtain ⟨t, rfl⟩ := ry
  obtain ⟨its, r, pl, hz⟩ := I.tuple hq
  obtain ⟨j, h1, h2, h3, h4, h5⟩ := atI_get he
  obtain ⟨w, ew, rw'⟩ := r.get h2
  have hl := r.length
  have hn := line63
  have fin : EP X pins σ Q w s := ⟨z, H, I, rw', q⟩
  exact subscriptTail_builtinR (x := w) pl.typeIs slot_tuple_getitem.lookup
    (getItem_tuple (j := j) (Q := fun r s' => r = w ∧ EP X pins σ Q r s') pl (by omega) (by omega) (by rw [List.size_toArray, ← hl]; exact h1) (by simpa using ew) ⟨rfl, fin⟩) hs
theorem ix_str : IxR X rIxS := by
  intro value slice pins s σ H x y v u Q I rx ry h hs
  obtain ⟨z, i, c, rfl, rfl, hz, he, q⟩ := h
  obtain ⟨t, rfl⟩ := rx
  obtain ⟨t', rfl⟩ := ry
  obtain ⟨j, h1, h2, h3, h4, h5⟩ := atI_get he
  have hl : z.cps.toList.length = z.length := by simp [Str.length]
  rw [hl] at h1 h4 h5
  have hn := line63
  exact tail_any (typeIs_str s z t) slot_str_getitem.lookup (getItem_str (c := c) (by
    have e1 : decide (i < -(2 ^ 63 : Int)) = false := decide_eq_false (by omega)
    have e2 : decide (i ≥ 2 ^ 63) = false := decide_eq_false (by omega)
    rw [e1, e2, Bool.or_false]) (by rw [h1]; simpa using h2) ⟨.str ⟨#[c]⟩, H, I.tok _, ⟨_, rfl⟩, q⟩) hs
theorem Inv.lst {pins : List (Addr × Obj)} {σ : St} {H : Hp} {s : Shared} {p : Addr} {xs : List V} (I : Inv X pins σ H s) (h : H p = some (.lst xs)) :
    ∃ (its : List Value) (n : Nat), Vals xs its ∧ s.heap.get? p = some { cls := .type "list", data := .seq its.toArray n } ∧ xs.length ≤ sizeLine := by
  obtain ⟨z, its, n, r, e⟩ := I.hok p _ h
  exact ⟨its, n, r, e, z⟩
def flatV : V → Bool
  | .non => true
  | .bl _ => true
  | .int _ => true
  | .str _ => true
  | _ => false
def eqV : V → V → Bool
  | .non, .non => true
  | .bl a, .bl b => a == b
  | .bl a, .int b => (if a then 1 else 0) == b
  | .int a, .bl b => a == (if b then 1 else 0)
  | .int a, .int b => a == b
  | .str a, .str b => a == b
  | _, _ => false
theorem eqAt_V {A : Around} {s : Shared} {y x : V} {u v : Value} (ry : RelV y u) (rx : RelV x v) (fy : flatV y = true) (fx : flatV x = true) : SeqAt.EqAt A s u v (eqV y x) := by
  cases y with
  | non =>
    cases ry
    cases x with
    | non => cases rx; exact SeqAt.EqAt.same _
    | bl b => cases rx; exact SeqAt.EqAt.none_bool b
    | int b => obtain ⟨t, rfl⟩ := rx; exact SeqAt.EqAt.none_int b t
    | str b => obtain ⟨t, rfl⟩ := rx; exact SeqAt.EqAt.none_str b t
    | _ => exact absurd (show false = true from fx) Bool.false_ne_true
  | bl a =>
    cases ry
    cases x with
    | non => cases rx; exact SeqAt.EqAt.bool_none a
    | bl b => cases rx; exact SeqAt.EqAt.bool_bool a b
    | int b => obtain ⟨t, rfl⟩ := rx; exact SeqAt.EqAt.bool_int a b t
    | str b => obtain ⟨t, rfl⟩ := rx; exact SeqAt.EqAt.bool_str a b t
    | _ => exact absurd (show false = true from fx) Bool.false_ne_true
  | int a =>
    obtain ⟨t', rfl⟩ := ry
    cases x with
    | non => cases rx; exact SeqAt.EqAt.int_none a t'
    | bl b => cases rx; exact SeqAt.EqAt.int_bool a t' b
    | int b => obtain ⟨t, rfl⟩ := rx; exact SeqAt.EqAt.int_int a t' b t
    | str b => obtain ⟨t, rfl⟩ := rx; exact SeqAt.EqAt.int_str a t' b t
    | _ => exact absurd (show false = true from fx) Bool.false_ne_true
  | str a =>
    obtain ⟨t', rfl⟩ := ry
    cases x with
    | non => cases rx; exact SeqAt.EqAt.str_none a t'
    | bl b => cases rx; exact SeqAt.EqAt.str_bool a t' b
    | int b => obtain ⟨t, rfl⟩ := rx; exact SeqAt.EqAt.str_int a t' b t
    | str b => obtain ⟨t, rfl⟩ := rx; exact SeqAt.EqAt.str_str a t' b t
    | _ => exact absurd (show false = true from fx) Bool.false_ne_true
  | _ => exact absurd (show false = true from fy) Bool.false_ne_true
theorem call_len_seq : CallR X (.builtin "len") (fun xs H Q => ∃ p ys, xs = [.ref p] ∧ (SqL X.K H p ys ∨ SqT X.K H p ys) ∧ Q (.int ys.length) H) := by
  intro pins s σ H xs us Q I r h
  obtain ⟨p, ys, rfl, hq, q⟩ := h
  obtain ⟨u, rfl, rx⟩ := vals1 r
  cases rx
  have hn := line63
  rcases hq with hq | hq
  · obtain ⟨its, r', pl, hz⟩ := I.list hq
    have hlen := r'.length
    exact Calls.call_len_list pl.isList (by simp only [List.size_toArray] <;> omega) ⟨.int ys.length, H, I.tok _, ⟨s.toks + 1, by rw [List.size_toArray, hlen]⟩, q⟩
  · obtain ⟨its, r', pl, hz⟩ := I.tuple hq
    have hlen := r'.length
    exact len_tuple pl (by simp only [List.size_toArray] <;> omega) ⟨.int ys.length, H, I.tok _, ⟨s.toks + 1, by rw [List.size_toArray, hlen]⟩, q⟩
theorem call_list_of : CallR X (.type "list") (fun xs H Q => ∃ p ys, xs = [.ref p] ∧ (SqL X.K H p ys ∨ SqT X.K H p ys) ∧ ∀ l, H l = none → Q (.ref l) (upd H l (.lst ys))) := by
  intro pins s σ H xs us Q I r h
  obtain ⟨p, ys, rfl, hq, q⟩ := h
  obtain ⟨u, rfl, rx⟩ := vals1 r
  cases rx
  have fin : ∀ (its : List Value), Vals ys its → ys.length ≤ sizeLine → ∀ (h' : Heap) (c' : Nat), (∀ b o', s.heap.get? b = some o' → h'.get? b = some o') →
      h'.get? s.heap.objs.size = some { cls := .type "list", dict := none, data := .seq its.toArray c', slots := #[] } → EP X pins σ Q (.ref s.heap.objs.size) { s with heap := h' } := fun its r' hz h' c' kp e =>
    ⟨.ref s.heap.objs.size, _, I.laid (t' := s.toks) kp (Nat.le_refl _) (show ObjOk X.prog X.w _ h' _ (.lst ys) from ⟨hz, its, c', r', e⟩), rfl, q _ (I.hok.fresh (Nat.le_refl _))⟩
  rcases hq with hq | hq
  · obtain ⟨its, r', pl, hz⟩ := I.list hq
    have hlen := r'.length
    obtain ⟨o, ho, hc, n, hd⟩ := pl.isList
    exact call_list_seq p (.inl rfl) ho hc hd (fun h' c' kp e => fin its r' hz h' c' kp e) (by simp only [List.size_toArray] <;> omega)
  · obtain ⟨its, r', pl, hz⟩ := I.tuple hq
    have hlen := r'.length
    obtain ⟨o, ho, hc, n, hd⟩ := pl
    exact call_list_seq p (.inr rfl) ho hc hd (fun h' c' kp e => fin its r' hz h' c' kp e) (by simp only [List.size_toArray] <;> omega)
def tyV (K : PySem.W.Frag) (T : String) (x : V) (H : Hp) : Prop := match x with
  | .str _ => T = "str"
  | .int _ => T = "int"
  | .ref p => (T = "list" ∧ ∃ xs, SqL K H p xs) ∨ (T = "tuple" ∧ ∃ o, K.lookup p = some o ∧ o.cls = .type "tuple" ∧ o.dict = none) ∨
      (T = "dict" ∧ ((∃ kvs, H p = some (.dK kvs)) ∨ ∃ kvs, H p = some (.dT kvs))) ∨ (T = "set" ∧ ∃ S n, H p = some (.set S n))
  | _ => False
theorem tyV_is {pins : List (Addr × Obj)} {σ : St} {H : Hp} {s : Shared} {T : String} {x : V} {v : Value} (I : Inv X pins σ H s) (r : RelV x v) (ty : tyV X.K T x H) :
    s.TypeIs v T ∧ ∀ a, v = .ref a → ∃ ob, s.heap.get? a = some ob ∧ ob.dict = none := by
  cases x with
  | str z =>
    obtain ⟨t, rfl⟩ := r
    cases (show T = "str" from ty)
    exact ⟨typeIs_str s z t, fun _ e => nomatch e⟩
  | int i =>
    obtain ⟨t, rfl⟩ := r
    cases (show T = "int" from ty)
    exact ⟨typeIs_int s i t, fun _ e => nomatch e⟩
  | ref p =>
    cases r
    rcases ty with ⟨rfl, xs, hq⟩ | ⟨rfl, o, hk, hc, hd⟩ | ⟨rfl, hk⟩ | ⟨rfl, S, n, hk⟩
    · obtain ⟨its, _, pl, _⟩ := I.list hq
      refine ⟨pl.isList.typeIs, fun a e => ?_⟩
      cases e
      obtain ⟨o, n, e, c, hd, _⟩ := pl
      exact ⟨o, e, hd⟩
    · refine ⟨⟨o, I.kIn p o hk, hc⟩, fun a e => ?_⟩
      cases e
      exact ⟨o, I.kIn _ o hk, hd⟩
    · have z : ∃ o, s.heap.get? p = some o ∧ o.ExactDict := by
        rcases hk with ⟨kvs, hk⟩ | ⟨kvs, hk⟩
        · obtain ⟨_, _, _, _, o, _, _, e, ex, _⟩ := I.hok p _ hk
          exact ⟨o, e, ex⟩
        · obtain ⟨_, _, _, _, o, _, _, e, ex, _⟩ := I.hok p _ hk
          exact ⟨o, e, ex⟩
      obtain ⟨o, e, ex⟩ := z
      refine ⟨⟨o, e, ex.1⟩, fun a e2 => ?_⟩
      cases e2
      exact ⟨o, e, ex.2.1⟩
    · obtain ⟨o, _, _, _, e, ex, _⟩ := I.hok p _ hk
      refine ⟨⟨o, e, ex.1⟩, fun a e2 => ?_⟩
      cases e2
      exact ⟨o, e, ex.2.1⟩
  | _ => exact False.elim ty
def tBM0 (K : PySem.W.Frag) (T : String) (r : V → List V → Hp → VK → Prop) (to : TE) : TE := fun σ H Q => to σ H fun x H1 => tyV K T x H1 ∧ r x [] H1 Q
def tBM (K : PySem.W.Frag) (T : String) (r : V → List V → Hp → VK → Prop) (to : TE) (t : TA) : TE := fun σ H Q => to σ H fun x H1 => tyV K T x H1 ∧ t σ H1 fun xs H2 => r x xs H2 Q
variable {o e : Expr} {es : List Expr} {to : TE} {t : TA} {name : Str} {apos cpos : Pos} {T id : String} {r : V → List V → Hp → VK → Prop}
theorem pe_bm0 (pa : PlainAttrs T) (slot : Slot T name id) (hty : typeOf (.builtin id) = pure (.type "method_descriptor")) (hm : MtR X id r) (ho : PE X o to)
    (hbase : attributeBase o name X.env (eval o X.env) = eval o X.env := by rfl) (hline : (apos.endLine == cpos.line) = true := by rfl) : PE X (.Call (.Attribute o name apos) [] [] cpos) (tBM0 X.K T r to) := by
  intro pins s σ H Q I h
  refine wpAny_Call_method0_late hbase hline (thn (ho pins s σ H _ I h) fun v s1 ⟨x, H1, I1, r1, ty, q1⟩ => ?_)
  obtain ⟨h1, h2⟩ := tyV_is I1 r1 ty
  exact ⟨T, id, pa, slot, hty, h1, h2, Calls.callWith_builtin rfl (PySem.evalArgs_none (hm pins s1 σ H1 x [] v [] Q I1 r1 .nil q1))⟩
theorem pe_bm (pa : PlainAttrs T) (slot : Slot T name id) (hty : typeOf (.builtin id) = pure (.type "method_descriptor")) (hm : MtR X id r) (ho : PE X o to) (ha : PA X (e :: es) t)
    (hbase : attributeBase o name X.env (eval o X.env) = eval o X.env := by rfl)
    (hfew : ((backTo cpos (starEach (e :: es) X.env)).all (fun x => !x.1) && (backToKw cpos (keywordEach [] X.env)).all (fun x => x.1.isSome)
      && decide ((e :: es).length + ([] : List Keyword).length + (if ([] : List Keyword).isEmpty then 0 else 1) < 30)) = true := by rfl)
    (hline : (apos.endLine == cpos.line) = true := by rfl) (hs : starEach (e :: es) X.env = (false, eval e X.env) :: starEach es X.env := by rfl) (hplain : (backTo cpos (starEach es X.env)).any (·.1) = false := by rfl) :
    PE X (.Call (.Attribute o name apos) (e :: es) [] cpos) (tBM X.K T r to t) := by
  intro pins s σ H Q I h
  refine wpAny_Call_method_late hbase hfew hline rfl (thn (ho pins s σ H _ I h) fun v s1 ⟨x, H1, I1, r1, ty, q1⟩ => ?_)
  obtain ⟨h1, h2⟩ := tyV_is I1 r1 ty
  refine ⟨T, id, pa, slot, hty, h1, h2, ?_⟩
  have hA := ha cpos pins s1 σ H1 _ I1 q1
  rw [hs] at hA ⊢
  refine Calls.callWith_builtin (by show (false || (backTo cpos (starEach es X.env)).any (·.1)) = false; rw [hplain] <;> rfl) (Calls.evalArgs_plain ?_)
  exact thn hA fun us s2 ⟨vs, H2, I2, r2, q2⟩ => hm pins s2 σ H2 x vs v us Q I2 r1 r2 q2
end
end L2
namespace L2
open PySem PySem.Spec PyProof.Rows
def MtM (X : Cx) (id : String) (r : V → List V → Hp → VK → Prop) : Prop :=
  ∀ (pins : List (Addr × Obj)) (s : Shared) (σ : St) (H : Hp) (x : V) (xs : List V) (v : Value) (us : List Value) (Q : VK), Inv X pins σ H s → RelV x v → Vals xs us → r x xs H Q →
    wpAny (model X.prog X.w) X.A (call (.builtin id) (v :: us)) (EP X pins σ Q) X.xe s
theorem Vals.one : ∀ {x : V} {us : List Value}, Vals [x] us → ∃ u, us = [u] ∧ RelV x u
  | _, _, .cons r .nil => ⟨_, rfl, r⟩
theorem Vals.zero : ∀ {us : List Value}, Vals [] us → us = []
  | _, .nil => rfl
theorem Vals.eraseIdx : ∀ {xs : List V} {us : List Value} (i : Nat), Vals xs us → Vals (xs.eraseIdx i) (us.eraseIdx i)
  | _, _, _, .nil => .nil
  | _, _, 0, .cons _ t => t
  | _, _, i + 1, .cons r t => .cons r (Vals.eraseIdx i t)
theorem Vals.reverse {xs : List V} {us : List Value} (h : Vals xs us) : Vals xs.reverse us.reverse := by
  induction h with
  | nil => exact .nil
  | cons r t ih => rw [List.reverse_cons, List.reverse_cons]; exact Vals.append ih (.cons r .nil)
section
variable {X : Cx} {pins : List (Addr × Obj)} {σ : St} {H : Hp} {s : Shared} {l b : Addr} {xs ys zs : List V}
theorem Inv.lset {its its' : List Value} {n : Nat} {f : Array Value → Array Value} {t' : Nat} (I : Inv X pins σ H s) (hH : H l = some (.lst xs))
    (e : s.heap.get? l = some { cls := .type "list", data := .seq its.toArray n }) (hf : f its.toArray = its'.toArray) (hv : Vals ys its') (hz : ys.length ≤ sizeLine) :
    Inv X pins σ (upd H l (.lst ys)) { s with heap := s.heap.update l (Obj.mapSeq f), toks := t' } := by
  have q := PySem.IsL.update e f
  rw [hf] at q
  refine I.write (x := l) (e := l) (by rw [hH]; exact trivial) (.inl rfl) (fun b' u hb hu => (Heap.get?_update_other s.heap (Obj.mapSeq f) (Ne.symm hb)).trans hu) ⟨_, q⟩ ?_
  exact ⟨hz, its', _, hv, q⟩
theorem Inv.lnew {its : List Value} {t' : Nat} (I : Inv X pins σ H s) (hv : Vals ys its) (hz : ys.length ≤ sizeLine) :
    Inv X pins σ (upd H s.heap.objs.size (.lst ys)) { s with heap := s.heap.push { cls := .type "list", data := .seq its.toArray }, toks := t' } :=
  I.laid (fun _ _ q => Heap.get?_push_of_some _ q) (Nat.le_refl _) ⟨hz, its, 0, hv, Heap.get?_push_size _ rfl⟩
theorem Inv.fresh (I : Inv X pins σ H s) : H s.heap.objs.size = none := I.hok.fresh (Nat.le_refl _)
theorem Inv.lstM (I : Inv X pins σ H s) (hH : H l = some (.lst xs)) : xs.length ≤ sizeLine ∧ ∃ (its : List Value) (n : Nat), Vals xs its ∧ xs.length = its.length ∧ s.heap.get? l = some { cls := .type "list", data := .seq its.toArray n } := by
  obtain ⟨z, its, n, r, e⟩ := I.hok l _ hH
  exact ⟨z, its, n, r, r.length, e⟩
theorem notLongL {n : Nat} (h : n ≤ sizeLine) : Builtin.List.listTooLong n = false := by
  unfold Builtin.List.listTooLong
  exact decide_eq_false (by omega)
end
section
variable {X : Cx}
def rAppend : V → List V → Hp → VK → Prop := fun x vs H Q => ∃ l xs y, x = .ref l ∧ vs = [y] ∧ H l = some (.lst xs) ∧ xs.length < sizeLine ∧ Q .non (upd H l (.lst (xs ++ [y])))
theorem mt_append : MtM X "list.append" rAppend := by
  intro pins s σ H x vs v us Q I rx rv h
  obtain ⟨l, xs, y, rfl, rfl, hH, hz, q⟩ := h
  cases rx
  obtain ⟨u, rfl, ru⟩ := rv.one
  obtain ⟨z, its, n, r, hl, e⟩ := I.lstM hH
  refine call_meets F.slot_list_append ⟨_, e, rfl⟩ F.entry_list_append (F.args_list_append_2 _ _) (PySem.list_append l its.toArray n u (by rw [List.size_toArray]; omega)) ⟨e, ?_⟩
  refine ⟨.non, _, I.lset (its' := its ++ [u]) hH e (by simp) (r.append (.cons ru .nil)) ?_, rfl, q⟩
  rw [List.length_append, List.length_singleton]
  omega
def rExtend : V → List V → Hp → VK → Prop := fun x vs H Q => ∃ l b xs zs, x = .ref l ∧ vs = [.ref b] ∧ H l = some (.lst xs) ∧ H b = some (.lst zs) ∧ xs.length + zs.length ≤ sizeLine ∧ Q .non (upd H l (.lst (xs ++ zs)))
theorem mt_extend : MtM X "list.extend" rExtend := by
  intro pins s σ H x vs v us Q I rx rv h
  obtain ⟨l, b, xs, zs, rfl, rfl, hH, hB, hz, q⟩ := h
  cases rx
  obtain ⟨u, rfl, ru⟩ := rv.one
  cases ru
  obtain ⟨z, its, n, r, hl, e⟩ := I.lstM hH
  obtain ⟨z2, its2, n2, r2, hl2, e2⟩ := I.lstM hB
  have hsz : its.toArray.size + its2.toArray.size ≤ sizeLine := by rw [List.size_toArray, List.size_toArray]; omega
  have hlong : ¬ (!its.toArray.isEmpty && Builtin.List.listTooLong (its.toArray.size + its2.toArray.size)) = true := by
    rw [notLongL hsz, Bool.and_false]
    exact Bool.false_ne_true
  refine call_meets F.slot_list_extend ⟨_, e, rfl⟩ F.entry_list_extend (F.args_list_extend_2 _ _)
    (AutoSeq1.list_extend_list_list_0 l its.toArray n b its2.toArray n2 hlong (by rw [List.size_toArray]; omega) (by omega)) ⟨e, e2, ?_⟩
  refine ⟨.non, _, I.lset (its' := its ++ its2) hH e (by simp) (r.append r2) ?_, rfl, q⟩
  rw [List.length_append]
  omega
def rCat : R2 := fun x y H Q => ∃ l b xs zs, x = .ref l ∧ y = .ref b ∧ H l = some (.lst xs) ∧ H b = some (.lst zs) ∧ xs.length + zs.length ≤ sizeLine ∧ ∀ p, H p = none → Q (.ref p) (upd H p (.lst (xs ++ zs)))
theorem op_cat : OpR X (binaryOp .Add) rCat := by
  intro pins s σ H x y v u Q I rx ry h
  obtain ⟨l, b, xs, zs, rfl, rfl, hH, hB, hz, q⟩ := h
  cases rx
  cases ry
  obtain ⟨z, its, n, r, hl, e⟩ := I.lstM hH
  obtain ⟨z2, its2, n2, r2, hl2, e2⟩ := I.lstM hB
  refine PySem.P.add_list e e2 ?_ (by rw [List.size_toArray, List.size_toArray]; omega)
  have ea : its.toArray ++ its2.toArray = (its ++ its2).toArray := by simp
  rw [ea]
  exact ⟨.ref _, _, I.lnew (t' := s.toks) (r.append r2) (by rw [List.length_append]; omega), rfl, q _ I.fresh⟩
end
end L2
namespace L2
open PySem PySem.Spec PyProof.Rows
section
variable {κ : Type} [DecidableEq κ]
def valV (kvs : List (κ × V)) (k : κ) : Option V := (kvs.find? fun kv => decide (kv.1 = k)).map (·.2)
def putK (kvs : List (κ × V)) (k : κ) (v : V) : List (κ × V) :=
  if (kvs.any fun kv => decide (kv.1 = k)) = true then kvs.map (fun kv => if kv.1 = k then (kv.1, v) else kv) else kvs ++ [(k, v)]
def dropK (kvs : List (κ × V)) (k : κ) : List (κ × V) := kvs.filter fun kv => decide (kv.1 ≠ k)
theorem valV_nil {k : κ} : valV ([] : List (κ × V)) k = none := rfl
theorem valV_pos {p : κ × V} {r : List (κ × V)} {k : κ} (e : p.1 = k) : valV (p :: r) k = some p.2 := by simp [valV, List.find?_cons, e]
theorem valV_neg {p : κ × V} {r : List (κ × V)} {k : κ} (e : ¬ p.1 = k) : valV (p :: r) k = valV r k := by simp [valV, List.find?_cons, e]
theorem valV_any (k : κ) : ∀ kvs : List (κ × V), (kvs.any fun kv => decide (kv.1 = k)) = (valV kvs k).isSome
  | [] => rfl
  | p :: r => by
    rw [List.any_cons]
    by_cases e : p.1 = k
    · simp only [valV_pos e, decide_eq_true e, Bool.true_or, Option.isSome_some]
    · rw [valV_neg e, decide_eq_false e, Bool.false_or]; exact valV_any k r
theorem valV_map (k j : κ) (y : V) : ∀ kvs : List (κ × V), valV (kvs.map fun kv => if kv.1 = k then (kv.1, y) else kv) j = (valV kvs j).map fun x => if j = k then y else x
  | [] => rfl
  | p :: r => by
    have ih := valV_map k j y r
    rw [List.map_cons]
    by_cases h : p.1 = k
    · rw [if_pos h]
      by_cases e : p.1 = j
      · rw [valV_pos (p := (p.1, y)) e, valV_pos e, Option.map_some, if_pos (e.symm.trans h)]
      · rw [valV_neg (p := (p.1, y)) e, valV_neg e, ih]
    · rw [if_neg h]
      by_cases e : p.1 = j
      · rw [valV_pos (p := p) e, valV_pos e, Option.map_some, if_neg (fun z => h (e.trans z))]
      · rw [valV_neg (p := p) e, valV_neg e, ih]
theorem valV_snoc (k j : κ) (y : V) : ∀ kvs : List (κ × V), valV kvs k = none → valV (kvs ++ [(k, y)]) j = if j = k then some y else valV kvs j
  | [], _ => by
    by_cases e : k = j
    · rw [if_pos e.symm]; exact valV_pos (p := (k, y)) e
    · rw [if_neg (fun z => e z.symm)]; exact valV_neg (p := (k, y)) e
  | p :: r, hn => by
    rw [List.cons_append]
    have hk : ¬ p.1 = k := fun z => by rw [valV_pos z] at hn; cases hn
    rw [valV_neg hk] at hn
    have ih := valV_snoc k j y r hn
    by_cases e : p.1 = j
    · rw [valV_pos e, valV_pos e, if_neg (fun z => hk (e.trans z))]
    · rw [valV_neg e, valV_neg e, ih]
theorem valV_put (kvs : List (κ × V)) (k j : κ) (y : V) : valV (putK kvs k y) j = if j = k then some y else valV kvs j := by
  unfold putK
  by_cases a : (kvs.any fun kv => decide (kv.1 = k)) = true
  · rw [if_pos a, valV_map]
    rw [valV_any] at a
    by_cases e : j = k
    · obtain ⟨x, hx⟩ := Option.isSome_iff_exists.mp a
      rw [if_pos e, e, hx, Option.map_some, if_pos rfl]
    · rw [if_neg e]
      cases valV kvs j with
      | none => rfl
      | some x => rw [Option.map_some, if_neg e]
  · rw [if_neg a]
    refine valV_snoc k j y kvs ?_
    rw [valV_any] at a
    cases q : valV kvs k with
    | none => rfl
    | some x => rw [q] at a; exact (a rfl).elim
theorem length_putK (kvs : List (κ × V)) (k : κ) (v : V) : (putK kvs k v).length ≤ kvs.length + 1 := by
  unfold putK
  split
  · rw [List.length_map]; omega
  · rw [List.length_append, List.length_cons, List.length_nil]; omega
theorem RelO.isSome_eq {o : Option V} {u : Option Value} (r : RelO o u) : o.isSome = u.isSome := by
  cases o with
  | none => cases u with
    | none => rfl
    | some _ => exact (show False from r).elim
  | some _ => cases u with
    | none => exact (show False from r).elim
    | some _ => rfl
theorem RelO.getD {o : Option V} {u : Option Value} {d : V} {d' : Value} (r : RelO o u) (rd : RelV d d') : RelV (o.getD d) (u.getD d') := by
  cases o with
  | none => cases u with
    | none => exact rd
    | some _ => exact (show False from r).elim
  | some _ => cases u with
    | none => exact (show False from r).elim
    | some _ => exact r
theorem KV.val {kvs : List (κ × V)} {vs : List (κ × Value)} (r : KV kvs vs) (k : κ) : RelO (valV kvs k) (valueAt vs k) := by
  unfold KV at r
  induction r with
  | nil => exact True.intro
  | @cons p q ps qs h t ih =>
    obtain ⟨h1, h2⟩ := h
    by_cases e : p.1 = k
    · have e' : q.1 = k := h1.symm.trans e
      have b : valueAt (q :: qs) k = some q.2 := by simp [valueAt, List.find?_cons, e']
      rw [valV_pos e, b]; exact h2
    · have e' : ¬ q.1 = k := fun z => e (h1.trans z)
      have b : valueAt (q :: qs) k = valueAt qs k := by simp [valueAt, List.find?_cons, e']
      rw [valV_neg e, b]; exact ih
theorem KV.any {kvs : List (κ × V)} {vs : List (κ × Value)} (r : KV kvs vs) (k : κ) : (kvs.any fun kv => decide (kv.1 = k)) = vs.any fun kv => decide (kv.1 = k) := by
  unfold KV at r
  induction r with
  | nil => rfl
  | cons h t ih => rw [List.any_cons, List.any_cons, ih, h.1]
theorem KV.repl {kvs : List (κ × V)} {vs : List (κ × Value)} (r : KV kvs vs) (k : κ) {y : V} {u : Value} (ry : RelV y u) :
    KV (kvs.map fun kv => if kv.1 = k then (kv.1, y) else kv) (vs.map fun kv => if kv.1 = k then (kv.1, u) else kv) := by
  unfold KV at r ⊢
  induction r with
  | nil => exact .nil
  | @cons p q ps qs h t ih =>
    rw [List.map_cons, List.map_cons]
    refine .cons ?_ ih
    obtain ⟨h1, h2⟩ := h
    by_cases e : p.1 = k
    · rw [if_pos e, if_pos (h1.symm.trans e)]; exact ⟨h1, ry⟩
    · rw [if_neg e, if_neg (fun z => e (h1.trans z))]; exact ⟨h1, h2⟩
theorem KV.put {kvs : List (κ × V)} {vs : List (κ × Value)} (r : KV kvs vs) (k : κ) {y : V} {u : Value} (ry : RelV y u) : KV (putK kvs k y) (stored vs k u) := by
  unfold putK stored
  rw [r.any k]
  by_cases e : (vs.any fun kv => decide (kv.1 = k)) = true
  · rw [if_pos e, if_pos e]; exact r.repl k ry
  · rw [if_neg e, if_neg e]; exact Paired.snoc r ⟨rfl, ry⟩
theorem KV.drop {kvs : List (κ × V)} {vs : List (κ × Value)} (r : KV kvs vs) (k : κ) : KV (dropK kvs k) (without vs k) := by
  unfold KV at r ⊢
  unfold dropK without
  induction r with
  | nil => exact .nil
  | @cons p q ps qs h t ih =>
    obtain ⟨h1, h2⟩ := h
    rw [List.filter_cons, List.filter_cons]
    by_cases e : p.1 = k
    · have a : ¬ decide (p.1 ≠ k) = true := by simp [e]
      have b : ¬ decide (q.1 ≠ k) = true := by simp [h1.symm.trans e]
      rw [if_neg a, if_neg b]; exact ih
    · have e' : ¬ q.1 = k := fun z => e (h1.trans z)
      have a : decide (p.1 ≠ k) = true := by simp [e]
      have b : decide (q.1 ≠ k) = true := by simp [e']
      rw [if_pos a, if_pos b]; exact .cons ⟨h1, h2⟩ ih
theorem KV.keys {kvs : List (κ × V)} {vs : List (κ × Value)} (r : KV kvs vs) : kvs.map (·.1) = vs.map (·.1) := by
  unfold KV at r
  induction r with
  | nil => rfl
  | cons h t ih => rw [List.map_cons, List.map_cons, ih, h.1]
theorem KV.length {kvs : List (κ × V)} {vs : List (κ × Value)} (r : KV kvs vs) : kvs.length = vs.length := Paired.length r
theorem dropK_le (kvs : List (κ × V)) (k : κ) : (dropK kvs k).length ≤ kvs.length := List.length_filter_le _ _
end
theorem kV_is {P : Program} {w : World} {k : Key} {u : Value} (r : RelV (kV k) u) : (mixKind P w).is k u = true := by
  cases k with
  | inl i => obtain ⟨t, e⟩ := (show ∃ t, u = Value.int i t from r); subst e; exact mixKind_int P w i t
  | inr x => obtain ⟨t, e⟩ := (show ∃ t, u = Value.str x t from r); subst e; exact mixKind_str P w x t
theorem items_are {P : Program} {w : World} : ∀ {ks : List Key} {us : List Value}, Vals (ks.map kV) us → ItemsAre (mixKind P w) ks us
  | [], _, r => by rw [List.map_nil] at r; cases r; exact .nil
  | k :: ks, _, r => by
    rw [List.map_cons] at r
    cases r with
    | cons h t => exact .cons (kV_is h) (items_are t)
abbrev KT (H : Hp) : List (List Key × V) → List (List Key × Addr × Value) → Prop := Paired fun p q => p.1 = q.1 ∧ H q.2.1 = some (.tup (p.1.map kV)) ∧ RelV p.2 q.2.2
theorem KT.val {H : Hp} {kvs : List (List Key × V)} {xs : List (List Key × Addr × Value)} (r : KT H kvs xs) (k : List Key) : RelO (valV kvs k) ((atKey xs k).map (·.2)) := by
  induction r with
  | nil => exact True.intro
  | @cons p q ps qs h t ih =>
    obtain ⟨h1, _, h2⟩ := h
    by_cases e : p.1 = k
    · have e' : q.1 = k := h1.symm.trans e
      have b : atKey (q :: qs) k = some q.2 := by simp [atKey, List.find?_cons, e']
      rw [valV_pos e, b]; exact h2
    · have e' : ¬ q.1 = k := fun z => e (h1.trans z)
      have b : atKey (q :: qs) k = atKey qs k := by simp [atKey, List.find?_cons, e']
      rw [valV_neg e, b]; exact ih
theorem KT.repl {H : Hp} {kvs : List (List Key × V)} {xs : List (List Key × Addr × Value)} (r : KT H kvs xs) (k : List Key) {y : V} {u : Value} (ry : RelV y u) :
    KT H (kvs.map fun kv => if kv.1 = k then (kv.1, y) else kv) (xs.map (putAt k u)) := by
  induction r with
  | nil => exact .nil
  | @cons p q ps qs h t ih =>
    rw [List.map_cons, List.map_cons]
    refine .cons ?_ ih
    obtain ⟨h1, h2, h3⟩ := h
    unfold putAt
    by_cases e : p.1 = k
    · rw [if_pos e, if_pos (h1.symm.trans e)]; exact ⟨h1, h2, ry⟩
    · rw [if_neg e, if_neg (fun z => e (h1.trans z))]; exact ⟨h1, h2, h3⟩
theorem KT.put {H : Hp} {kvs : List (List Key × V)} {xs : List (List Key × Addr × Value)} (r : KT H kvs xs) (k : List Key) {b : Addr} {y : V} {u : Value} (hb : H b = some (.tup (k.map kV))) (ry : RelV y u) :
    KT H (putK kvs k y) (storedH xs k b u) := by
  have e : (kvs.any fun kv => decide (kv.1 = k)) = (atKey xs k).isSome := by
    rw [valV_any, (r.val k).isSome_eq, Option.isSome_map]
  unfold putK storedH
  rw [e]
  by_cases q : (atKey xs k).isSome = true
  · rw [if_pos q, if_pos q]; exact r.repl k ry
  · rw [if_neg q, if_neg q]; exact Paired.snoc r ⟨rfl, hb, ry⟩
theorem KT.keeps {H H' : Hp} {kvs : List (List Key × V)} {xs : List (List Key × Addr × Value)} (r : KT H kvs xs) (ht : ∀ b ys, H b = some (.tup ys) → H' b = some (.tup ys)) : KT H' kvs xs :=
  Paired.mapP r fun _ _ z => ⟨z.1, ht _ _ z.2.1, z.2.2⟩
section
variable {P : Program} {w : World} {H : Hp} {h : Heap} {a : Addr}
theorem rd_of {u : HO} (ok : HOk P w H h) (e : Rd H a u) : ObjOk P w H h a u := e.ok ok
theorem dk_rd {kvs : List (Key × V)} (ok : HOk P w H h) (e : Rd H a (.dK kvs)) : kvs.length ≤ sizeLine ∧ (a == sysModules) = false ∧ ∃ vs, KV kvs vs ∧ h.DictOf (mixKind P w) a vs :=
  show ObjOk P w H h a (.dK kvs) from rd_of ok e
theorem dk_of {kvs : List (Key × V)} (ok : HOk P w H h) (e : H a = some (.dK kvs)) : kvs.length ≤ sizeLine ∧ (a == sysModules) = false ∧ ∃ vs, KV kvs vs ∧ h.DictOf (mixKind P w) a vs := dk_rd ok (.inl e)
theorem key_of {ks : List Key} (ok : HOk P w H h) (e : H a = some (.tup (ks.map kV))) : (tupleKind (mixKind P w)).is h ks a := by
  obtain ⟨_, its, r, o, h1, h2, n, h3⟩ := (show ObjOk P w H h a (.tup (ks.map kV)) from ok a _ e)
  exact ⟨o, its.toArray, n, h1, h2, h3, by simpa using items_are r⟩
theorem dt_rd {kvs : List (List Key × V)} (ok : HOk P w H h) (e : Rd H a (.dT kvs)) : kvs.length ≤ sizeLine ∧ (a == sysModules) = false ∧
    ∃ xs, KT H kvs xs ∧ h.DictOfH (tupleKind (mixKind P w)) a xs := by
  obtain ⟨z, y, xs, r, o, es, ep, h1, h2, h3, h4, h5⟩ := (show ObjOk P w H h a (.dT kvs) from rd_of ok e)
  refine ⟨z, y, xs, r, o, es, ep, h1, h2, h3, h4, fun x hx => ?_, h5⟩
  have all : ∀ {l : List (List Key × V)} {m : List (List Key × Addr × Value)}, KT H l m → ∀ x ∈ m, (tupleKind (mixKind P w)).is h x.1 x.2.1 := by
    intro l m q
    induction q with
    | nil => intro x hx; exact nomatch hx
    | @cons p q ps qs hq t ih =>
      intro x hx
      rcases List.mem_cons.mp hx with e | hx
      · subst e
        exact key_of ok (by rw [← hq.1]; exact hq.2.1)
      · exact ih x hx
  exact all r x hx
theorem dt_of {kvs : List (List Key × V)} (ok : HOk P w H h) (e : H a = some (.dT kvs)) : kvs.length ≤ sizeLine ∧ (a == sysModules) = false ∧
    ∃ xs, KT H kvs xs ∧ h.DictOfH (tupleKind (mixKind P w)) a xs := dt_rd ok (.inl e)
end
def DGet (H : Hp) (a : Addr) (y : V) (r : Option V) : Prop :=
  (∃ kvs k, Rd H a (.dK kvs) ∧ y = kV k ∧ r = valV kvs k) ∨ ∃ kvs k b, Rd H a (.dT kvs) ∧ y = .ref b ∧ H b = some (.tup (k.map kV)) ∧ r = valV kvs k
def DPut (H : Hp) (a : Addr) (y v : V) (H' : Hp) : Prop :=
  (∃ kvs k, H a = some (.dK kvs) ∧ y = kV k ∧ kvs.length < sizeLine ∧ H' = upd H a (.dK (putK kvs k v))) ∨
  ∃ kvs k b, H a = some (.dT kvs) ∧ y = .ref b ∧ H b = some (.tup (k.map kV)) ∧ kvs.length < sizeLine ∧ H' = upd H a (.dT (putK kvs k v))
theorem DGet.k {H : Hp} {a : Addr} {kvs : List (Key × V)} {k : Key} (e : H a = some (.dK kvs)) : DGet H a (kV k) (valV kvs k) := .inl ⟨kvs, k, .inl e, rfl, rfl⟩
theorem DPut.k {H : Hp} {a : Addr} {kvs : List (Key × V)} {k : Key} {v : V} (e : H a = some (.dK kvs)) (hl : kvs.length < sizeLine) : DPut H a (kV k) v (upd H a (.dK (putK kvs k v))) := .inl ⟨kvs, k, e, rfl, hl, rfl⟩
section
variable {X : Cx} {pins : List (Addr × Obj)} {σ : St} {H : Hp} {s : Shared} {a : Addr} {y v : V} {u r : Value} {o : Option V} {A : Around} {E : Value → Shared → Prop}
theorem Inv.big (I : Inv X pins σ H s) : sysModules < s.heap.objs.size := by
  have h : mainGlobals < s.heap.objs.size := (I.mod.glob.keeps I.bk).lt
  exact Nat.lt_trans (by decide) h
theorem d_getItem {Q : Value → Shared → Prop} (hu : A.units + 1 < cLine) (I : Inv X pins σ H s) (g : DGet H a y (some v)) (ry : RelV y u) (h : ∀ w' s', Inv X pins σ H s' → RelV v w' → Q w' s') :
    wpAny (model X.prog X.w) A (getItem (.ref a) u) Q E s := by
  rcases g with ⟨kvs, k, e, ey, l⟩ | ⟨kvs, k, b, e, ey, eb, l⟩
  · subst ey
    obtain ⟨z, hd, vs, rel, dd⟩ := dk_rd I.hok e
    obtain ⟨w', hw, rw'⟩ := RelO.some_of (v := v) (o := valueAt vs k) (by rw [l]; exact rel.val k)
    exact wpAny_getItem_of (kV_is ry) dd.mapOf hw (h w' _ (I.tok _) rw')
  · subst ey
    cases (show u = Value.ref b from ry)
    obtain ⟨z, hd, xs, rel, dd⟩ := dt_rd I.hok e
    obtain ⟨w', hw, rw'⟩ := RelO.some_of (v := v) (o := (atKey xs k).map (·.2)) (by rw [l]; exact rel.val k)
    obtain ⟨p, hp, hp2⟩ := Option.map_eq_some_iff.mp hw
    refine wpAny_getItem_heap (tupleKind_room_in1 hu) (key_of I.hok eb) dd hp ?_
    rw [hp2]
    exact h w' _ (I.tok _) rw'
theorem d_in {Q : Value → Shared → Prop} (hu : A.units + 1 < cLine) (I : Inv X pins σ H s) (g : DGet H a y o) (ry : RelV y u) (h : ∀ s', Inv X pins σ H s' → Q (.bool o.isSome) s') :
    wpAny (model X.prog X.w) A (compareOp .In u (.ref a)) Q E s := by
  rcases g with ⟨kvs, k, e, ey, l⟩ | ⟨kvs, k, b, e, ey, eb, l⟩
  · subst ey
    obtain ⟨z, hd, vs, rel, dd⟩ := dk_rd I.hok e
    refine wpAny_in_of (kV_is ry) hd dd.mapOf ?_
    rw [← (rel.val k).isSome_eq, ← l]
    exact h _ (I.tok _)
  · subst ey
    cases (show u = Value.ref b from ry)
    obtain ⟨z, hd, xs, rel, dd⟩ := dt_rd I.hok e
    refine wpAny_in_heap (tupleKind_room_in1 hu) (key_of I.hok eb) hd dd ?_
    have q := (rel.val k).isSome_eq
    rw [Option.isSome_map] at q
    rw [← q, ← l]
    exact h _ (I.tok _)
theorem d_notIn {Q : Value → Shared → Prop} (hu : A.units + 1 < cLine) (I : Inv X pins σ H s) (g : DGet H a y o) (ry : RelV y u) (h : ∀ s', Inv X pins σ H s' → Q (.bool (!o.isSome)) s') :
    wpAny (model X.prog X.w) A (compareOp .NotIn u (.ref a)) Q E s := by
  rcases g with ⟨kvs, k, e, ey, l⟩ | ⟨kvs, k, b, e, ey, eb, l⟩
  · subst ey
    obtain ⟨z, hd, vs, rel, dd⟩ := dk_rd I.hok e
    refine wpAny_notIn_of (kV_is ry) hd dd.mapOf ?_
    rw [← (rel.val k).isSome_eq, ← l]
    exact h _ (I.tok _)
  · subst ey
    cases (show u = Value.ref b from ry)
    obtain ⟨z, hd, xs, rel, dd⟩ := dt_rd I.hok e
    refine wpAny_notIn_heap (tupleKind_room_in1 hu) (key_of I.hok eb) hd dd ?_
    have q := (rel.val k).isSome_eq
    rw [Option.isSome_map] at q
    rw [← q, ← l]
    exact h _ (I.tok _)
theorem d_write {h' : Heap} {t' : Nat} {ob : HO} (I : Inv X pins σ H s) (mu : Mut (H a)) (hs : Heap.SameBut a s.heap h') (he : ∃ q, h'.get? a = some q) (new : ObjOk X.prog X.w (upd H a ob) h' a ob) :
    Inv X pins σ (upd H a ob) { s with heap := h', toks := t' } :=
  I.write (x := a) (e := a) mu (.inl rfl) (fun b q hb z => (hs.2 b hb).trans z) he new
theorem dk_new {P : Program} {w : World} {H' : Hp} {h' : Heap} {kvs : List (Key × V)} {vs : List (Key × Value)} (z : kvs.length ≤ sizeLine) (hd : (a == sysModules) = false) (rel : KV kvs vs) (dd : h'.DictOf (mixKind P w) a vs) :
    ObjOk P w H' h' a (.dK kvs) := ⟨z, hd, vs, rel, dd⟩
theorem d_setItem {H' : Hp} {Q : Unit → Shared → Prop} (hu : A.units + 1 < cLine) (I : Inv X pins σ H s) (g : DPut H a y v H') (ry : RelV y u) (rv : RelV v r) (h : ∀ s', Inv X pins σ H' s' → Q () s') :
    wpAny (model X.prog X.w) A (setItem (.ref a) u r) Q E s := by
  rcases g with ⟨kvs, k, e, ey, l, eH⟩ | ⟨kvs, k, b, e, ey, eb, l, eH⟩
  · subst ey eH
    obtain ⟨z, hd, vs, rel, dd⟩ := dk_of I.hok e
    have hz : vs.length ≤ sizeLine := by rw [← rel.length]; exact z
    have hl : (putK kvs k v).length ≤ sizeLine := by have := length_putK kvs k v; omega
    refine wpAny_setItem_pairs (hsz := hz) (kV_is ry) dd fun h' dd' hs => h _ ?_
    have he : ∃ q, h'.get? a = some q := let ⟨q, _, _, hq, _⟩ := dd'; ⟨q, hq⟩
    exact d_write I (by rw [e]; exact True.intro) hs he (dk_new hl hd (rel.put k rv) dd')
  · subst ey eH
    cases (show u = Value.ref b from ry)
    obtain ⟨z, hd, xs, rel, dd⟩ := dt_of I.hok e
    have hz : xs.length ≤ sizeLine := by rw [← Paired.length rel]; exact z
    have hl : (putK kvs k v).length ≤ sizeLine := by have := length_putK kvs k v; omega
    refine wpAny_setItem_heap (hsz := hz) (tupleKind_room_in1 hu) (key_of I.hok eb) dd fun h' dd' hs => h _ ?_
    obtain ⟨q, es, ep, hq, h2, h3, h4, _, h5⟩ := dd'
    refine d_write I (by rw [e]; exact True.intro) hs ⟨q, hq⟩ ⟨hl, hd, _, (rel.put k eb rv).keeps fun c ys ec => ?_, q, es, ep, hq, h2, h3, h4, h5⟩
    rw [upd_ne (ne_of ec e (fun z => nomatch z))]
    exact ec
end
section
variable {X : Cx} {pins : List (Addr × Obj)} {σ : St} {H : Hp} {s : Shared} {a : Addr} {kvs : List (Key × V)} {k : Key} {u : Value} {A : Around} {E : Value → Shared → Prop}
theorem d_pop {v : V} {more : List Value} {Q : Value → Shared → Prop} (I : Inv X pins σ H s) (e : H a = some (.dK kvs)) (ry : RelV (kV k) u) (l : valV kvs k = some v) (hm : more = [] ∨ ∃ x, more = [x])
    (h : ∀ w' s', Inv X pins σ (upd H a (.dK (dropK kvs k))) s' → RelV v w' → Q w' s') : wpAny (model X.prog X.w) A (call (.builtin "dict.pop") (.ref a :: u :: more)) Q E s := by
  obtain ⟨z, hd, vs, rel, dd⟩ := dk_of I.hok e
  obtain ⟨w', hw, rw'⟩ := RelO.some_of (v := v) (o := valueAt vs k) (by rw [← l]; exact rel.val k)
  have hp : (keyPart u).isSome = true := by
    cases k with
    | inl i => obtain ⟨t, q⟩ := (show ∃ t, u = Value.int i t from ry); subst q; rfl
    | inr x => obtain ⟨t, q⟩ := (show ∃ t, u = Value.str x t from ry); subst q; rfl
  have ha : argsOk "dict.pop" ⟨.ref a :: u :: more, []⟩ := by
    rcases hm with q | ⟨x, q⟩
    · subst q; exact PySem.F.args_dict_pop_2 _ _
    · subst q; exact PySem.F.args_dict_pop_3 _ _ _
  refine call_meetsIn PySem.F.slot_dict_pop dd.typeIs PySem.F.entry_dict_pop ha (meets_dict_pop_there (mixKind X.prog X.w) a (kV_is ry) more hm hp)
    ⟨vs, w', dd, by rw [← rel.length]; exact z, hw, fun h' dd' hs => h w' _ ?_ rw'⟩
  have he : ∃ q, h'.get? a = some q := let ⟨q, _, _, hq, _⟩ := dd'; ⟨q, hq⟩
  exact d_write I (by rw [e]; exact True.intro) hs he (dk_new (Nat.le_trans (dropK_le kvs k) z) hd (rel.drop k) dd')
end
def NoSl (i : Expr) : Prop := ∀ ov iv, subscripted i false ov iv = operate [ov, iv] (getItem ov iv)
theorem subD_of {prog : Program} {w : World} {A : Around} {E : Value → Shared → Prop} {s : Shared} {env : Env} {value slice : Expr} {pos : Pos} {T id : String} {Q : Value → Shared → Prop}
    (hl : typeLookup (.type T) "__getitem__" = pure (some (.builtin id))) (hs : NoSl slice)
    (h : wpAny (model prog w) A (eval value env) (fun o s₁ => wpAny (model prog w) A (eval slice env) (fun i s₂ => s₂.TypeIs o T ∧ wpAny (model prog w) A (getItem o i) Q E s₂) E s₁) E s) :
    wpAny (model prog w) A (eval (.Subscript value slice pos) env) Q E s := by
  refine Subscript_ (wpAny_mono h (fun o s₁ h₁ => wpAny_mono h₁ (fun i s₂ h₂ => ?_) fun _ _ x => x) fun _ _ x => x)
  obtain ⟨hT, h₂⟩ := h₂
  unfold subscriptTail
  refine wpAny_bind ?_
  rw [getitemInPython_of_ne hT.not_modules]
  refine wpAny_bind (wpAny_specialOf hT hl ?_)
  have fin : wpAny (model prog w) A (subscripted slice false o i) (fun r s₃ => wpAny (model prog w) A (letTemporaryGo value o r >>= fun _ => pure r) Q E s₃) E s₂ := by
    rw [hs o i]
    exact wpAny_operating (wpAny_mono h₂ (fun r s₃ h₃ => wpAny_bind (wpAny_letTemporaryGo (wpAny_pure h₃))) fun _ _ x => x)
  first
    | exact wpAny_pure (wpAny_bind fin)
    | exact wpAny_bind (wpAny_pure (wpAny_bind fin))
    | exact wpAny_bind fin
theorem dict_typeIs {X : Cx} {pins : List (Addr × Obj)} {σ : St} {H : Hp} {s : Shared} {a : Addr} {y : V} {o : Option V} (I : Inv X pins σ H s) (g : DGet H a y o) : s.TypeIs (.ref a) "dict" := by
  rcases g with ⟨kvs, k, e, _, _⟩ | ⟨kvs, k, b, e, _, _, _⟩
  · obtain ⟨_, _, vs, _, dd⟩ := dk_rd I.hok e
    exact dd.typeIs
  · obtain ⟨_, _, xs, _, dd⟩ := dt_rd I.hok e
    exact dd.typeIs
def tDGet (td ty : TE) : TE := fun σ H Q => td σ H fun x H1 => ty σ H1 fun y H2 => ∃ a v, x = .ref a ∧ DGet H2 a y (some v) ∧ Q v H2
def tDIn (ty td : TE) : TE := fun σ H Q => ty σ H fun y H1 => td σ H1 fun x H2 => ∃ a o, x = .ref a ∧ DGet H2 a y o ∧ Q (.bl o.isSome) H2
def tDNotIn (ty td : TE) : TE := fun σ H Q => ty σ H fun y H1 => td σ H1 fun x H2 => ∃ a o, x = .ref a ∧ DGet H2 a y o ∧ Q (.bl (!o.isSome)) H2
def sDPut (td ty tv : TE) : TS := fun D σ H => tv σ H fun v H1 => td σ H1 fun x H2 => ty σ H2 fun y H3 => ∃ a H4, x = .ref a ∧ DPut H3 a y v H4 ∧ D.nx σ H4
section
variable {X : Cx} {o i e value : Expr} {pos pos' tpos : Pos} {td ty tv : TE}
theorem pe_dget (hu : X.A.units + 1 < cLine) (ho : PE X o td) (hi : PE X i ty) (hs : NoSl i) : PE X (.Subscript o i pos) (tDGet td ty) := by
  intro pins s σ H Q I h
  refine subD_of PySem.F.slot_dict_getitem.lookup hs (thn (ho pins s σ H _ I h) fun u s1 ⟨x, H1, I1, rx, q1⟩ => thn (hi pins s1 σ H1 _ I1 q1) fun iv s2 ⟨y, H2, I2, ry, a, v, ex, g, q2⟩ => ?_)
  subst ex
  obtain rfl : u = Value.ref a := rx
  exact ⟨dict_typeIs I2 g, d_getItem hu I2 g ry fun w' s3 I3 rw' => ⟨v, H2, I3, rw', q2⟩⟩
theorem pc_din (hu : X.A.units + 1 < cLine) (hi : PE X i ty) (ho : PE X o td) : PC X .In i o (tDIn ty td) := by
  intro pins s σ H Q I h
  refine thn (hi pins s σ H _ I h) fun iv s1 ⟨y, H1, I1, ry, q1⟩ => thn (ho pins s1 σ H1 _ I1 q1) fun u s2 ⟨x, H2, I2, rx, a, ov, ex, g, q2⟩ => ?_
  subst ex
  obtain rfl : u = Value.ref a := rx
  exact d_in hu I2 g ry fun s3 I3 => ⟨.bl ov.isSome, H2, I3, rfl, q2⟩
theorem pc_dnotin (hu : X.A.units + 1 < cLine) (hi : PE X i ty) (ho : PE X o td) : PC X .NotIn i o (tDNotIn ty td) := by
  intro pins s σ H Q I h
  refine thn (hi pins s σ H _ I h) fun iv s1 ⟨y, H1, I1, ry, q1⟩ => thn (ho pins s1 σ H1 _ I1 q1) fun u s2 ⟨x, H2, I2, rx, a, ov, ex, g, q2⟩ => ?_
  subst ex
  obtain rfl : u = Value.ref a := rx
  exact d_notIn hu I2 g ry fun s3 I3 => ⟨.bl (!ov.isSome), H2, I3, rfl, q2⟩
theorem ps_dput (hu : X.A.units + 1 < cLine) (ho : PE X o td) (hi : PE X i ty) (hv : PE X value tv) (hs : swapsWith value (some (.Subscript o i pos')) pos.line X.env = pure false) :
    PS X (.Assign [.Subscript o i pos'] value pos) (sDPut td ty tv) := by
  intro pins s σ H D I h
  refine wpAny_Assign_Subscript (thn (hv pins s σ H _ I h) fun r s1 ⟨v, H1, I1, rv, q1⟩ => thn (ho pins s1 σ H1 _ I1 q1) fun u s2 ⟨x, H2, I2, rx, q2⟩ => thn (hi pins s2 σ H2 _ I2 q2) fun iv s3 ⟨y, H3, I3, ry, a, H4, ex, g, q3⟩ => ?_) hs
  subst ex
  obtain rfl : u = Value.ref a := rx
  exact d_setItem hu I3 g ry rv fun s4 I4 => ⟨σ, H4, I4, q3⟩
end
theorem dk_empty {P : Program} {w : World} {H : Hp} (h : Heap) (hb : sysModules < h.objs.size) : ObjOk P w H (h.push { cls := .type "dict", data := .dict #[] }) h.objs.size (.dK []) :=
  ⟨Nat.zero_le _, beq_eq_false_iff_ne.mpr (Ne.symm (Nat.ne_of_lt hb)), [], .nil, Heap.DictOf.new h⟩
def tDNewK : TE := fun _ H Q => ∀ p, H p = none → Q (.ref p) (upd H p (.dK []))
section
variable {X : Cx} {pos : Pos}
theorem pe_dnewK : PE X (.Dict [] [] pos) tDNewK := fun pins s σ H Q I h =>
  wpAny_Dict_empty ⟨.ref s.heap.objs.size, _, I.laid (a := s.heap.objs.size) (o := .dK []) (t' := s.toks) (fun _ _ q => Heap.get?_push_of_some _ q) (Nat.le_refl _) (dk_empty s.heap I.big), rfl, h _ (I.hok.fresh (Nat.le_refl _))⟩
end
structure M1 (X : Cx) (o : Expr) (m : Str) (apos : Pos) (e : Expr) (cpos : Pos) : Prop where
  base : attributeBase o m X.env (eval o X.env) = eval o X.env
  few : ((backTo cpos (starEach [e] X.env)).all (fun x => !x.1) && (backToKw cpos (keywordEach [] X.env)).all (fun x => x.1.isSome)
    && decide (([e] : List Expr).length + ([] : List Keyword).length + (if ([] : List Keyword).isEmpty then 0 else 1) < 30)) = true
  line : (apos.endLine == cpos.line) = true
  trees : backTo cpos (starEach [e] X.env) = [(false, eval e X.env)]
structure M2 (X : Cx) (o : Expr) (m : Str) (apos : Pos) (e f : Expr) (cpos : Pos) : Prop where
  base : attributeBase o m X.env (eval o X.env) = eval o X.env
  few : ((backTo cpos (starEach [e, f] X.env)).all (fun x => !x.1) && (backToKw cpos (keywordEach [] X.env)).all (fun x => x.1.isSome)
    && decide (([e, f] : List Expr).length + ([] : List Keyword).length + (if ([] : List Keyword).isEmpty then 0 else 1) < 30)) = true
  line : (apos.endLine == cpos.line) = true
  trees : backTo cpos (starEach [e, f] X.env) = [(false, eval e X.env), (false, eval f X.env)]
def IsD (H : Hp) (a : Addr) : Prop := (∃ kvs, Rd H a (.dK kvs)) ∨ ∃ kvs, Rd H a (.dT kvs)
theorem isD_at {X : Cx} {pins : List (Addr × Obj)} {σ : St} {H : Hp} {s : Shared} {a : Addr} (I : Inv X pins σ H s) (d : IsD H a) :
    s.TypeIs (.ref a) "dict" ∧ (∀ b, Value.ref a = .ref b → ∃ ob, s.heap.get? b = some ob ∧ ob.dict = none) ∧ (a == sysModules) = false := by
  rcases d with ⟨kvs, e⟩ | ⟨kvs, e⟩
  · obtain ⟨_, hd, vs, _, dd⟩ := dk_rd I.hok e
    refine ⟨dd.typeIs, fun b q => ?_, hd⟩
    cases q
    obtain ⟨ob, _, _, h1, h2, _⟩ := dd
    exact ⟨ob, h1, h2.2.1⟩
  · obtain ⟨_, hd, xs, _, dd⟩ := dt_rd I.hok e
    refine ⟨dd.typeIs, fun b q => ?_, hd⟩
    cases q
    obtain ⟨ob, _, _, h1, h2, _⟩ := dd
    exact ⟨ob, h1, h2.2.1⟩
section
variable {X : Cx} {pins : List (Addr × Obj)} {σ : St} {H : Hp} {s : Shared} {a : Addr} {y d : V} {u r : Value} {o : Option V} {A : Around} {E : Value → Shared → Prop}
theorem d_get2 {Q : Value → Shared → Prop} (hu : A.units + 1 < cLine) (I : Inv X pins σ H s) (g : DGet H a y o) (ry : RelV y u) (rd : RelV d r) (h : ∀ w' s', Inv X pins σ H s' → RelV (o.getD d) w' → Q w' s') :
    wpAny (model X.prog X.w) A (call (.builtin "dict.get") [.ref a, u, r]) Q E s := by
  rcases g with ⟨kvs, k, e, ey, l⟩ | ⟨kvs, k, b, e, ey, eb, l⟩
  · subst ey
    obtain ⟨z, hd, vs, rel, dd⟩ := dk_rd I.hok e
    refine call_meetsIn PySem.F.slot_dict_get dd.typeIs PySem.F.entry_dict_get (PySem.F.args_dict_get_3 _ _ _) (meets_dict_get_default (mixKind X.prog X.w) a (kV_is ry) hd r) ⟨_, dd.mapOf, h _ _ (I.tok _) ?_⟩
    rw [l]
    exact (rel.val k).getD rd
  · subst ey
    cases (show u = Value.ref b from ry)
    obtain ⟨z, hd, xs, rel, dd⟩ := dt_rd I.hok e
    refine call_meetsIn PySem.F.slot_dict_get dd.typeIs PySem.F.entry_dict_get (PySem.F.args_dict_get_3 _ _ _) (meetsH_dict_get_default (tupleKind (mixKind X.prog X.w)) a b hd r) ⟨tupleKind_room_in1 hu, k, xs, key_of I.hok eb, dd, h _ _ (I.tok _) ?_⟩
    rw [l]
    exact (rel.val k).getD rd
end
def tDGet2 (td ty tx : TE) : TE := fun σ H Q => td σ H fun x H1 => ∃ a, x = .ref a ∧ IsD H1 a ∧ ty σ H1 fun y H2 => tx σ H2 fun z H3 => ∃ o, DGet H3 a y o ∧ Q (o.getD z) H3
def tDPop1 (td ty : TE) : TE := fun σ H Q => td σ H fun x H1 => ∃ a, x = .ref a ∧ IsD H1 a ∧ ty σ H1 fun y H2 => ∃ kvs k v, H2 a = some (.dK kvs) ∧ y = kV k ∧ valV kvs k = some v ∧ Q v (upd H2 a (.dK (dropK kvs k)))
section
variable {X : Cx} {o e f : Expr} {apos cpos : Pos} {td ty tx : TE}
theorem pe_dget2 (hu : X.A.units + 1 < cLine) (ho : PE X o td) (he : PE X e ty) (hf : PE X f tx) (m : M2 X o "get" apos e f cpos) : PE X (.Call (.Attribute o "get" apos) [e, f] [] cpos) (tDGet2 td ty tx) := by
  intro pins s σ H Q I h
  refine wpAny_Call_method m.base m.few m.line PySem.F.plainAttrs_dict PySem.F.slot_dict_get PySem.F.type_dict_get (thn (ho pins s σ H _ I h) fun u s1 ⟨x, H1, I1, rx, a, ex, d, q1⟩ => ?_)
  subst ex
  obtain rfl : u = Value.ref a := rx
  obtain ⟨t1, t2, _⟩ := isD_at I1 d
  refine ⟨t1, t2, ?_⟩
  rw [m.trees]
  refine Calls.callWith_builtin rfl (Calls.evalArgs_plain (Calls.spliced_cons (thn (he pins s1 σ H1 _ I1 q1) fun iv s2 ⟨y, H2, I2, ry, q2⟩ =>
    Calls.spliced_cons (thn (hf pins s2 σ H2 _ I2 q2) fun fv s3 ⟨z, H3, I3, rz, ov, g, q3⟩ => Calls.spliced_nil ?_))))
  exact d_get2 hu I3 g ry rz fun w' s4 I4 rw' => ⟨_, H3, I4, rw', q3⟩
theorem pe_dpop1 (ho : PE X o td) (he : PE X e ty) (m : M1 X o "pop" apos e cpos) : PE X (.Call (.Attribute o "pop" apos) [e] [] cpos) (tDPop1 td ty) := by
  intro pins s σ H Q I h
  refine wpAny_Call_method m.base m.few m.line PySem.F.plainAttrs_dict PySem.F.slot_dict_pop PySem.F.type_dict_pop (thn (ho pins s σ H _ I h) fun u s1 ⟨x, H1, I1, rx, a, ex, d, q1⟩ => ?_)
  subst ex
  obtain rfl : u = Value.ref a := rx
  obtain ⟨t1, t2, _⟩ := isD_at I1 d
  refine ⟨t1, t2, ?_⟩
  rw [m.trees]
  refine Calls.callWith_builtin rfl (Calls.evalArgs_plain (Calls.spliced_cons (thn (he pins s1 σ H1 _ I1 q1) fun iv s2 ⟨y, H2, I2, ry, kvs, k, v, ea, ey, l, q2⟩ => Calls.spliced_nil ?_)))
  subst ey
  exact d_pop I2 ea ry l (.inl rfl) fun w' s3 I3 rw' => ⟨v, _, I3, rw', q2⟩
end
end L2
namespace Att
open PySem PySem.W PySem.Calls PyProof.Rows
theorem ints_of_wellAll {P : Params} {h : Heap} : ∀ (ns : List Int) (vs : List Value), WellAll P h vs (ns.map WData.int) → IntsAre vs ns := by
  intro ns
  induction ns with
  | nil =>
    intro vs w
    rw [List.map_nil] at w
    cases w
    exact .nil
  | cons n ns ih =>
    intro vs w
    rw [List.map_cons] at w
    cases w with
    | cons a b =>
      cases a
      exact .cons _ _ (ih _ b)
theorem script_of {l : OpenLaw} {n : Nat} (hn : l.most = some n) {P : Params} {h : Heap} {args : List WData} {vals : List Value}
    (hpre : l.row.toRowW.claim.pre args = true) (hwl : WellAll P h vals args) :
    ∃ a vs ns, vals = [Value.ref a] ∧ args = [WData.list (ns.map WData.int)] ∧ h.get? a = some { cls := .type "list", data := .seq vs.toArray } ∧ IntsAre vs ns ∧ ns.length ≤ n := by
  have hsh : WShape.hasAll [] args [.list .int] = true := (pre_splitW hpre).1
  have hc : l.pre.holds [] { args := args } = true := (pre_splitW hpre).2
  obtain ⟨d, r, rfl, h1, h2⟩ := hasAllW_cons hsh
  obtain rfl := hasAllW_nil h2
  obtain ⟨xs, rfl, h3⟩ := hasW_list h1
  obtain ⟨ns, rfl⟩ := items_int h3
  have hlen : ns.length ≤ n := by
    unfold OpenLaw.pre at hc
    have h4 : (WTm.not (.lt (.lit (.int (n : Int))) (.len (.arg 0)))).holds [] { args := [.list (ns.map .int)] } = true := by
      have h4 := (holds_andW hc).1
      rw [hn] at h4
      exact h4
    have h5 := condW_of h4 (w_not (w_lt w_lit (w_len_list (w_arg rfl))))
    rw [List.length_map] at h5
    refine Nat.le_of_not_lt fun q => ?_
    have q' : (n : Int) < ((ns.length : Nat) : Int) := by omega
    first
      | (rw [decide_eq_true q'] at h5; exact absurd h5 (by decide))
      | (simp at h5; omega)
  cases hwl with
  | cons w1 w2 =>
    cases w2
    cases w1 with
    | list ho hall => exact ⟨_, _, ns, rfl, rfl, ho, ints_of_wellAll ns _ hall, hlen⟩
theorem post_true (l : OpenLaw) (args : List WData) : l.row.toRowW.claim.post args (.bool true) args = true :=
  postW_of (r := l.row.toRowW) (X := (true == true))
    (show WShape.has [] (.bool true) .bool = true by first | rfl | decide | simp [WShape.has, WShape.arms, WShape.armsAll])
    (show (WTm.eq .res (.lit (.bool true))).value [] { args := args, res := some (.bool true), after := args } = some (.bool (true == true)) from w_eq_bool (w_res rfl) w_lit) rfl
theorem attach_call {l : OpenLaw} {n : Nat} {q : Program} {loose : List Str} {XP : (Str → Option Value) → Heap → Prop} {YP : World → Heap → Prop} {d : DefRec}
    (hn : l.most = some n) (hdf : d.params.defaults = [])
    (call : ∀ (w : World) (s₀ s₁ : Shared) (mg mb : Str → Option Value) (fa : Addr) (o : Obj) (pm cd doc : Value) (a : Addr) (vs : List Value) (ns : List Int),
      Ground q loose [] XP w s₀ mg mb s₁.heap → YP w s₁.heap →
      s₁.heap.get? fa = some o → o.data = .func (docDef d.name d.params d.body d.scope pm cd doc) → s₁.heap.CodeRec cd d.name → mg d.name = some (.ref fa) →
      s₁.heap.get? a = some { cls := .type "list", data := .seq vs.toArray } → IntsAre vs ns → ns.length ≤ n → s₁.gens = #[] →
      codeAny (model l.prog w) callerA (.call (.ref fa) ⟨[.ref a], []⟩) (fun r s' => r = .ok (.ret (.bool true)) ∧ OldK s₁.heap s'.heap ∧ s'.os = s₁.os ∧ AllBare s'.gens) s₁) :
    WalkO q loose XP YP l.row.toRowW d [] (fun f vs => PySem.call f vs) := by
  intro w s₀ s₁ mg mb G Y fa o pm cd doc dV kV ho hd hcd hD hmg hg args vals as hpre hlay hrd hwl hlo
  obtain rfl : dV = .none := Dflts.none hD hdf
  obtain rfl : kV = .none := Dflts.noKw hD
  obtain ⟨a, vs, ns, rfl, rfl, hobj, hints, hlen⟩ := script_of hn hpre hwl
  refine enter_call (codeAny_mono (call w s₀ s₁ mg mb fa o pm cd doc a vs ns G Y ho (fd_plain hd) hcd hmg hobj hints hlen hg) fun r s' hq => ?_)
  obtain ⟨rfl, h2, h3, h4⟩ := hq
  exact ⟨.inl ⟨.bool true, .bool true, [], rfl, fun _ => rfl, .bool true, post_true l _, fun _ => ⟨List.Pairwise.nil, fun _ hm => (nomatch hm)⟩⟩, h2, h3, h4⟩
end Att
namespace L2
open PySem PySem.Spec PyProof.Rows
theorem vals_ints : ∀ {vs : List Value} {ns : List Int}, IntsAre vs ns → Vals (ns.map V.int) vs
  | _, _, .nil => .nil
  | _, _, .cons n t h => .cons ⟨t, rfl⟩ (vals_ints h)
def Only (H : Hp) : Prop := ∀ b, H b = none ∨ ∃ o xs, H b = some (.frz o (.lst xs))
theorem law_call {P : Program} {w : World} {K : PySem.W.Frag} {mg mb : Str → Option Value} {CX : CXT} {k : Nat} {fa a : Addr} {fd : FuncData} {x : Str} {sp : Sp} {s₁ : Shared} {vs : List Value} {ns : List Int}
    (KX : K.In s₁.heap) (hns : s₁.heap.Ns mainGlobals mg) (hb : s₁.heap.Ns builtinsNs mb) (hbb : ∀ x : Str, x ≠ "__name__" → mb x = bootBuiltins x) (hlim : s₁.heap.NoLimit) (hg : s₁.gens = #[])
    (ha : s₁.heap.get? a = some { cls := .type "list", data := .seq vs.toArray }) (hi : IntsAre vs ns) (hl : ns.length ≤ sizeLine) (hr : Room k callerA)
    (F : ∀ base : Heap, K.In base → base.Ns mainGlobals mg → FnOk P w K mg base CX k fa fd [x] sp) (hbind : ∀ (s : Shared) (u : Value), BindsTo s fd ⟨[u], []⟩ [(x, u)])
    (hsp : ∀ H : Hp, Only H → SqL K H a (ns.map V.int) → sp [.ref a] H (fun v _ => v = .bl true) fun _ _ _ => False)
    (hCX : ∀ H e s', CX [] H s₁ (fun _ _ _ => False) e s' → False) :
    codeAny (model P w) callerA (.call (.ref fa) ⟨[.ref a], []⟩) (fun r s' => r = .ok (.ret (.bool true)) ∧ OldK s₁.heap s'.heap ∧ s'.os = s₁.os ∧ AllBare s'.gens) s₁ := by
  have rv := vals_ints hi
  have lenV := hi.length
  have core : ∀ H : Hp, Only H → SqL K H a (ns.map V.int) → HOk P w H s₁.heap → (∀ b, H b ≠ none → b = a) → (H a ≠ none → K.lookup a = none) →
      codeAny (model P w) callerA (.call (.ref fa) ⟨[.ref a], []⟩) (fun r s' => r = .ok (.ret (.bool true)) ∧ OldK s₁.heap s'.heap ∧ s'.os = s₁.os ∧ AllBare s'.gens) s₁ := by
    intro H hO hS hok hA hK
    have base_of : ∀ {b : Addr} {o : Obj}, s₁.heap.get? b = some o → H b = none → (hidT s₁.heap H).get? b = some o := fun e n => hidT_get e n
    have noA : ∀ {b : Addr} {o : Obj} {es : Array DictEntry} {ep : Nat}, s₁.heap.get? b = some o → o.data = .dict es ep → H b = none := fun {b o es ep} e d => by
      cases q : H b with
      | none => rfl
      | some u =>
        have e' : b = a := hA b (by rw [q]; simp)
        subst e'
        rw [ha] at e; cases e
        have d' : Data.seq vs.toArray _ = Data.dict es ep := d
        cases d'
    have nsK : ∀ {b : Addr} {m : Str → Option Value}, s₁.heap.Ns b m → (hidT s₁.heap H).Ns b m := fun {b m} ⟨o, es, ep, e, d, r⟩ => ⟨o, es, ep, base_of e (noA e d), d, r⟩
    have hKb : K.In (hidT s₁.heap H) := fun b o e => base_of (KX b o e) (by
      cases q : H b with
      | none => rfl
      | some u =>
        have e' : b = a := hA b (by rw [q]; simp)
        subst e'
        rw [hK (by rw [q]; simp)] at e; cases e)
    have hM : Mod K mg (hidT s₁.heap H) := ⟨hKb, nsK hns, ⟨mb, nsK hb, hbb⟩, let ⟨mc, h1, h2⟩ := hlim; ⟨mc, nsK h1, h2⟩⟩
    have e0 : Env0 P w K mg (hidT s₁.heap H) callerA [] s₁ H := ⟨rfl, hM, fun b o e => of_hidT e, Nat.le_of_eq (hidT_size _ _), trivial, fun b hb => absurd (show b ∈ ([] : List Addr) from hb) (by simp), hok, .of_eq hg⟩
    refine codeAny_mono ((F _ hKb (nsK hns)).run callerA [] s₁ H ⟨[.ref a], []⟩ [.ref a] [.ref a] _ _ hr e0 (hbind s₁ (.ref a)) (.cons rfl .nil) (hsp H hO hS)) fun r s' h => ?_
    cases r with
    | error e => exact (hCX H e s' h).elim
    | ok fl =>
      cases fl with
      | next => exact False.elim h
      | brk => exact False.elim h
      | cont => exact False.elim h
      | ret u =>
        obtain ⟨v, H', os, bare, un, hok', r', q⟩ := h
        have q' : v = .bl true := q
        subst q'
        obtain rfl : u = Value.bool true := r'
        refine ⟨rfl, OldK.of_keep fun b o e => ?_, os, bare⟩
        cases q : H b with
        | none => exact un.keep b o e q (by intro z; exact absurd (show b ∈ ([] : List Addr) from z) (by simp)) (by simp)
        | some u =>
          rcases hO b with z | ⟨ob, xs, z⟩
          · rw [q] at z; cases z
          · have z2 := un.frzs b ob _ z
            obtain ⟨e1, _⟩ := hok b _ z
            obtain ⟨e2, _⟩ := hok' b _ z2
            rw [e] at e1; cases e1
            exact e2
  cases hk : K.lookup a with
  | some o =>
    have e := KX a o hk
    rw [ha] at e
    cases e
    refine core (fun _ => none) (fun _ => .inl rfl) (.inr ⟨_, vs.toArray, _, hk, rfl, rfl, rfl, by rw [List.size_toArray, lenV]; exact hl, by simpa using rv⟩) (fun b u z => by have z' : (none : Option HO) = some u := z; cases z') (fun b z => absurd rfl z) fun z => absurd rfl z
  | none =>
    refine core (fun b => if b = a then some (.frz { cls := .type "list", data := .seq vs.toArray } (.lst (ns.map V.int))) else none) (fun b => ?_) (.inl (.inr ⟨{ cls := .type "list", data := .seq vs.toArray }, if_pos rfl⟩)) (fun b u z => ?_) (fun b z => ?_) fun _ => hk
    · by_cases hb : b = a
      · exact .inr ⟨_, _, if_pos hb⟩
      · exact .inl (if_neg hb)
    · by_cases hb : b = a
      · have z' := (if_pos hb).symm.trans z
        cases z'
        subst hb
        exact ⟨ha, by rw [List.length_map]; exact hl, vs, _, rv, ha⟩
      · have z' := (if_neg hb).symm.trans z
        cases z'
    · by_cases hb : b = a
      · exact hb
      · exact absurd (if_neg hb) z
end L2
namespace L2
open PySem PySem.Spec PyProof.Rows
theorem walk_of {l : PySem.W.OpenLaw} {n k : Nat} {q : Program} {loose : List Str} {XP : (Str → Option Value) → Heap → Prop} {YP : World → Heap → Prop} {d : DefRec} {K : Params → PySem.W.Frag} {CX : World → CXT} {sp : World → Sp} {x : Str}
    (hn : l.most = some n) (hn2 : n ≤ sizeLine) (hdf : d.params.defaults = []) (hr : Room k callerA)
    (hY : ∀ (w : World) (h : Heap), YP w h → (K w.params).In h)
    (F : ∀ (w : World) (mg : Str → Option Value) (fa : Addr) (h : Heap), (K w.params).In h → h.Ns mainGlobals mg → mg d.name = some (.ref fa) →
      ∃ fd : FuncData, (∀ (s : Shared) (u : Value), BindsTo s fd ⟨[u], []⟩ [(x, u)]) ∧
        ∀ base : Heap, (K w.params).In base → base.Ns mainGlobals mg → FnOk l.prog w (K w.params) mg base (CX w) k fa fd [x] (sp w))
    (hsp : ∀ (w : World) (H : Hp) (a : Addr) (ns : List Int), ns.length ≤ n → Only H → SqL (K w.params) H a (ns.map V.int) → sp w [.ref a] H (fun v _ => v = .bl true) fun _ _ _ => False)
    (hCX : ∀ (w : World) (H : Hp) (s : Shared) (e : Value) (s' : Shared), CX w [] H s (fun _ _ _ => False) e s' → False) :
    PySem.W.WalkO q loose XP YP l.row.toRowW d [] (fun f vs => PySem.call f vs) := by
  refine Att.attach_call hn hdf fun w s₀ s₁ mg mb fa o pm cd doc a vs ns G Y ho hd hcd hmg hobj hints hlen hg => ?_
  have KX := hY w _ Y
  obtain ⟨fd, hb, hF⟩ := F w mg fa _ KX G.T.g hmg
  exact law_call KX G.T.g G.T.b G.T.builtins G.T.nolimit hg hobj hints (Nat.le_trans hlen hn2) hr hF hb (fun H hO hS => hsp w H a ns hlen hO hS) fun H e s' => hCX w H s₁ e s'
end L2
namespace L2
open PySem PySem.Spec PyProof.Rows
def inClass (s : Stmt) (j : Nat) : Stmt := match s with
  | .ClassDef _ _ _ body _ _ _ _ _ _ _ => body.getD j (.Pass ⟨0, 0, 0, 0⟩)
  | _ => .Pass ⟨0, 0, 0, 0⟩
def defArgs (s : Stmt) : Arguments := match s with
  | .FunctionDef _ a _ _ _ _ _ _ _ _ => a
  | _ => { posonlyargs := [], args := [], vararg := none, kwonlyargs := [], kw_defaults := [], kwarg := none, defaults := [] }
def defBody (s : Stmt) : List Stmt := match s with
  | .FunctionDef _ _ b _ _ _ _ _ _ _ => b
  | _ => []
def defScope (s : Stmt) : Scope := match s with
  | .FunctionDef _ _ _ _ _ _ sc _ _ _ => sc
  | _ => { kind := .function, names := [], isGenerator := false, isCoroutine := false }
abbrev CX0 : CXT := fun _ _ _ _ _ _ => False
abbrev E0 : XK := fun _ _ _ => False
theorem pass0 {X : Cx} : Passes CX0 X E0 := fun _ _ _ _ _ _ _ h => h.elim
structure Fun (K : PySem.W.Frag) (x qual : Str) (st : Stmt) (f : Addr) (fd : FuncData) : Prop where
  ex : ∃ (oc : Value) (od : Option Addr) (kV doc pm : Value) (an : Option Addr) (cdv ct : Value) (osl : Array (Option Value)),
    fd = PySem.W.fnOf x qual (defArgs st) (defBody st) (defScope st) .none kV doc pm an cdv ct ∧ K.lookup f = some ⟨oc, od, .func fd, osl⟩ ∧ PySem.W.codeIn K cdv qual = true
  kp : PySem.W.keepIn K (.ref f) = true
section
variable {P : Program} {w : World} {K : PySem.W.Frag} {mg : Str → Option Value} {base : Heap}
theorem Fun.ok {x qual : Str} {st : Stmt} {f : Addr} {fd : FuncData} {N ps : List Str} {k : Nat} {sp : Sp} (F : Fun K x qual st f fd) (S : FnScope N ps (defScope st)) (len : ∀ vs H Q E, sp vs H Q E → vs.length = ps.length)
    (hbody : ∀ (cdv : Value) (A : Around) (outer : List Env) (s : Shared) (H : Hp) (vs : List V) (Q : VK) (E : XK), Room k (A.deeper (envOfC qual (defScope st) s.heap.objs.size f cdv)) → sp vs H Q E →
      ∃ t, PSs (cxOf CX0 P w K mg base N qual (defScope st) f cdv A outer s H E).nox (defBody st) t ∧ t { nx := fun _ H' => Q .non H', rt := Q } (start N vs) H) : FnOk P w K mg base CX0 (k + 1) f fd ps sp := by
  obtain ⟨oc, od, kV, doc, pm, an, cdv, ct, osl, rfl, lk, hcd⟩ := F.ex
  refine fn_of lk hcd S len fun A outer s H vs Q E hr hsp => ?_
  obtain ⟨t, h, q⟩ := hbody cdv A outer s H vs Q E hr hsp
  exact ⟨t, h.nox, q⟩
theorem Fun.binds {x qual : Str} {st : Stmt} {f : Addr} {fd : FuncData} {ps : List Str} (F : Fun K x qual st f fd)
    (h : ∀ (kV doc pm : Value) (an : Option Addr) (cdv ct : Value) (us : List Value), us.length = ps.length → bindArgs (PySem.W.fnOf x qual (defArgs st) (defBody st) (defScope st) .none kV doc pm an cdv ct) ⟨us, []⟩ = pure (ps.zip us)) : Binds K fd ps [] := by
  obtain ⟨oc, od, kV, doc, pm, an, cdv, ct, osl, rfl, lk, hcd⟩ := F.ex
  exact .all (h kV doc pm an cdv ct)
theorem fun_mk {x qual : Str} {st : Stmt} {f : Addr} {oc : Value} {od an : Option Addr} {osl : Array (Option Value)} {kV doc pm cdv ct : Value} (l : K.lookup f = some ⟨oc, od, .func (PySem.W.fnOf x qual (defArgs st) (defBody st) (defScope st) .none kV doc pm an cdv ct), osl⟩)
    (c : PySem.W.codeIn K cdv qual = true) (k : PySem.W.keepIn K (.ref f) = true) : Fun K x qual st f (PySem.W.fnOf x qual (defArgs st) (defBody st) (defScope st) .none kV doc pm an cdv ct) := ⟨⟨oc, od, kV, doc, pm, an, cdv, ct, osl, rfl, l, c⟩, k⟩
end
theorem hu_of {A : Around} {k : Nat} (hr : Room k A) : A.units + 1 < cLine := Nat.lt_of_le_of_lt (Nat.add_le_add_left (by decide : 1 ≤ 64) _) hr.units
section
variable {X : Cx}
theorem pv (i : Nat) {x : Str} {pos : Pos} (hN : X.N[i]? = some x := by rfl) (hv : Vis X.env.scope x := by first | exact Or.inl rfl | exact Or.inr (Or.inl rfl) | exact Or.inr (Or.inr rfl)) (hd : (x == ("__debug__" : Str)) = false := by decide)
    (hcd : (x == ("__classdict__" : Str)) = false := by decide) : PE X (.Name x pos) (tVar i) := pe_var hN hv hd hcd
end
theorem iteF {A B : Prop} (h : B) : if false = true then A else B := by
  rw [if_neg Bool.false_ne_true]
  exact h
theorem iteT {A B : Prop} (h : A) : if true = true then A else B := by
  rw [if_pos rfl]
  exact h
theorem ite2 {c A B : Prop} [Decidable c] (h1 : c → A) (h2 : ¬ c → B) : if c then A else B := by
  by_cases h : c
  · rw [if_pos h]
    exact h1 h
  · rw [if_neg h]
    exact h2 h
def Same (H H' : Hp) : Prop := ∀ b o, H b = some o → H' b = some o
theorem Same.refl (H : Hp) : Same H H := fun _ _ h => h
theorem Same.trans {H H1 H2 : Hp} (a : Same H H1) (b : Same H1 H2) : Same H H2 := fun c o h => b c o (a c o h)
theorem Same.free {H H' : Hp} (e : Same H H') {l : Addr} (h : H' l = Option.none) : H l = Option.none := by
  cases q : H l with
  | none => rfl
  | some o =>
    rw [e l o q] at h
    cases h
theorem Same.seq {K : PySem.W.Frag} {H H' : Hp} {a : Addr} {xs : List V} (e : Same H H') (h : SqL K H a xs) : SqL K H' a xs := by
  rcases h with (h | ⟨o, h⟩) | h
  · exact .inl (.inl (e _ _ h))
  · exact .inl (.inr ⟨o, e _ _ h⟩)
  · exact .inr h
end L2
set_option maxHeartbeats 4000000
namespace L2
open PySem PySem.Spec PyProof.Rows
def clOf (cells : List (Str × Addr)) : List (Str × NameKind) → List (Str × Addr) → List (Str × Addr)
  | [], acc => acc
  | (n, k) :: r, acc => if k == .free then clOf cells r ((n, (cells.lookup n).getD 0) :: acc) else clOf cells r acc
theorem closure_of {env : Env} {names : List (Str × NameKind)} (h : ∀ n, (n, NameKind.free) ∈ names → ∃ c, env.cells.lookup n = some c) :
    ∀ acc, (forIn names acc fun (x : Str × NameKind) (cs : List (Str × Addr)) => (match x with
      | (name, kind) => if (kind == NameKind.free) = true then do let c ← cellOf env name; pure (ForInStep.yield ((name, c) :: cs)) else pure (ForInStep.yield cs) : Sem (ForInStep (List (Str × Addr))))) = pure (clOf env.cells names acc) := by
  induction names with
  | nil => intro acc; rfl
  | cons x r ih =>
    intro acc
    obtain ⟨n, k⟩ := x
    have ih' := ih fun m hm => h m (List.mem_cons_of_mem _ hm)
    rw [List.forIn_cons]
    by_cases hk : k = .free
    · subst hk
      obtain ⟨c, hc⟩ := h n List.mem_cons_self
      have e : cellOf env n = pure c := by unfold cellOf; rw [hc]
      simp only [beq_self_eq_true, if_true, e, pure_bind]
      rw [ih']
      show _ = pure (clOf env.cells r ((n, (env.cells.lookup n).getD 0) :: acc))
      rw [hc]; rfl
    · have hb : (k == NameKind.free) = false := by simpa using hk
      simp only [hb, Bool.false_eq_true, if_false, pure_bind]
      rw [ih']
      show _ = pure (if (k == NameKind.free) = true then _ else clOf env.cells r acc)
      rw [hb]; rfl
theorem closureFor_of {scope : Scope} {env : Env} (h : ∀ n, (n, NameKind.free) ∈ scope.names → ∃ c, env.cells.lookup n = some c) : closureFor scope env = pure (clOf env.cells scope.names []) := by
  have e := closure_of h []
  unfold closureFor
  simp only [bind_pure_comp] at *
  first
    | exact e
    | (rw [show (forIn scope.names ([] : List (Str × Addr)) _) = _ from e]; rfl)
theorem cl_sub {cells : List (Str × Addr)} : ∀ {names : List (Str × NameKind)} {acc : List (Str × Addr)}, (∀ n, (n, NameKind.free) ∈ names → ∃ c, cells.lookup n = some c) → (∀ x c, acc.lookup x = some c → cells.lookup x = some c) →
    ∀ x c, (clOf cells names acc).lookup x = some c → cells.lookup x = some c
  | [], _, _, ha, x, c, e => ha x c e
  | (n, k) :: r, acc, h, ha, x, c, e => by
    by_cases hk : k = .free
    · subst hk
      obtain ⟨d, hd⟩ := h n List.mem_cons_self
      refine cl_sub (names := r) (acc := (n, (cells.lookup n).getD 0) :: acc) (fun m hm => h m (List.mem_cons_of_mem _ hm)) (fun y z q => ?_) x c e
      rw [List.lookup_cons] at q
      by_cases hy : y = n
      · subst hy
        simp only [beq_self_eq_true, hd, Option.getD_some] at q
        rw [hd]; exact q
      · have hb : (y == n) = false := beq_eq_false_iff_ne.mpr hy
        simp only [hb] at q
        exact ha y z q
    · have hb : (k == NameKind.free) = false := by simpa using hk
      have e' : (clOf cells r acc).lookup x = some c := by
        have : clOf cells ((n, k) :: r) acc = clOf cells r acc := by show (if (k == NameKind.free) = true then _ else _) = _; rw [hb]; rfl
        rw [← this]; exact e
      exact cl_sub (names := r) (fun m hm => h m (List.mem_cons_of_mem _ hm)) ha x c e'
theorem cl_has {cells : List (Str × Addr)} : ∀ {names : List (Str × NameKind)} {acc : List (Str × Addr)} {x : Str}, ((x, NameKind.free) ∈ names ∨ ∃ c, acc.lookup x = some c) → ∃ c, (clOf cells names acc).lookup x = some c
  | [], _, _, h => by
    rcases h with h | h
    · simp at h
    · exact h
  | (n, k) :: r, acc, x, h => by
    by_cases hk : k = .free
    · subst hk
      show ∃ c, (clOf cells r ((n, (cells.lookup n).getD 0) :: acc)).lookup x = some c
      refine cl_has (names := r) ?_
      by_cases hx : x = n
      · subst hx
        exact .inr ⟨_, by rw [List.lookup_cons]; simp only [beq_self_eq_true]; rfl⟩
      · have hb : (x == n) = false := beq_eq_false_iff_ne.mpr hx
        rcases h with h | ⟨c, h⟩
        · rcases List.mem_cons.mp h with q | q
          · exact absurd (Prod.mk.inj q).1 hx
          · exact .inl q
        · exact .inr ⟨c, by rw [List.lookup_cons]; simp only [hb]; exact h⟩
    · have hb : (k == NameKind.free) = false := by simpa using hk
      have : clOf cells ((n, k) :: r) acc = clOf cells r acc := by show (if (k == NameKind.free) = true then _ else _) = _; rw [hb]; rfl
      rw [this]
      refine cl_has (names := r) ?_
      rcases h with h | h
      · rcases List.mem_cons.mp h with q | q
        · exact absurd (Prod.mk.inj q).2.symm hk
        · exact .inl q
      · exact .inr h
def relK (env : Env) (x : Str) (k : NameKind) : NameKind := if (k == NameKind.free && env.scope.kind == .function && env.kindOf x == some .cell) = true then .cell else k
theorem relabel_lookup {env : Env} {x : Str} : ∀ {names : List (Str × NameKind)},
    (names.map fun (n, k) => if (k == NameKind.free && env.scope.kind == .function && env.kindOf n == some .cell) then (n, NameKind.cell) else (n, k)).lookup x = (names.lookup x).map (relK env x)
  | [] => rfl
  | (n, k) :: r => by
    have ih := @relabel_lookup env x r
    show List.lookup x ((if (k == NameKind.free && env.scope.kind == .function && env.kindOf n == some .cell) = true then (n, NameKind.cell) else (n, k)) :: _) = _
    by_cases hx : x = n
    · subst hx
      rw [List.lookup_cons]
      unfold relK
      by_cases hc : (k == NameKind.free && env.scope.kind == .function && env.kindOf x == some .cell) = true
      · rw [if_pos hc, List.lookup_cons]; simp only [beq_self_eq_true, Option.map_some]; rw [if_pos hc]
      · rw [if_neg hc, List.lookup_cons]; simp only [beq_self_eq_true, Option.map_some]; rw [if_neg hc]
    · have hb : (x == n) = false := beq_eq_false_iff_ne.mpr hx
      rw [List.lookup_cons (k := n)]
      by_cases hc : (k == NameKind.free && env.scope.kind == .function && env.kindOf n == some .cell) = true
      · rw [if_pos hc, List.lookup_cons]; simp only [hb]; exact ih
      · rw [if_neg hc, List.lookup_cons]; simp only [hb]; exact ih
theorem mem_of_lookup {κ β : Type} [BEq κ] [LawfulBEq κ] {x : κ} {b : β} : ∀ {l : List (κ × β)}, l.lookup x = some b → (x, b) ∈ l
  | [], h => by simp at h
  | (n, k) :: r, h => by
    rw [List.lookup_cons] at h
    cases hb : x == n with
    | true =>
      rw [hb] at h
      have e1 := LawfulBEq.eq_of_beq hb
      have e2 : k = b := by simpa using h
      subst e1 e2
      exact List.mem_cons_self
    | false =>
      rw [hb] at h
      exact List.mem_cons_of_mem _ (mem_of_lookup h)
def Cx.blk (X : Cx) (scope : Scope) (N' : List Str) (C : Addr) (s₂ : Shared) (H₂ : Hp) (ex : List Addr) : Cx :=
  { X with N := N', s₀ := s₂, H₀ := H₂, env := compEnvC scope (clOf X.env.cells scope.names []) C X.env, outer := X.stack, stack := X.stack, ex := ex, fn := fun _ => false, pn := [], xe := fun _ _ => False }
structure CompScope (X : Cx) (scope : Scope) (N' : List Str) (ix : List (Option Nat)) : Prop where
  kind : scope.kind = .function
  cell : ∀ y ∈ scope.names, y.2 ≠ .cell
  own : ∀ y ∈ scope.names, y.2 = .local → scope.names.lookup y.1 = some .local
  free : ∀ y ∈ scope.names, y.2 = .free → (X.env.kindOf y.1 = some .cell ∨ X.env.kindOf y.1 = some .free)
  once : ∀ x, (x, NameKind.local) ∈ scope.names → (x, NameKind.free) ∈ scope.names → False
  len : ix.length = N'.length
  out : ∀ (i j : Nat), ix[i]? = some (some j) → X.N[j]? = N'[i]? ∧ ∀ x, N'[i]? = some x → (x, NameKind.free) ∈ scope.names ∧ Vis X.env.scope x
def takes (ix : List (Option Nat)) (σ : St) : St := ix.map fun o => o.bind fun j => (σ[j]?).join
section
variable {X : Cx} {pins : List (Addr × Obj)} {σ : St} {H : Hp} {s : Shared} {scope : Scope} {N' : List Str} {ix : List (Option Nat)} {fp : List Addr}
theorem blk_free (I : Inv X pins σ H s) (S : CompScope X scope N' ix) : ∀ n, (n, NameKind.free) ∈ scope.names → ∃ c, X.env.cells.lookup n = some c := fun n hn => I.ok.has n (S.free _ hn rfl)
theorem blk_sub (I : Inv X pins σ H s) (S : CompScope X scope N' ix) : ∀ x c, (clOf X.env.cells scope.names []).lookup x = some c → X.env.cells.lookup x = some c :=
  cl_sub (blk_free I S) fun x c e => by simp at e
theorem blk_has (I : Inv X pins σ H s) (S : CompScope X scope N' ix) {x : Str} (h : (x, NameKind.free) ∈ scope.names) : ∃ c, (clOf X.env.cells scope.names []).lookup x = some c ∧ X.env.cells.lookup x = some c := by
  obtain ⟨c, e⟩ := cl_has (cells := X.env.cells) (acc := []) (.inl h)
  exact ⟨c, e, blk_sub I S x c e⟩
theorem blk_kind {C : Addr} (x : Str) : (compEnvC scope (clOf X.env.cells scope.names []) C X.env).kindOf x = (scope.names.lookup x).map (relK X.env x) := relabel_lookup
theorem blk_ok {C : Addr} (I : Inv X pins σ H s) (S : CompScope X scope N' ix) (hC : s.heap.objs.size ≤ C) (hf : ∀ b ∈ fp, FpOk X pins H b) (hfo : ∀ b ∈ fp, b < C) : (X.blk scope N' C s H fp).Ok where
  mod := I.ok.mod
  kind := S.kind
  glob := I.ok.glob
  blt := I.ok.blt
  above := hC
  inj := fun x y c h1 h2 => I.ok.inj x y c (blk_sub I S x c h1) (blk_sub I S y c h2)
  has := fun x hx => by
    have hx' : (scope.names.lookup x).map (relK X.env x) = some .cell ∨ (scope.names.lookup x).map (relK X.env x) = some .free := by
      rw [← blk_kind (C := C)]; exact hx
    cases e : scope.names.lookup x with
    | none => rw [e] at hx'; rcases hx' with z | z <;> cases z
    | some k =>
      have hm := mem_of_lookup e
      have hk : k = .free := by
        rw [e] at hx'
        have h1 := S.cell _ hm
        unfold relK at hx'
        by_cases hc : (k == NameKind.free && X.env.scope.kind == .function && X.env.kindOf x == some .cell) = true
        · simp only [Bool.and_eq_true, beq_iff_eq] at hc
          exact hc.1.1
        · simp only [Option.map_some, hc, if_false, Bool.false_eq_true] at hx'
          rcases hx' with z | z
          · exact absurd (Option.some.inj z) h1
          · exact Option.some.inj z
      subst hk
      obtain ⟨c, h1, _⟩ := blk_has I S hm
      exact ⟨c, h1⟩
  cab := fun x c h => by cases h
  hd := I.ok.hd
  frames := I.ok.frames
  stk := .inl rfl
  exf := fun b hb => ⟨Nat.ne_of_lt (hfo b hb), fun x c e => (hf b hb).2.2.2.2.1 x c (blk_sub I S x c e)⟩
  bs := I.bs
  bsz := Nat.le_trans I.ok.bsz I.sz
  noex := fun b o e hb => by
    rcases (hf b hb).2.2.2.1 with z | z
    · exact I.ok.noex b o e z
    · exact absurd (Nat.lt_of_lt_of_le (Heap.lt_size e) (Nat.le_trans I.ok.bsz z)) (Nat.lt_irrefl _)
  exfs := fun b hb z => by
    rcases List.mem_cons.mp (I.stkSub b z) with q | q
    · exact (hf b hb).2.1 q
    · exact (hf b hb).2.2.1 q
  funs := I.stack
  frf := I.stkFree
theorem blk_inv {C : Addr} {h' : Heap} {t' : Nat} {m : Str → Option Value} (I : Inv X pins σ H s) (S : CompScope X scope N' ix) (hC : s.heap.objs.size ≤ C) (hf : ∀ b ∈ fp, FpOk X pins H b) (hfo : ∀ b ∈ fp, b < C)
    (k : ∀ b o, s.heap.get? b = some o → h'.get? b = some o) (hn : h'.Ns C m) : Inv (X.blk scope N' C s H fp) [] (takes ix σ) H { s with heap := h', toks := t' } where
  ok := blk_ok I S hC hf hfo
  os := rfl
  bare := I.bare
  base := Un.kept k
  loc := ⟨m, hn, fun i x v e1 e2 e3 => by
    have e2' : (ix[i]?).map (fun o => o.bind fun j => (σ[j]?).join) = some (some v) := by rw [← List.getElem?_map]; exact e2
    cases q : ix[i]? with
    | none => rw [q] at e2'; cases e2'
    | some o =>
      rw [q] at e2'
      cases o with
      | none => cases e2'
      | some j =>
        have e2'' : (σ[j]?).join = some v := by simpa using e2'
        have e4 : σ[j]? = some (some v) := by
          cases z : σ[j]? with
          | none => rw [z] at e2''; cases e2''
          | some y => rw [z] at e2''; exact congrArg some e2''
        obtain ⟨o1, o2⟩ := S.out i j q
        have e1' : N'[i]? = some x := e1
        obtain ⟨o3, o4⟩ := o2 x e1'
        obtain ⟨m0, hn0, hl⟩ := I.loc
        obtain ⟨u, r, l⟩ := hl j x v (o1.trans e1') e4 o4
        refine ⟨u, r, .inr ?_⟩
        obtain ⟨c, c1, c2⟩ := blk_has I S o3
        have fk := S.free _ o3 rfl
        have hcell : h'.IsCell c (some u) := by
          rcases l with ⟨lk, _⟩ | ⟨_, c', lc, lz⟩
          · rcases fk with z | z <;> (rw [lk] at z; cases z)
          · rw [c2] at lc; cases lc
            exact lz.keeps k
        refine ⟨?_, c, c1, hcell⟩
        have hkd : (scope.names.lookup x).map (relK X.env x) = some (relK X.env x ((scope.names.lookup x).getD .free)) := by
          cases z : scope.names.lookup x with
          | none =>
            exfalso
            have : ∀ {l : List (Str × NameKind)}, (x, NameKind.free) ∈ l → l.lookup x ≠ none := by
              intro l
              induction l with
              | nil => intro h; simp at h
              | cons y r ih =>
                intro h
                rw [List.lookup_cons]
                rcases List.mem_cons.mp h with q | q
                · rw [← q]; simp
                · cases hb : x == y.1 with
                  | true => simp
                  | false => exact ih q
            exact this o3 z
          | some k => rfl
        have hvis : Vis (compEnvC scope (clOf X.env.cells scope.names []) C X.env).scope x := e3
        have hkx : (compEnvC scope (clOf X.env.cells scope.names []) C X.env).kindOf x = some .local ∨ (compEnvC scope (clOf X.env.cells scope.names []) C X.env).kindOf x = some .cell ∨ (compEnvC scope (clOf X.env.cells scope.names []) C X.env).kindOf x = some .free := hvis
        rcases hkx with z | z
        · exfalso
          rw [blk_kind] at z
          cases w : scope.names.lookup x with
          | none => rw [w] at z; cases z
          | some k =>
            rw [w] at z
            have z' : relK X.env x k = .local := Option.some.inj z
            unfold relK at z'
            split at z'
            · cases z'
            · subst z'
              have := S.once x (mem_of_lookup w) o3
              exact this
        · exact z⟩
  cell := fun x c e => by
    obtain ⟨v, z⟩ := I.cell x c (blk_sub I S x c e)
    exact ⟨v, z.keeps k⟩
  free := I.hok.fresh hC
  freeC := fun x c e => I.freeC x c (blk_sub I S x c e)
  pin := fun p hp => nomatch hp
  hok := I.hok.kept k
  len := by
    show (takes ix σ).length = N'.length
    unfold takes
    rw [List.length_map]; exact S.len
theorem blk_back {C D : Addr} {h' : Heap} {s' : Shared} {H' : Hp} {σ' : St} {pins' : List (Addr × Obj)} {ys : List V} {its : List Value} {n : Nat} (I : Inv X pins σ H s) (hD : s.heap.objs.size ≤ D) (hDC : D < C) (hf : ∀ b ∈ fp, FpOk X pins H b)
    (I' : Inv (X.blk scope N' C s H (D :: fp)) pins' σ' H' s') (hs : Heap.SameBut C s'.heap h') (hDn : H' D = none) (hl : ys.length ≤ sizeLine) (rv : Vals ys its) (ho : s'.heap.get? D = some { cls := .type "list", data := .seq its.toArray n }) :
    Inv X pins σ (upd H' D (.lst ys)) { s' with heap := h' } := by
  have nD : ∀ b o, s.heap.get? b = some o → b ≠ D := fun b o e => Nat.ne_of_lt (Nat.lt_of_lt_of_le (Heap.lt_size e) hD)
  have nC : ∀ b o, s.heap.get? b = some o → b ≠ C := fun b o e => Nat.ne_of_lt (Nat.lt_trans (Nat.lt_of_lt_of_le (Heap.lt_size e) hD) hDC)
  have nt : ∀ b o, H b = some o → b ≠ D := fun b o e => Nat.ne_of_lt (Nat.lt_of_lt_of_le (I.hok.lt e) hD)
  have nx : ∀ b o, s.heap.get? b = some o → b ∉ fp → b ∉ D :: fp := fun b o e hb z => by
    rcases List.mem_cons.mp z with q | q
    · exact nD b o e q
    · exact hb q
  have ho' : h'.get? D = some { cls := .type "list", data := .seq its.toArray n } := (hs.2 D (Nat.ne_of_lt hDC)).trans ho
  have hbase : Un (frs X.stack) (D :: fp) H H' s.heap s'.heap := I'.base
  have hfreeC : H' C = none := I'.free
  refine I.call' (ch := fp) (s' := { s' with heap := h' }) I'.os ⟨fun b o e n hb hx => ?_, fun b o e n hb hx => ?_, fun b o e n hx => ?_, fun b o e hx => ?_, fun b xs e => ?_, fun b o u e => ?_, fun b ps e => ?_⟩ (fun b u e => ?_) I'.bare (fun b hb => ?_)
  · exact (hs.2 b (nC b o e)).trans (hbase.keep b o e n hb (nx b o e hx))
  · obtain ⟨sl, q⟩ := hbase.slot b o e n hb (nx b o e hx)
    exact ⟨sl, (hs.2 b (nC b o e)).trans q⟩
  · rw [upd_ne (nD b o e)]; exact hbase.free b o e n (nx b o e hx)
  · obtain ⟨o', q⟩ := hbase.there b o e (nx b o e hx)
    exact ⟨o', (hs.2 b (nC b o e)).trans q⟩
  · rw [upd_ne (nt b _ e)]; exact hbase.tups b xs e
  · rw [upd_ne (nt b _ e)]; exact hbase.frzs b o u e
  · rw [upd_ne (nt b _ e)]; exact hbase.tbls b ps e
  · by_cases hb : b = D
    · subst hb
      rw [upd_same] at e; cases e
      exact ⟨hl, its, n, rv, ho'⟩
    · rw [upd_ne hb] at e
      refine (I'.hok b u e).stay (fun c v hc q => (hs.2 c ?_).trans q) (fun c q => ?_) fun c xs q => ?_
      · rintro rfl
        rcases hc with z | z
        · subst z; rw [hfreeC] at e; cases e
        · rw [hfreeC] at z; cases z
      · rw [upd_ne (ne_of_none q hDn)]; exact q
      · rw [upd_ne (ne_of_none q hDn)]; exact q
  · exact ⟨(hf b hb).2.2.2.1, (hf b hb).2.1, (hf b hb).2.2.2.2.1, (hf b hb).2.2.2.2.2⟩
end
def PIfs (X : Cx) (ifs : List Expr) (tc : TT) : Prop :=
  ∀ (pins : List (Addr × Obj)) (s : Shared) (σ : St) (H : Hp) (Q : Bool → Hp → Prop), Inv X pins σ H s → tc σ H Q →
    wpAny (model X.prog X.w) X.A (forIn ifs true fun c r => if r = true then do let ok ← isTrue c X.env (eval c X.env); pure (ForInStep.yield ok) else pure (ForInStep.yield r)) (TP X pins σ Q) X.xe s
def tYes : TT := fun _ H Q => Q true H
theorem pifs_nil {X : Cx} : PIfs X [] tYes := fun _ _ _ H _ I h => wpAny_tests_nil ⟨H, I, h⟩
theorem pifs_one {X : Cx} {c : Expr} {tc : TT} (hc : PT X c tc) : PIfs X [c] tc := fun pins s σ H Q I h => wpAny_tests_one (hc pins s σ H Q I h)
structure TgsOwn (g : TGs) (own : List Nat) : Prop where
  mono : ∀ v σ H (Q Q' : St → Hp → Prop), (∀ σ' H', Q σ' H' → Q' σ' H') → g v σ H Q → g v σ H Q'
  own : ∀ v σ H (Q : St → Hp → Prop), g v σ H Q → g v σ H fun σ' H' => Q σ' H' ∧ σ'.length = σ.length ∧ ∀ k, k ∉ own → σ'[k]? = σ[k]?
def TgOwn (g : TG) (own : List Nat) : Prop := ∀ v σ H (Q : St → Hp → Prop), g v σ H Q → g v σ H fun σ' H' => Q σ' H' ∧ σ'.length = σ.length ∧ ∀ k, k ∉ own → σ'[k]? = σ[k]?
theorem own_name {i : Nat} : TgOwn (gName i) [i] := fun v σ H Q h => ⟨h, List.length_set, fun k hk => List.getElem?_set_ne (fun e => hk (by simp [e]))⟩
theorem owns_nil : TgsOwn gNil [] := ⟨fun _ _ _ _ _ f h => ⟨h.1, f _ _ h.2⟩, fun v σ H Q h => ⟨h.1, h.2, rfl, fun _ _ => rfl⟩⟩
theorem owns_cons {i : Nat} {u : TGs} {own : List Nat} (hu : TgsOwn u own) : TgsOwn (gCons (gName i) u) (i :: own) where
  mono := fun vs σ H Q Q' f ⟨v, r, e, h⟩ => ⟨v, r, e, hu.mono r _ H Q Q' f h⟩
  own := fun vs σ H Q ⟨v, r, e, h⟩ => ⟨v, r, e, hu.mono r _ H _ _ (fun σ' H' q => ⟨q.1, q.2.1.trans List.length_set, fun k hk => by
    have hk' : k ∉ own := fun z => hk (List.mem_cons_of_mem _ z)
    have hki : i ≠ k := fun z => hk (by simp [z])
    rw [q.2.2 k hk', List.getElem?_set_ne hki]⟩) (hu.own r (σ.set i (some v)) H Q h)⟩
theorem own_tup {K : PySem.W.Frag} {n : Nat} {t : TGs} {own : List Nat} (ht : TgsOwn t own) : TgOwn (gTup K n t) own := fun v σ H Q ⟨a, xs, e, q, l, h⟩ => ⟨a, xs, e, q, l, ht.own xs σ H Q h⟩
def tComp (wi : TI) (ix : List (Option Nat)) (g : TG) (tc : TT) (te : TE) : TE := fun σ H Q => wi σ H fun J H1 => ∃ (n : Nat) (Pv : Nat → List V → Hp → Prop), n ≤ sizeLine ∧ Pv 0 [] H1 ∧
  (∀ i ys H2, i < n → Pv i ys H2 → J.go i H2 ∧ ∀ x H3, J.yld i H2 x H3 → g x (takes ix σ) H3 fun σ4 H4 => tc σ4 H4 fun b H5 => if b = true then te σ4 H5 fun y H6 => Pv (i + 1) (ys ++ [y]) H6 else Pv (i + 1) ys H5) ∧
  ∀ ys H2, Pv n ys H2 → J.stop n H2 ∧ ∀ D, H2 D = none → Q (.ref D) (upd H2 D (.lst ys))
section
variable {X : Cx} {elt iter tg : Expr} {ifs : List Expr} {scope : Scope} {pos : Pos} {N' : List Str} {ix : List (Option Nat)} {own : List Nat} {wi : TI} {g : TG} {tc : TT} {te : TE}
theorem comp_core {use : Option (Value → Sem Unit)} {QQ : Value → Shared → Prop} (hcalm : X.calm = true) (S : CompScope X scope N' ix) (hown : ∀ k ∈ own, ix[k]? = some none) (hi : PI X tg iter wi)
    (hg : ∀ C s₂ H₂ ex, PG (X.blk scope N' C s₂ H₂ ex) tg g) (hgo : TgOwn g own) (hc : ∀ C s₂ H₂ ex, PIfs (X.blk scope N' C s₂ H₂ ex) ifs tc) (he : ∀ C s₂ H₂ ex, PE (X.blk scope N' C s₂ H₂ ex) elt te)
    (hs : ∀ x, foldedSetIterable iter X.env x = pure x) {pins : List (Addr × Obj)} {s : Shared} {σ : St} {H : Hp} {Q : VK} (I : Inv X pins σ H s) (h : tComp wi ix g tc te σ H Q)
    (hend : ∀ (s2 : Shared) (H2 : Hp) (fp : List Addr) (C D : Addr) (s4 : Shared) (H' : Hp) (ys : List V) (its : List Value) (k : Nat) (pins' : List (Addr × Obj)) (σ' : St), Inv X pins σ H2 s2 → s2.heap.objs.size ≤ D → D < C → (∀ b ∈ fp, FpOk X pins H2 b) →
      Inv (X.blk scope N' C s2 H2 (D :: fp)) pins' σ' H' s4 → H' D = none → ys.length ≤ sizeLine → Vals ys its → s4.heap.get? D = some { cls := .type "list", data := .seq its.toArray k } → Q (.ref D) (upd H' D (.lst ys)) →
      compPost (model X.prog X.w) X.A X.xe use QQ (.ref D) C (.ok .next) s4) (p' : Pos) :
    wpAny (model X.prog X.w) X.A (comprehension (.ListComp elt [⟨tg, iter, ifs, 0⟩] scope pos) scope X.env p' (newList []) false (eval iter X.env) use) QQ X.xe s := by
  refine wpAny_comprehension_free (use := use) (cl := clOf X.env.cells scope.names []) rfl hs (closureFor_of (blk_free I S)) S.kind S.own ?_
  refine thn (hi pins s σ H _ I h) fun v s1 h1 => thn h1 fun itv s2 h2 => ?_
  obtain ⟨it, fp, tn, J, H2, e, I2, T, st2, f2, n, Pv, hn, p0, turn, fin⟩ := h2
  subst e
  refine wpAny_newObj_type (wpAny_newFunctionEnv S.cell (by intro y hy; simp at hy) (fun h₁ hns₁ hsb₁ => ?_) S.kind)
  dsimp only at hns₁ hsb₁ ⊢
  generalize hH2 : s2.heap.push { cls := .type "list", dict := none, data := .seq ([] : List Value).toArray } = G2 at hns₁ hsb₁ ⊢
  have hC : G2.objs.size = s2.heap.objs.size + 1 := by rw [← hH2, Heap.size_push]
  have hDC : s2.heap.objs.size < G2.objs.size := by rw [hC]; exact Nat.lt_succ_self _
  have hCle : s2.heap.objs.size ≤ G2.objs.size := Nat.le_of_lt hDC
  have old : ∀ b o, s2.heap.get? b = some o → h₁.get? b = some o := fun b o e => hsb₁.extBut b o (Nat.ne_of_lt (Nat.lt_trans (Heap.lt_size e) hDC)) (Heap.get?_push_of_some _ (hH2 ▸ Heap.get?_push_of_some _ e))
  have hacc : h₁.get? s2.heap.objs.size = some { cls := .type "list", data := .seq #[] } := hsb₁.extBut _ _ (Nat.ne_of_lt hDC) (Heap.get?_push_of_some _ (hH2 ▸ Heap.get?_push_size _ rfl))
  have hDn : H2 s2.heap.objs.size = none := I2.hok.fresh (Nat.le_refl _)
  have fD : ∀ b ∈ s2.heap.objs.size :: fp, FpOk X pins H2 b := fun b hb => by
    rcases List.mem_cons.mp hb with q | q
    · rw [q]; exact I2.fpOk (Nat.le_refl _) hDn
    · exact f2 b q
  have lfp : ∀ b ∈ fp, b < s2.heap.objs.size := fun b hb => by
    obtain ⟨o, ho, _⟩ := T.obj 0 _ st2 b hb
    exact Heap.lt_size ho
  have lD : ∀ b ∈ s2.heap.objs.size :: fp, b < G2.objs.size := fun b hb => by
    rcases List.mem_cons.mp hb with q | q
    · rw [q]; exact hDC
    · exact Nat.lt_trans (lfp b q) hDC
  have I3 : Inv (X.blk scope N' G2.objs.size s2 H2 (s2.heap.objs.size :: fp)) [] (takes ix σ) H2 { s2 with heap := h₁, toks := s2.toks + ([] : List (Str × Value)).length } := blk_inv I2 S hCle fD lD old hns₁
  have st3 : tn 0 h₁ := T.keep 0 _ _ st2 fun b hb o e => old b o e
  have noxE : ∀ {α : Type} {t : Sem α} {Q' : α → Shared → Prop} {E' : Value → Shared → Prop} {s' : Shared}, wpAny (model X.prog X.w) X.A t Q' (fun _ _ => False) s' → wpAny (model X.prog X.w) X.A t Q' E' s' := fun w => wpAny_mono w (fun _ _ q => q) fun _ _ z => False.elim z
  have fpB : ∀ {H' : Hp} {pins' : List (Addr × Obj)}, (∀ b ∈ s2.heap.objs.size :: fp, H' b = none) → pins' = [] → ∀ b ∈ s2.heap.objs.size :: fp, FpOk (X.blk scope N' G2.objs.size s2 H2 (s2.heap.objs.size :: fp)) pins' H' b := by
    intro H' pins' hn' hp b hb
    subst hp
    have ok := I3.ok
    exact ⟨hn' b hb, (ok.exf b hb).1, ok.exfs b hb, .inl hb, (ok.exf b hb).2, fun p hp => nomatch hp⟩
  have loop : ∀ s3 : Shared, s3 = { s2 with heap := h₁, toks := s2.toks + ([] : List (Str × Value)).length } →
      codeAny (model X.prog X.w) X.A (.compLoop (.ListComp elt [⟨tg, iter, ifs, 0⟩] scope pos) 0 (.ref it) (.ref s2.heap.objs.size) (compEnvC scope (clOf X.env.cells scope.names []) G2.objs.size X.env))
        (compPost (model X.prog X.w) X.A X.xe use QQ (.ref s2.heap.objs.size) G2.objs.size) s3 := by
    rintro s3 rfl
    refine codeAny_loop rfl (fun mm s' => ∃ i ys its k H', mm = n - i ∧ i ≤ n ∧ ys.length ≤ i ∧ Inv (X.blk scope N' G2.objs.size s2 H2 (s2.heap.objs.size :: fp)) [] (takes ix σ) H' s' ∧ tn i s'.heap ∧
        (∀ b ∈ s2.heap.objs.size :: fp, H' b = none) ∧ Vals ys its ∧ s'.heap.get? s2.heap.objs.size = some { cls := .type "list", data := .seq its.toArray k } ∧ Pv i ys H') ?_ n
      ⟨0, [], [], _, H2, rfl, Nat.zero_le _, Nat.le_refl _, I3, st3, fun b hb => (fD b hb).1, .nil, hacc, p0⟩
    rintro mm s' ⟨i, ys, its, k, H', rfl, hin, hyl, I', st', fr', rv, hob, pv⟩
    show wpAny _ X.A ((compTurn (.ListComp elt [⟨tg, iter, ifs, 0⟩] scope pos) 0 (.ref it) (.ref s2.heap.objs.size) (compEnvC scope (clOf X.env.cells scope.names []) G2.objs.size X.env)).onRaise (fun x => do noteFrame x (compEnvC scope (clOf X.env.cells scope.names []) G2.objs.size X.env); theTreesLotGoes x)) _ _ s'
    refine wpAny_noted ?_
    rw [compTurn_list]
    refine wpAny_bind (wpAny_standAt (wpAny_bind ?_))
    have fpT : ∀ b ∈ fp, FpOk (X.blk scope N' G2.objs.size s2 H2 (s2.heap.objs.size :: fp)) [] H' b := fun b hb => fpB fr' rfl b (List.mem_cons_of_mem _ hb)
    by_cases hlt : i < n
    · obtain ⟨go, step⟩ := turn i ys H' hlt pv
      refine noxE (thn (T.item (X.blk scope N' G2.objs.size s2 H2 (s2.heap.objs.size :: fp)) rfl rfl rfl hcalm i [(s2.heap.objs.size, ({ cls := .type "list", data := .seq its.toArray k } : Obj))] s' _ H' (fun _ _ => False) (I'.pins_of fun p hp => ?_) (fun b hb => ?_) st' go) fun r s4 ⟨u, hr, h4⟩ => ?_)
      · obtain rfl := List.mem_singleton.mp hp
        refine ⟨hob, fr' _ List.mem_cons_self, Nat.ne_of_lt hDC, ?_, fun v z => ?_⟩
        · exact I3.ok.exfs _ List.mem_cons_self
        · have z' : Data.seq _ _ = Data.cell v := z
          cases z'
      · obtain ⟨f0, f1, f2', f3, f4, f5⟩ := fpT b hb
        refine ⟨f0, f1, f2', f3, f4, fun p hp => ?_⟩
        obtain rfl := List.mem_singleton.mp hp
        exact Nat.ne_of_gt (lfp b hb)
      · subst hr
        refine wpAny_bind (noxE (thn h4 fun _ s5 ⟨x, H5, I5, r5, y5, st5, fr5⟩ => ?_))
        have D5 := I5.pin (s2.heap.objs.size, ({ cls := .type "list", data := .seq its.toArray k } : Obj)) (by simp [Cx.blk])
        have fr5' : ∀ b ∈ s2.heap.objs.size :: fp, H5 b = none := fun b hb => by
          rcases List.mem_cons.mp hb with q | q
          · rw [q]; exact D5.2.1
          · exact fr5 b q
        have I5' : Inv (X.blk scope N' G2.objs.size s2 H2 (s2.heap.objs.size :: fp)) ([] ++ pinsAt (s2.heap.objs.size :: fp) s5.heap) (takes ix σ) H5 s5 :=
          (I5.pins_of (pins' := []) fun p hp => nomatch hp).pinned (fpB fr5' rfl) fun b hb => by
            rcases List.mem_cons.mp hb with q | q
            · subst q
              exact ⟨_, D5.1, D5.2.2.2.2⟩
            · exact T.obj _ _ st5 b q
        refine wpAny_bind (noxE (thn (hg _ _ _ _ _ s5 _ H5 x u _ I5' r5 (hgo _ _ _ _ (step x H5 y5))) fun _ s6 ⟨σ6, H6, I6, q6, l6, k6⟩ => ?_))
        refine wpAny_bind (noxE (thn (hc _ _ _ _ _ s6 σ6 H6 _ I6 q6) fun ok s7 ⟨H7, I7, q7⟩ => ?_))
        have back : ∀ {H8 : Hp} {s8 : Shared}, Inv (X.blk scope N' G2.objs.size s2 H2 (s2.heap.objs.size :: fp)) ([] ++ pinsAt (s2.heap.objs.size :: fp) s5.heap) σ6 H8 s8 →
            Inv (X.blk scope N' G2.objs.size s2 H2 (s2.heap.objs.size :: fp)) [] (takes ix σ) H8 s8 ∧ tn (i + 1) s8.heap ∧ (∀ b ∈ s2.heap.objs.size :: fp, H8 b = none) ∧ s8.heap.get? s2.heap.objs.size = some { cls := .type "list", data := .seq its.toArray k } := by
          intro H8 s8 I8
          have hp : ∀ b ∈ s2.heap.objs.size :: fp, ∀ o, s5.heap.get? b = some o → s8.heap.get? b = some o ∧ H8 b = none := fun b hb o e =>
            let z := I8.pin (b, o) (List.mem_append_right _ (List.mem_append_right _ (mem_pinsAt hb e)))
            ⟨z.1, z.2.1⟩
          refine ⟨(I8.pins_of (pins' := []) fun p hp => nomatch hp).weak (by rw [l6]) (fun j v ej => ?_), T.keep _ _ _ st5 (fun b hb o e => (hp b (List.mem_cons_of_mem _ hb) o e).1), fun b hb => ?_, (hp _ List.mem_cons_self _ D5.1).1⟩
          · by_cases hj : j ∈ own
            · exfalso
              have e1 : (ix[j]?).map (fun o => o.bind fun j => (σ[j]?).join) = some (some v) := by rw [← List.getElem?_map]; exact ej
              rw [hown j hj] at e1
              cases e1
            · rw [k6 j hj]; exact ej
          · rcases List.mem_cons.mp hb with q | q
            · rw [q]; exact (hp _ List.mem_cons_self _ D5.1).2
            · obtain ⟨o, ho, _⟩ := T.obj _ _ st5 b q
              exact (hp b hb o ho).2
        cases ok with
        | false =>
          have q7' : Pv (i + 1) ys H7 := by simpa using q7
          obtain ⟨b1, b2, b3, b4⟩ := back I7
          exact wpAny_pure ⟨rfl, n - (i + 1), by omega, i + 1, ys, its, k, H7, rfl, hlt, Nat.le_succ_of_le hyl, b1, b2, b3, rv, b4, q7'⟩
        | true =>
          have q7' : te σ6 H7 fun y H6 => Pv (i + 1) (ys ++ [y]) H6 := by simpa using q7
          refine wpAny_bind (wpAny_bind (noxE (thn (he _ _ _ _ _ s7 σ6 H7 _ I7 q7') fun z s8 ⟨y, H8, I8, r8, q8⟩ => ?_)))
          obtain ⟨b1, b2, b3, b4⟩ := back I8
          have hsz : its.toArray.size ≤ sizeLine := by rw [List.size_toArray, ← rv.length]; omega
          refine wpAny_bind (append_at (hsz := hsz) b4 fun h9 hs9 hD9 => ?_)
          · refine wpAny_pure (wpAny_pure ⟨rfl, n - (i + 1), by omega, i + 1, ys ++ [y], its ++ [z], k + 1, H8, rfl, hlt, ?_, ?_, ?_, b3, ?_, ?_, q8⟩)
            · rw [List.length_append, List.length_singleton]; exact Nat.succ_le_succ hyl
            · have fd := fpB b3 rfl _ List.mem_cons_self
              exact b1.turned (t' := s8.toks) (fun b o hb e => hs9.extBut b o hb e) fd.1 fd.2.1 fd.2.2.2.1 fd.2.2.2.2.1 fd.2.2.2.2.2
            · exact T.keep _ _ _ b2 fun b hb o e => hs9.extBut b o (Nat.ne_of_lt (lfp b hb)) e
            · exact rv.append (.cons r8 .nil)
            · rw [hD9]; simp
    · have hieq : i = n := by omega
      subst hieq
      obtain ⟨stop, qf⟩ := fin ys H' pv
      refine noxE (thn (T.done (X.blk scope N' G2.objs.size s2 H2 (s2.heap.objs.size :: fp)) rfl rfl rfl hcalm i [(s2.heap.objs.size, ({ cls := .type "list", data := .seq its.toArray k } : Obj))] s' _ H' (fun _ _ => False) (I'.pins_of fun p hp => ?_) (fun b hb => ?_) st' stop) fun r s4 ⟨hr, I4⟩ => ?_)
      · obtain rfl := List.mem_singleton.mp hp
        refine ⟨hob, fr' _ List.mem_cons_self, Nat.ne_of_lt hDC, ?_, fun v z => ?_⟩
        · exact I3.ok.exfs _ List.mem_cons_self
        · have z' : Data.seq _ _ = Data.cell v := z
          cases z'
      · obtain ⟨f0, f1, f2', f3, f4, f5⟩ := fpT b hb
        refine ⟨f0, f1, f2', f3, f4, fun p hp => ?_⟩
        obtain rfl := List.mem_singleton.mp hp
        exact Nat.ne_of_gt (lfp b hb)
      · subst hr
        have D4 := I4.pin (s2.heap.objs.size, ({ cls := .type "list", data := .seq its.toArray k } : Obj)) (by simp [Cx.blk])
        refine wpAny_pure ?_
        exact hend s2 H2 fp _ _ s4 H' ys its k _ _ I2 (Nat.le_refl _) hDC f2 I4 D4.2.1 (Nat.le_trans hyl hn) rv D4.1 (qf _ D4.2.1)
  refine codeAny_compStart_list (loop _ rfl) (T.self X.A 0 _ _ _ st3 (loop _ rfl))
theorem pe_comp (hcalm : X.calm = true) (S : CompScope X scope N' ix) (hown : ∀ k ∈ own, ix[k]? = some none) (hi : PI X tg iter wi)
    (hg : ∀ C s₂ H₂ ex, PG (X.blk scope N' C s₂ H₂ ex) tg g) (hgo : TgOwn g own) (hc : ∀ C s₂ H₂ ex, PIfs (X.blk scope N' C s₂ H₂ ex) ifs tc) (he : ∀ C s₂ H₂ ex, PE (X.blk scope N' C s₂ H₂ ex) elt te)
    (hs : ∀ x, foldedSetIterable iter X.env x = pure x := by intro _; rfl) :
    PE X (.ListComp elt [⟨tg, iter, ifs, 0⟩] scope pos) (tComp wi ix g tc te) := by
  intro pins s σ H Q I h
  rw [eval_ListComp]
  refine comp_core (use := none) hcalm S hown hi hg hgo hc he hs I h (fun s2 H2 fp C D s4 H' ys its k pins' σ' I2 hD hDC f2 I4 hDn hl rv ho q => ?_) _
  obtain ⟨m4, hn4, _⟩ := id I4.loc
  exact ⟨m4, hn4, fun h' hs' => ⟨.ref D, upd H' D (.lst ys), blk_back I2 hD hDC f2 I4 hs' hDn hl rv ho, rfl, q⟩⟩
theorem ps_comp {i : Nat} {y : Str} {py spos : Pos} (hN : X.N.Nodup) (hyi : X.N[i]? = some y) (hyl : Loc X.env.scope y) (hcalm : X.calm = true) (S : CompScope X scope N' ix) (hown : ∀ k ∈ own, ix[k]? = some none) (hi : PI X tg iter wi)
    (hg : ∀ C s₂ H₂ ex, PG (X.blk scope N' C s₂ H₂ ex) tg g) (hgo : TgOwn g own) (hc : ∀ C s₂ H₂ ex, PIfs (X.blk scope N' C s₂ H₂ ex) ifs tc) (he : ∀ C s₂ H₂ ex, PE (X.blk scope N' C s₂ H₂ ex) elt te)
    (hsw : swapsWith (.ListComp elt [⟨tg, iter, ifs, 0⟩] scope pos) (some (.Name y py)) spos.line X.env = pure true := by rfl)
    (hs : ∀ x, foldedSetIterable iter X.env x = pure x := by intro _; rfl) (hf : X.fn y = true ∨ X.env.scope.names.lookup y = some .local := by first | exact .inl rfl | exact .inr rfl | assumption) :
    PS X (.Assign [.Name y py] (.ListComp elt [⟨tg, iter, ifs, 0⟩] scope pos) spos) (tAsg (tComp wi ix g tc te) (gName i)) := by
  intro pins s σ H D0 I h
  rw [exec_Assign_Name_used _ _ _ _ hsw]
  refine wpAny_bind (wpAny_standAt (wpAny_bind ?_))
  show wpAny _ X.A (do let _ ← comprehension (.ListComp elt [⟨tg, iter, ifs, 0⟩] scope pos) scope X.env _ (newList []) false (eval iter X.env) (some (assign (.Name y py) X.env))) _ _ s
  refine wpAny_bind (wpAny_mono (comp_core (use := some (assign (.Name y py) X.env)) (QQ := fun _ s' => SP X pins D0 .next s') hcalm S hown hi hg hgo hc he hs I h (fun s2 H2 fp C D s4 H' ys its k pins' σ' I2 hD hDC f2 I4 hDn hl rv ho q => ?_) _) (fun _ s' hq => wpAny_pure (wpAny_pure hq)) fun _ _ e => e)
  have J4 : Inv X pins σ (upd H' D (.lst ys)) s4 := blk_back I2 hD hDC f2 I4 (Heap.SameBut.refl C s4.heap) hDn hl rv ho
  obtain ⟨m4, hn4, _⟩ := id I4.loc
  have hCs : s2.heap.objs.size ≤ C := Nat.le_of_lt (Nat.lt_of_le_of_lt hD hDC)
  have cL : C ≠ X.env.locals := Nat.ne_of_gt (Nat.lt_of_lt_of_le I2.lt hCs)
  have cC : ∀ x c, X.env.cells.lookup x = some c → c ≠ C := fun x c e => by
    obtain ⟨v, q⟩ := I2.cell x c e
    exact Nat.ne_of_lt (Nat.lt_of_lt_of_le q.lt hCs)
  have cH : upd H' D (.lst ys) C = none := by rw [upd_ne (Nat.ne_of_gt hDC)]; exact I4.free
  show wpAny _ X.A (assign (.Name y py) X.env (.ref D)) _ _ s4
  refine wpAny_assign_Name (store_ok2 (v := .ref D) J4 hN hyi hyl rfl (fun s5 I5 ⟨a, sb, ha⟩ => ?_) hf)
  have ca : C ≠ a := by
    rcases ha with z | z
    · rw [z]; exact cL
    · exact fun w => cC _ _ z w.symm
  refine ⟨m4, hn4.sameBut sb ca, fun h' hs' => ?_⟩
  refine ⟨σ.set i (some (.ref D)), upd H' D (.lst ys), ?_, q⟩
  exact I5.turned (t' := s5.toks) (fun b o hb e => hs'.extBut b o hb e) cH cL (.inr (Nat.le_trans I2.sz hCs)) cC (fun p hp z => by
    have := Heap.lt_size (I2.pin p hp).1
    rw [z] at this
    exact absurd (Nat.lt_of_lt_of_le this hCs) (Nat.lt_irrefl _))
end
end L2
namespace L2
open PySem PySem.Spec PyProof.Rows
section
variable {X : Cx} {tg : Expr}
theorem strsAre_of : ∀ {ys : List Str} {us : List Value}, Vals (ys.map V.str) us → StrsAre us ys
  | [], us, r => by
    have e := Vals.zero r
    subst e
    exact .nil
  | y :: ys, us, r => by
    cases r with
    | cons r1 r2 =>
      obtain ⟨t, rfl⟩ := r1
      exact .cons y t (strsAre_of r2)
def rJoin (K : PySem.W.Frag) : V → List V → Hp → VK → Prop := fun x vs H Q => ∃ (z : Str) (a : Addr) (ys : List Str), x = .str z ∧ vs = [.ref a] ∧ SqL K H a (ys.map V.str) ∧ (ys.map (·.length)).sum + ys.length * z.length ≤ 16777216 ∧ Q (.str (Txt.join z ys)) H
theorem mt_join : MtM X "str.join" (rJoin X.K) := by
  intro pins s σ H x vs v us Q I rx rv h
  obtain ⟨z, a, ys, rfl, rfl, ha, hok, q⟩ := h
  obtain ⟨t, rfl⟩ := rx
  obtain ⟨u, rfl, ru⟩ := rv.one
  cases ru
  obtain ⟨its, r, pl, hz⟩ := I.list ha
  exact join_list pl.isList (strsAre_of r) hok fun t' k => ⟨.str _, H, I.tok _, ⟨t', rfl⟩, q⟩
end
end L2
namespace L2
open PySem PySem.Spec PyProof.Rows
section
variable {X : Cx} {e st : Expr} {te : TE} {pos p2 p3 p4 : Pos}
def rRevL (K : PySem.W.Frag) : V → Hp → VK → Prop := fun x H Q => ∃ a xs, x = .ref a ∧ SqL K H a xs ∧ ∀ p, H p = none → Q (.ref p) (upd H p (.lst xs.reverse))
theorem pe_revL {j : Nat} (he : PE X e te) : PE X (.Subscript e (.Slice none none (some (.UnaryOp .USub (.Constant (.int 1) j p3) p4)) p2) pos) (tUn (rRevL X.K) te) := by
  intro pins s σ H Q I h
  refine Subscript_ (thn (he pins s σ H _ I h) fun v s1 ⟨x, H1, I1, r1, q1⟩ => ?_)
  refine wpAny_Slice ?_
  rw [evalPart_none]
  refine wpAny_pure (wpAny_pure ?_)
  rw [evalPart_some]
  obtain ⟨a, xs, rfl, hx, q⟩ := q1
  cases r1
  refine UnaryOp_ (wpAny_Constant_int (neg_int ?_))
  have I2 : ∀ tk, Inv X pins σ H1 { s1 with toks := tk } := fun tk => I1.tok tk
  obtain ⟨its, r, pl, hz⟩ := I1.list hx
  have hlen : its.toArray.size = xs.length := by rw [List.size_toArray]; exact r.length.symm
  have I4 := fun (tk : Nat) (t : Tok) => (I2 tk).kept (h' := s1.heap.push { cls := .type "slice", data := .fields #[.none, .none, .int (-1) t] }) (t' := tk) fun b ob q => Heap.get?_push_of_some _ q
  refine tail_any (ops := [.ref a, .ref s1.heap.objs.size]) (T := "list") (pl.isList.push _).typeIs list_getitem_lookup (wpAny_getItem_list_slice (pl.isList.push _) (Heap.IsSliceOf.new ..) .none .none (.int (-1) _) (by decide) ?_ (by rw [hlen]; exact hz)) (by with_unfolding_all rfl)
  rw [PySem.W.krv_pick]
  refine ⟨.ref _, _, (I4 _ _).laid (t' := _) (o := .lst xs.reverse) (fun b ob q => Heap.get?_push_of_some _ q) (Nat.le_refl _) ?_, rfl, q _ (I1.hok.fresh (by show s1.heap.objs.size ≤ (s1.heap.push _).objs.size; rw [Heap.size_push]; exact Nat.le_succ _))⟩
  exact ⟨by rw [List.length_reverse]; exact hz, _, 0, r.reverse, Heap.get?_push_size _ rfl⟩
end
end L2
namespace L2
open PySem PySem.Spec PyProof.Rows
mutual
def Has (H : Hp) : V → PyData → Prop
  | v, .none => v = .non
  | v, .bool b => v = .bl b
  | v, .int i => v = .int i
  | v, .str x => v = .str x
  | v, .list ds => ∃ a xs, v = .ref a ∧ H a = some (.lst xs) ∧ HasL H xs ds
  | v, .tuple ds => ∃ a xs, v = .ref a ∧ H a = some (.tup xs) ∧ HasL H xs ds
  | _, .dict _ => False
def HasL (H : Hp) : List V → List PyData → Prop
  | xs, [] => xs = []
  | xs, d :: ds => ∃ x r, xs = x :: r ∧ Has H x d ∧ HasL H r ds
end
mutual
theorem Has.same {H H' : Hp} (e : Same H H') : ∀ {v : V} {d : PyData}, Has H v d → Has H' v d
  | v, .none, h => by unfold Has at h ⊢; exact h
  | v, .bool b, h => by unfold Has at h ⊢; exact h
  | v, .int i, h => by unfold Has at h ⊢; exact h
  | v, .str x, h => by unfold Has at h ⊢; exact h
  | v, .list ds, h => by
    unfold Has at h ⊢
    obtain ⟨a, xs, h1, h2, h3⟩ := h
    exact ⟨a, xs, h1, e _ _ h2, HasL.same e h3⟩
  | v, .tuple ds, h => by
    unfold Has at h ⊢
    obtain ⟨a, xs, h1, h2, h3⟩ := h
    exact ⟨a, xs, h1, e _ _ h2, HasL.same e h3⟩
  | v, .dict kvs, h => by unfold Has at h; exact h.elim
theorem HasL.same {H H' : Hp} (e : Same H H') : ∀ {xs : List V} {ds : List PyData}, HasL H xs ds → HasL H' xs ds
  | xs, [], h => by unfold HasL at h ⊢; exact h
  | xs, d :: ds, h => by
    unfold HasL at h ⊢
    obtain ⟨x, r, h1, h2, h3⟩ := h
    exact ⟨x, r, h1, Has.same e h2, HasL.same e h3⟩
end
theorem HasL.length {H : Hp} : ∀ {xs : List V} {ds : List PyData}, HasL H xs ds → xs.length = ds.length
  | xs, [], h => by unfold HasL at h; subst h; rfl
  | xs, d :: ds, h => by
    unfold HasL at h
    obtain ⟨x, r, rfl, h2, h3⟩ := h
    simp [HasL.length h3]
theorem HasL.get {H : Hp} : ∀ {xs : List V} {ds : List PyData} {i : Nat} {d : PyData}, HasL H xs ds → ds[i]? = some d → ∃ x, xs[i]? = some x ∧ Has H x d
  | xs, [], i, d, h, e => by simp at e
  | xs, d' :: ds, 0, d, h, e => by
    unfold HasL at h
    obtain ⟨x, r, rfl, h2, h3⟩ := h
    simp at e; subst e
    exact ⟨x, rfl, h2⟩
  | xs, d' :: ds, i + 1, d, h, e => by
    unfold HasL at h
    obtain ⟨x, r, rfl, h2, h3⟩ := h
    obtain ⟨y, h4, h5⟩ := HasL.get (i := i) h3 (by simpa using e)
    exact ⟨y, by simpa using h4, h5⟩
theorem HasL.append {H : Hp} : ∀ {xs ys : List V} {ds es : List PyData}, HasL H xs ds → HasL H ys es → HasL H (xs ++ ys) (ds ++ es)
  | xs, ys, [], es, h, h' => by unfold HasL at h; subst h; simpa using h'
  | xs, ys, d :: ds, es, h, h' => by
    unfold HasL at h
    obtain ⟨x, r, rfl, h2, h3⟩ := h
    show HasL H (x :: (r ++ ys)) (d :: (ds ++ es))
    unfold HasL
    exact ⟨x, r ++ ys, rfl, h2, HasL.append h3 h'⟩
theorem hasL_nil {H : Hp} : HasL H [] [] := by unfold HasL; rfl
theorem hasL_cons {H : Hp} {x : V} {xs : List V} {d : PyData} {ds : List PyData} (h : Has H x d) (t : HasL H xs ds) : HasL H (x :: xs) (d :: ds) := by unfold HasL; exact ⟨x, xs, rfl, h, t⟩
theorem has_int {H : Hp} (i : Int) : Has H (.int i) (.int i) := by unfold Has; rfl
theorem has_str {H : Hp} (x : Str) : Has H (.str x) (.str x) := by unfold Has; rfl
theorem has_lst {H : Hp} {a : Addr} {xs : List V} {ds : List PyData} (h : H a = some (.lst xs)) (t : HasL H xs ds) : Has H (.ref a) (.list ds) := by unfold Has; exact ⟨a, xs, rfl, h, t⟩
theorem has_tup {H : Hp} {a : Addr} {xs : List V} {ds : List PyData} (h : H a = some (.tup xs)) (t : HasL H xs ds) : Has H (.ref a) (.tuple ds) := by unfold Has; exact ⟨a, xs, rfl, h, t⟩
section
variable {X : Cx} {pins : List (Addr × Obj)} {σ : St} {H : Hp} {s : Shared}
mutual
theorem has_reads (I : Inv X pins σ H s) : ∀ {v : V} {d : PyData} {u : Value}, Has H v d → RelV v u → ∃ as, Reads s.heap u d as
  | v, .none, u, h, r => by unfold Has at h; subst h; cases (show u = Value.none from r); exact ⟨_, .none⟩
  | v, .bool b, u, h, r => by unfold Has at h; subst h; cases (show u = Value.bool b from r); exact ⟨_, .bool b⟩
  | v, .int i, u, h, r => by unfold Has at h; subst h; obtain ⟨t, rfl⟩ := r; exact ⟨_, .int i t⟩
  | v, .str x, u, h, r => by unfold Has at h; subst h; obtain ⟨t, rfl⟩ := r; exact ⟨_, .str x t⟩
  | v, .list ds, u, h, r => by
    unfold Has at h
    obtain ⟨a, xs, rfl, h2, h3⟩ := h
    cases (show u = Value.ref a from r)
    obtain ⟨z, its, n, rv, e⟩ := (show ObjOk X.prog X.w H s.heap a (.lst xs) from I.hok a _ h2)
    obtain ⟨as, ra⟩ := hasL_reads I h3 rv
    exact ⟨_, .list e rfl rfl (by simpa using ra)⟩
  | v, .tuple ds, u, h, r => by
    unfold Has at h
    obtain ⟨a, xs, rfl, h2, h3⟩ := h
    cases (show u = Value.ref a from r)
    obtain ⟨z, its, rv, p⟩ := (show ObjOk X.prog X.w H s.heap a (.tup xs) from I.hok a _ h2)
    obtain ⟨o, e, c, n, d⟩ := p
    obtain ⟨as, ra⟩ := hasL_reads I h3 rv
    exact ⟨_, .tuple e c d (by simpa using ra)⟩
  | v, .dict kvs, u, h, r => by unfold Has at h; exact h.elim
theorem hasL_reads (I : Inv X pins σ H s) : ∀ {xs : List V} {ds : List PyData} {us : List Value}, HasL H xs ds → Vals xs us → ∃ as, ReadsAll s.heap us ds as
  | xs, [], us, h, r => by
    unfold HasL at h
    subst h
    cases Vals.zero r
    exact ⟨_, .nil⟩
  | xs, d :: ds, us, h, r => by
    unfold HasL at h
    obtain ⟨x, rr, rfl, h2, h3⟩ := h
    cases r with
    | cons r1 r2 =>
      obtain ⟨as, a1⟩ := has_reads I h2 r1
      obtain ⟨bs, a2⟩ := hasL_reads I h3 r2
      exact ⟨_, .cons a1 a2⟩
end
def rEqD : R2 := fun x y H Q => ∃ d e, Has H x d ∧ Has H y e ∧ SeqAt.shaped d = true ∧ SeqAt.shaped e = true ∧ Q (.bl (PyData.eqv d e)) H
def rNeD : R2 := fun x y H Q => ∃ d e, Has H x d ∧ Has H y e ∧ SeqAt.shaped d = true ∧ SeqAt.shaped e = true ∧ Q (.bl (!PyData.eqv d e)) H
theorem op_eqD (hu : X.A.units + 64 < cLine) : OpR X (compareOp .Eq) rEqD := by
  rintro pins s σ H x y v u Q I rx ry ⟨d, e, h1, h2, s1, s2, q⟩
  obtain ⟨as, r1⟩ := has_reads I h1 rx
  obtain ⟨bs, r2⟩ := has_reads I h2 ry
  exact eq_dataH r1 r2 s1 s2 hu ⟨.bl _, H, I, rfl, q⟩
theorem op_neD (hu : X.A.units + 64 < cLine) : OpR X (compareOp .NotEq) rNeD := by
  rintro pins s σ H x y v u Q I rx ry ⟨d, e, h1, h2, s1, s2, q⟩
  obtain ⟨as, r1⟩ := has_reads I h1 rx
  obtain ⟨bs, r2⟩ := has_reads I h2 ry
  exact ne_dataH r1 r2 s1 s2 hu ⟨.bl _, H, I, rfl, q⟩
end
structure Callee (P : Program) (w : World) (K : PySem.W.Frag) (mg : Str → Option Value) (base : Heap) (k : Nat) (x : Str) (ps : List Str) (sp : Sp) : Prop where
  ex : ∃ f fd, FnOk P w K mg base CX0 k f fd ps sp ∧ mg x = some (.ref f) ∧ PySem.W.keepIn K (.ref f) = true ∧ Binds K fd ps []
section
variable {X : Cx} {k : Nat} {x : Str} {ps : List Str} {sp : Sp} {e : Expr} {es : List Expr} {t : TA} {p pos : Pos}
theorem pe_fn (C : Callee X.prog X.w X.K X.mg X.base k x ps sp) (hr : Room k X.A) (ha : PA X (e :: es) t) (hg : Gl X x := by rfl) (hdb : (x == ("__debug__" : Str)) = false := by decide)
    (he : starEach (e :: es) X.env = (false, eval e X.env) :: starEach es X.env := by rfl) (hpl : (backTo pos (starEach es X.env)).any (·.1) = false := by rfl) :
    PE X (.Call (.Name x p) (e :: es) [] pos) (tCall sp [] E0 t) := by
  obtain ⟨f, fd, F, hm, hk, hb⟩ := C.ex
  exact pe_call F hr hg hm hk hb .nil pass0 ha hdb he hpl
end
def visB (o : Option NameKind) : Bool := o == some .local || o == some .cell || o == some .free
def compOk (osc : Scope) (ON : List Str) (scope : Scope) (N' : List Str) (ix : List (Option Nat)) : Bool :=
  scope.kind == .function && scope.names.all (fun y => y.2 != .cell) && scope.names.all (fun y => y.2 != .local || scope.names.lookup y.1 == some .local) &&
  scope.names.all (fun y => y.2 != .free || (osc.names.lookup y.1 == some .cell || osc.names.lookup y.1 == some .free)) &&
  scope.names.all (fun y => y.2 != .local || !(scope.names.any fun z => z.1 == y.1 && z.2 == .free)) && ix.length == N'.length &&
  (List.range ix.length).all fun i => match ix[i]? with
    | some (some j) => ON[j]? == N'[i]? && (match N'[i]? with | some x => (scope.names.any fun z => z.1 == x && z.2 == .free) && visB (osc.names.lookup x) | none => true)
    | _ => true
theorem cs_of {X : Cx} {osc : Scope} {ON : List Str} {scope : Scope} {N' : List Str} {ix : List (Option Nat)} (h1 : X.env.scope = osc) (h2 : X.N = ON) (h : compOk osc ON scope N' ix = true) : CompScope X scope N' ix := by
  unfold compOk at h
  simp only [Bool.and_eq_true] at h
  obtain ⟨⟨⟨⟨⟨⟨a1, a2⟩, a3⟩, a4⟩, a5⟩, a6⟩, a7⟩ := h
  rw [List.all_eq_true] at a2 a3 a4 a5 a7
  refine ⟨eq_of_beq a1, fun y hy => by simpa using a2 y hy, fun y hy hl => ?_, fun y hy hl => ?_, fun x h3 h4 => ?_, eq_of_beq a6, fun i j hij => ?_⟩
  · have := a3 y hy
    rw [hl] at this
    simpa using this
  · have := a4 y hy
    rw [hl] at this
    have e : X.env.kindOf y.1 = osc.names.lookup y.1 := by rw [← h1]; rfl
    rw [e]
    simpa using this
  · have := a5 _ h3
    simp only [bne_self_eq_false, Bool.false_or, Bool.not_eq_true'] at this
    rw [List.any_eq_false] at this
    have z := this _ h4
    simp at z
  · have hi : i < ix.length := (List.getElem?_eq_some_iff.mp hij).1
    have := a7 i (List.mem_range.mpr hi)
    rw [hij] at this
    simp only [Bool.and_eq_true] at this
    obtain ⟨b1, b2⟩ := this
    refine ⟨by rw [h2]; exact eq_of_beq b1, fun x hx => ?_⟩
    rw [hx] at b2
    simp only [Bool.and_eq_true] at b2
    obtain ⟨c1, c2⟩ := b2
    obtain ⟨z, hz, hz2⟩ := List.any_eq_true.mp c1
    simp only [Bool.and_eq_true, beq_iff_eq] at hz2
    obtain ⟨z1, z2⟩ := z
    obtain ⟨rfl, rfl⟩ := hz2
    refine ⟨hz, ?_⟩
    unfold visB at c2
    simp only [Bool.or_eq_true, beq_iff_eq] at c2
    unfold Vis
    rw [h1]
    rcases c2 with (c2 | c2) | c2
    · exact .inl c2
    · exact .inr (.inl c2)
    · exact .inr (.inr c2)
theorem Same.new {H : Hp} {p : Addr} {o : HO} (h : H p = none) : Same H (upd H p o) := fun b u e => by rw [upd_ne (ne_of_none e h)]; exact e
theorem Same.tup {K : PySem.W.Frag} {H H' : Hp} (e : Same H H') {a : Addr} {xs : List V} (h : SqT K H a xs) : SqT K H' a xs := by
  rcases h with (h | ⟨o, h⟩) | h
  · exact .inl (.inl (e _ _ h))
  · exact .inl (.inr ⟨o, e _ _ h⟩)
  · exact .inr h
theorem SqT.ofT {K : PySem.W.Frag} {H : Hp} {a : Addr} {xs : List V} (h : H a = some (.tup xs)) : SqT K H a xs := .inl (.inl h)
theorem SqL.ofL {K : PySem.W.Frag} {H : Hp} {a : Addr} {xs : List V} (h : H a = some (.lst xs)) : SqL K H a xs := .inl (.inl h)
theorem rd_yes {σ : St} {H : Hp} {Q : Bool → Hp → Prop} (h : Q true H) : tYes σ H Q := h
theorem rd_name {i : Nat} {v : V} {σ : St} {H : Hp} {Q : St → Hp → Prop} (h : Q (σ.set i (some v)) H) : gName i v σ H Q := h
end L2
namespace L2
open PySem PySem.Spec PyProof.Rows
section
variable {X : Cx}
def rEq0 (K : PySem.W.Frag) : R2 := fun x y H Q => ∃ a b xs, x = .ref a ∧ y = .ref b ∧ SqL K H a xs ∧ SqL K H b [] ∧ Q (.bl xs.isEmpty) H
def rNe0 (K : PySem.W.Frag) : R2 := fun x y H Q => ∃ a b xs, x = .ref a ∧ y = .ref b ∧ SqL K H a xs ∧ SqL K H b [] ∧ Q (.bl (!xs.isEmpty)) H
theorem op_eq0 (hu : X.A.units < cLine) : OpR X (compareOp .Eq) (rEq0 X.K) := by
  rintro pins s σ H x y v u Q I rx ry ⟨a, b, xs, rfl, rfl, ha, hb, q⟩
  cases rx; cases ry
  obtain ⟨its, r1, p1, _⟩ := I.list ha
  obtain ⟨its2, r2, p2, _⟩ := I.list hb
  cases Vals.zero r2
  by_cases h : xs = []
  · subst h
    cases Vals.zero r1
    exact SeqAt.RcAt.lists (e := fun _ => true) p1.isList p2.isList rfl hu (fun j h1 _ => absurd h1 (by simp)) _ _ _ _ ⟨.bl true, H, I, rfl, q⟩
  · have e : xs.isEmpty = false := by simpa using h
    rw [e] at q
    have hl := r1.length
    refine SeqAt.RcAt.lists_lengths p1.isList p2.isList ?_ hu _ _ _ _ ⟨.bl false, H, I, rfl, q⟩
    have : xs.length ≠ 0 := fun z => h (List.length_eq_zero_iff.mp z)
    simp; intro z; subst z; simp at hl; exact this (by simpa using hl)
theorem op_ne0 (hu : X.A.units < cLine) : OpR X (compareOp .NotEq) (rNe0 X.K) := by
  rintro pins s σ H x y v u Q I rx ry ⟨a, b, xs, rfl, rfl, ha, hb, q⟩
  cases rx; cases ry
  obtain ⟨its, r1, p1, _⟩ := I.list ha
  obtain ⟨its2, r2, p2, _⟩ := I.list hb
  cases Vals.zero r2
  by_cases h : xs = []
  · subst h
    cases Vals.zero r1
    exact SeqAt.RcNeAt.lists (e := fun _ => true) p1.isList p2.isList rfl hu (fun j h1 _ => absurd h1 (by simp)) _ _ _ _ ⟨.bl false, H, I, rfl, q⟩
  · have e : xs.isEmpty = false := by simpa using h
    rw [e] at q
    have hl := r1.length
    refine SeqAt.RcNeAt.lists_lengths p1.isList p2.isList ?_ hu _ _ _ _ ⟨.bl true, H, I, rfl, q⟩
    have : xs.length ≠ 0 := fun z => h (List.length_eq_zero_iff.mp z)
    simp; intro z; subst z; simp at hl; exact this (by simpa using hl)
end
end L2
namespace L2
open PySem PySem.Spec PyProof.Rows
def plainE : Expr → Bool
  | .Starred _ _ => false
  | _ => true
theorem star_of {e : Expr} {es : List Expr} {env : Env} (h : plainE e = true) : starEach (e :: es) env = (false, eval e env) :: starEach es env := by
  cases e <;> first | rfl | (exact absurd (show false = true from h) Bool.false_ne_true)
structure PAs (X : Cx) (es : List Expr) (t : TA) : Prop where
  pa : PA X es t
  st : ∀ env, starEach es env = es.map fun e => (false, eval e env)
section
variable {X : Cx} {e : Expr} {es : List Expr} {te : TE} {t : TA} {pos p : Pos} {x : Str} {k : Nat} {ps : List Str} {sp : Sp} {id T : String} {r : List V → Hp → VK → Prop}
theorem as_nil : PAs X [] tNil := ⟨pa_nil, fun _ => rfl⟩
theorem as_cons (ha : PE X e te) (hr : PAs X es t) (hp : plainE e = true := by rfl) : PAs X (e :: es) (tCons te t) :=
  ⟨pa_cons ha hr.pa (star_of hp), fun env => by rw [star_of hp, hr.st]; rfl⟩
theorem back_any (pos : Pos) (env : Env) : ∀ es : List Expr, (backTo pos (es.map fun e => (false, eval e env))).any (·.1) = false
  | [] => rfl
  | e :: es => by
    show (false || (backTo pos (es.map fun e => (false, eval e env))).any (·.1)) = false
    rw [back_any pos env es]; rfl
theorem PAs.he (h : PAs X (e :: es) t) (ht : ∀ env, starEach es env = es.map fun e => (false, eval e env)) : starEach (e :: es) X.env = (false, eval e X.env) :: starEach es X.env := by
  rw [h.st, ht]; rfl
structure PAt (X : Cx) (e : Expr) (es : List Expr) (t : TA) : Prop where
  all : PAs X (e :: es) t
  tl : ∀ env, starEach es env = es.map fun e => (false, eval e env)
theorem at_cons (ha : PE X e te) (hr : PAs X es t) (hp : plainE e = true := by rfl) : PAt X e es (tCons te t) := ⟨as_cons ha hr hp, hr.st⟩
theorem as_lst (h : PAs X es t) : PE X (.List es pos) (tLst t) := pe_lst h.pa
theorem as_tup {x1} (h : PAs X es t) : PE X (.Tuple es x1 pos) (tTup t) := pe_tup h.pa
theorem as_fn (C : Callee X.prog X.w X.K X.mg X.base k x ps sp) (hr : Room k X.A) (ha : PAt X e es t) (hg : Gl X x := by rfl) (hdb : (x == ("__debug__" : Str)) = false := by decide) :
    PE X (.Call (.Name x p) (e :: es) [] pos) (tCall sp [] E0 t) := pe_fn C hr ha.all.pa hg hdb (ha.all.he ha.tl) (by rw [ha.tl]; exact back_any _ _ _)
theorem as_callB (hc : CallR X (.builtin id) r) (hg : Gl X x) (hm : X.mg x = none) (hv : bootBuiltins x = some (.builtin id)) (ha : PAt X e es t) (hn : x ≠ "__name__" := by decide) (hdb : (x == ("__debug__" : Str)) = false := by decide) :
    PE X (.Call (.Name x p) (e :: es) [] pos) (tCB r t) := pe_callB hc hg hm hv ha.all.pa hn hdb (ha.all.he ha.tl) (by rw [ha.tl]; exact back_any _ _ _)
theorem as_callTy (hc : CallR X (.type T) r) (hg : Gl X x) (hm : X.mg x = none) (hv : bootBuiltins x = some (.type T)) (ha : PAt X e es t) (hn : x ≠ "__name__" := by decide) (hdb : (x == ("__debug__" : Str)) = false := by decide) :
    PE X (.Call (.Name x p) (e :: es) [] pos) (tCB r t) := pe_callTy hc hg hm hv ha.all.pa hn hdb (ha.all.he ha.tl) (by rw [ha.tl]; exact back_any _ _ _)
end
section
variable {X : Cx} {e a : Expr} {te : TE} {tg : Expr} (K : PySem.W.Frag)
theorem k_ix_list (h : X.K = K := by rfl) : IxR X (rIxL K) := h ▸ ix_list
theorem k_ix_tup (h : X.K = K := by rfl) : IxR X (rIxT K) := h ▸ ix_tup
theorem k_len_seq (h : X.K = K := by rfl) : CallR X (.builtin "len") (fun xs H Q => ∃ p ys, xs = [.ref p] ∧ (SqL K H p ys ∨ SqT K H p ys) ∧ Q (.int ys.length) H) := h ▸ call_len_seq
theorem k_list_of (h : X.K = K := by rfl) : CallR X (.type "list") (fun xs H Q => ∃ p ys, xs = [.ref p] ∧ (SqL K H p ys ∨ SqT K H p ys) ∧ ∀ l, H l = none → Q (.ref l) (upd H l (.lst ys))) := h ▸ call_list_of
theorem k_join (h : X.K = K := by rfl) : MtM X "str.join" (rJoin K) := h ▸ mt_join
theorem k_eq0 (hu : X.A.units < cLine) (h : X.K = K := by rfl) : OpR X (compareOp .Eq) (rEq0 K) := h ▸ op_eq0 hu
theorem k_ne0 (hu : X.A.units < cLine) (h : X.K = K := by rfl) : OpR X (compareOp .NotEq) (rNe0 K) := h ▸ op_ne0 hu
theorem k_revL {j : Nat} {p2 p3 p4 pos : Pos} (he : PE X e te) (h : X.K = K := by rfl) : PE X (.Subscript e (.Slice none none (some (.UnaryOp .USub (.Constant (.int 1) j p3) p4)) p2) pos) (tUn (rRevL K) te) := h ▸ pe_revL he
theorem k_it_list (he : PE X e te) (h : X.K = K := by rfl) : PI X tg e (iList K te) := h ▸ pi_list he
theorem k_fld {f : Str} {pos : Pos} (he : PE X e te) (hb : attributeBase e f X.env (eval e X.env) = eval e X.env) (h : X.K = K := by rfl) : PE X (.Attribute e f pos) (tFld K te f) := h ▸ pe_fld he hb
theorem k_tup {es : List Expr} {k : Nat} {t : TGs} {n : Nat} {pos : Pos} (hc : X.calm = true) (hs : PGs X es t) (h : X.K = K := by rfl)
    (hn : (assignEach es X.env).length = n := by rfl) (hst : (assignEach es X.env).findIdx? (·.1) = none := by rfl) : PG X (.Tuple es k pos) (gTup K n t) := h ▸ pg_tup hc hs hn hst
theorem k_bm {o : Expr} {es : List Expr} {to : TE} {t : TA} {name : Str} {apos cpos : Pos} {T id : String} {r : V → List V → Hp → VK → Prop} (pa : PlainAttrs T) (slot : Slot T name id) (hty : typeOf (.builtin id) = pure (.type "method_descriptor")) (hm : MtR X id r) (ho : PE X o to) (ha : PA X (e :: es) t) (h : X.K = K := by rfl)
    (hbase : attributeBase o name X.env (eval o X.env) = eval o X.env := by rfl)
    (hfew : ((backTo cpos (starEach (e :: es) X.env)).all (fun x => !x.1) && (backToKw cpos (keywordEach [] X.env)).all (fun x => x.1.isSome)
      && decide ((e :: es).length + ([] : List Keyword).length + (if ([] : List Keyword).isEmpty then 0 else 1) < 30)) = true := by rfl)
    (hline : (apos.endLine == cpos.line) = true := by rfl) (hs : starEach (e :: es) X.env = (false, eval e X.env) :: starEach es X.env := by rfl) (hplain : (backTo cpos (starEach es X.env)).any (·.1) = false := by rfl) :
    PE X (.Call (.Attribute o name apos) (e :: es) [] cpos) (tBM K T r to t) := h ▸ pe_bm pa slot hty hm ho ha hbase hfew hline hs hplain
end
end L2
namespace L2
open PySem PySem.Spec PyProof.Rows
section
variable {X : Cx} {pins : List (Addr × Obj)} {σ : St} {H : Hp} {s : Shared}
theorem Inv.track {D : Addr} {o : HO} (I : Inv X pins σ H s) (f : FpOk X pins H D) (ok : ObjOk X.prog X.w (upd H D o) s.heap D o) : Inv X pins σ (upd H D o) s := by
  obtain ⟨f0, f1, f2, f3, f4, f5⟩ := f
  have nt : ∀ b u, H b = some u → b ≠ D := fun b u e => ne_of_none e f0
  have r := I.step (H' := upd H D o) (h' := s.heap) (g' := s.gens) (d' := s.drawn) (t' := s.toks) (ch := [D]) (fun b hb => by
      obtain rfl : b = D := by simpa using hb
      exact ⟨f3, f1, f4, f5⟩) (fun b ob _ _ _ e _ => e) (fun b ob _ _ _ e _ => ⟨ob.slots, e⟩)
    (fun b ob hb _ n => by rw [upd_ne (fun z => hb (by simp [z]))]; exact n) (fun b ob _ e => ⟨ob, e⟩) (fun b xs e => by rw [upd_ne (nt b _ e)]; exact e) (fun b ob u e => by rw [upd_ne (nt b _ e)]; exact e)
    (fun b ps e => ⟨#[], by rw [upd_ne (nt b _ e), e]; simp⟩) (fun m hm => hm) (fun b u e => by
      by_cases hb : b = D
      · subst hb; rw [upd_same] at e; cases e; exact ok
      · rw [upd_ne hb] at e
        exact (I.hok b u e).stay (fun c v _ q => q) (fun c q => by rw [upd_ne (nt c _ q)]; exact q) fun c xs q => by rw [upd_ne (nt c _ q)]; exact q) I.bare
  exact r
theorem Inv.upd1 {a : Addr} {f : Array Value → Array Value} {t' : Nat} (I : Inv X pins σ H s) (fa : FpOk X pins H a) : Inv X pins σ H { s with heap := s.heap.update a (Obj.mapSeq f), toks := t' } :=
  I.turned (fun b o hb e => (Heap.SameBut.update s.heap a (Obj.mapSeq f)).extBut b o hb e) fa.1 fa.2.1 fa.2.2.2.1 fa.2.2.2.2.1 fa.2.2.2.2.2
theorem fp_pin {b : Addr} {o : Obj} (f : FpOk X pins H b) (e : s.heap.get? b = some o) (hd : ∀ v, o.data ≠ .cell v) : s.heap.get? b = some o ∧ H b = none ∧ b ≠ X.env.locals ∧ b ∉ X.fs ∧ ∀ v, o.data ≠ .cell v := ⟨e, f.1, f.2.1, f.2.2.1, hd⟩
theorem seq_nocell {T : String} {xs : Array Value} {n : Nat} : ∀ v, (seqObj T xs n).data ≠ .cell v := fun v z => by
  have z' : Data.seq xs n = Data.cell v := z
  cases z'
end
section
variable {X : Cx} {pins : List (Addr × Obj)} {σ : St} {H : Hp} {s : Shared} {A : Around} {E : Value → Shared → Prop} {a kS : Addr} {vs : List Value} {kz : List Int} {keys : Array Value} {e e1 : Nat} {P : PySem.Fin → Shared → Prop}
def SortEnd (X : Cx) (pins : List (Addr × Obj)) (σ : St) (H : Hp) (a : Addr) (kz : List Int) (vs : List Value) (P : PySem.Fin → Shared → Prop) : Prop :=
  ∀ (s' : Shared) (out : Array Value) (c : Nat), Inv X pins σ H s' → s'.heap.get? a = some (seqObj "list" out c) → KskOut false kz vs out.toList → P (.done (.ret .none)) s'
theorem so_tail {st : SortSt} (I : Inv X pins σ H s) (hk1 : s.heap.get? kS = some (seqObj "list" keys e)) (ha1 : s.heap.get? a = some (seqObj "list" #[] e1)) (fk : FpOk X pins H kS) (fa : FpOk X pins H a) (hka : kS ≠ a)
    (hk : IntsAre keys.toList kz) (hlen : kz.length = vs.length) (h64 : vs.length < 64) (hp : (arrOf st).Perm (keys.zip vs.toArray)) (hs : SortedTo (arrOf st) (arrOf st).size) (hfl : failedOf st = none)
    (h : SortEnd X pins σ H a kz vs P) : wpAny (model X.prog X.w) A (ksk_tail a false e1 (.ref kS) st) P E s := by
  have hsz : keys.size = vs.length := by
    have h1 := hk.length
    rw [Array.length_toList] at h1
    omega
  have hsz2 : (arrOf st).size = vs.length := by rw [hp.size_eq, Array.size_zip, hsz, List.size_toArray, Nat.min_self]
  have s1 := Heap.SameBut.update s.heap kS (Obj.mapSeq fun _ => (#[] : Array Value))
  have na1 : (s.heap.update kS (Obj.mapSeq fun _ => (#[] : Array Value))).get? a = some (seqObj "list" #[] e1) := (s1.2 a hka.symm).trans ha1
  obtain ⟨c2, hc2⟩ : ∃ c2, ((s.heap.update kS (Obj.mapSeq fun _ => (#[] : Array Value))).update a (Obj.mapSeq fun _ => (arrOf st).map (·.2))).get? a = some (seqObj "list" ((arrOf st).map (·.2)) c2) :=
    ⟨_, get?_update_seq na1 fun _ => (arrOf st).map (·.2)⟩
  unfold ksk_tail
  try dsimp only
  refine wpAny_bind (listUpdate_at hk1 rfl ?_ (by rw [hsz, sizeLine_eq]; omega) (Nat.zero_le _))
  refine wpAny_bind (wpAny_letGo ?_)
  refine wpAny_bind (seqEpoch_at na1 rfl ?_)
  refine wpAny_bind (listUpdate_at na1 rfl ?_ (Nat.zero_le _) (by simp only [Bool.false_eq_true, if_false, Array.size_map]; rw [hsz2, sizeLine_eq]; omega))
  rw [hfl]
  simp only [bne_self_eq_false, Bool.false_eq_true, if_false]
  refine wpAny_pure (h _ _ c2 ?_ hc2 (ksk_out (b := false) hk hp hs))
  exact (I.upd1 (t' := s.toks) fk).upd1 (t' := s.toks) fa
theorem so_end (I : Inv X pins σ H s) (hk1 : s.heap.get? kS = some (seqObj "list" keys e)) (ha1 : s.heap.get? a = some (seqObj "list" #[] e1)) (fk : FpOk X pins H kS) (fa : FpOk X pins H a) (hka : kS ≠ a)
    (hk : IntsAre keys.toList kz) (hlen : kz.length = vs.length) (h64 : vs.length < 64) (h : SortEnd X pins σ H a kz vs P) : wpAny (model X.prog X.w) A (ksk_end a false vs.toArray e1 (.ref kS) keys) P E s := by
  have hsz : keys.size = vs.length := by
    have h1 := hk.length
    rw [Array.length_toList] at h1
    omega
  have hzs : (keys.zip vs.toArray).size = vs.length := by rw [Array.size_zip, hsz, List.size_toArray, Nat.min_self]
  unfold ksk_end
  try dsimp only
  simp only [Bool.false_eq_true, if_false]
  by_cases h2 : vs.toArray.size < 2
  · rw [if_pos h2, if_pos h2]
    refine wpAny_bind (wpAny_pure ?_)
    rw [StateT.run_pure]
    refine wpAny_bind (wpAny_pure ?_)
    try dsimp only
    refine so_tail (st := SortSt.mk' general' (keys.zip vs.toArray) #[] 7 none) I hk1 ha1 fk fa hka hk hlen h64 (Array.Perm.refl _) ?_ rfl h
    intro i j hij hj
    have hj2 : j < (keys.zip vs.toArray).size := hj
    rw [hzs] at hj2
    rw [List.size_toArray] at h2
    have : i = j := by omega
    subst this
    exact Int.le_refl _
  · rw [if_neg h2, if_neg h2]
    rw [List.size_toArray] at h2
    rw [ksk_kind hk (by rw [hsz]; omega)]
    refine wpAny_bind (wpAny_pure ?_)
    refine wpAny_bind (wpAny_mono (wpS_sortRuns (a₀ := keys.zip vs.toArray) (st := SortSt.mk' oneType' (keys.zip vs.toArray) #[] 7 none)
      (Q := fun _ st' => (arrOf st').Perm (keys.zip vs.toArray) ∧ failedOf st' = none ∧ SortedTo (arrOf st') (keys.zip vs.toArray).size)
      (ksk_intKeys hk) ⟨Array.Perm.refl _, rfl, rfl, rfl⟩ (by rw [hzs]; omega) (by rw [hzs]; exact h64) fun st' a1 a2 a3 => ⟨a1, a2, a3⟩) ?_ fun _ _ e => e)
    rintro ⟨⟨⟩, st'⟩ s' ⟨rfl, hp, hf, hs⟩
    try dsimp only
    exact so_tail I hk1 ha1 fk fa hka hk hlen h64 hp (by rw [hp.size_eq]; exact hs) hf h
def KeyTurn (X : Cx) (σ : St) (H : Hp) (A : Around) (f : Value) (vs : List Value) (kz : List Int) : Prop :=
  ∀ (i : Nat) (v : Value) (k : Int) (pins : List (Addr × Obj)) (s : Shared), vs[i]? = some v → kz[i]? = some k → Inv X pins σ H s → wpAny (model X.prog X.w) A (call f [v]) (fun u s' => (∃ t, u = .int k t) ∧ Inv X pins σ H s') (fun _ _ => False) s
theorem so_rest {f : Value} (I : Inv X pins σ H s) (hk1 : s.heap.get? kS = some (seqObj "list" #[] 0)) (ha1 : s.heap.get? a = some (seqObj "list" #[] e1)) (fk : FpOk X pins H kS) (fa : FpOk X pins H a) (hka : kS ≠ a)
    (hlen : kz.length = vs.length) (h64 : vs.length < 64) (turn : KeyTurn X σ H A f vs kz) (h : SortEnd X pins σ H a kz vs P) : wpAny (model X.prog X.w) A (ksk_rest a f false vs.toArray e1 (.ref kS)) P E s := by
  unfold ksk_rest
  refine wpAny_bind (wpAny_rule ?_)
  first
    | rw [List.forIn_toArray]
    | (rw [← Array.forIn_toList]; simp only [List.toList_toArray])
    | rw [← Array.forIn_toList]
  refine wpAny_bind (ksk_fold (fun i s' => ∃ kA e, Inv X pins σ H s' ∧ s'.heap.get? kS = some (seqObj "list" kA e) ∧ s'.heap.get? a = some (seqObj "list" #[] e1) ∧ IntsAre kA.toList (kz.take i)) vs 0 s
    ⟨#[], 0, I, hk1, ha1, by simpa using IntsAre.nil⟩ ?step ?done)
  case step =>
    rintro j x s' hx ⟨kA, e, I', hk', ha', hk⟩
    simp only [Nat.zero_add] at hk ⊢
    have hj : j < vs.length := (List.getElem?_eq_some_iff.mp hx).1
    obtain ⟨k, hkj⟩ : ∃ k, kz[j]? = some k := ⟨_, List.getElem?_eq_getElem (by omega)⟩
    have hz : kA.size ≤ vs.length := by
      have h1 := hk.length
      rw [Array.length_toList, List.length_take] at h1
      omega
    have Ip : Inv X (pins ++ [(kS, seqObj "list" kA e), (a, seqObj "list" #[] e1)]) σ H s' := I'.pins_of fun p hp => by
      rcases List.mem_append.mp hp with q | q
      · exact I'.pin p (List.mem_append_right _ q)
      · rcases List.mem_cons.mp q with rfl | q
        · exact fp_pin fk hk' seq_nocell
        · rw [List.mem_singleton.mp q]; exact fp_pin fa ha' seq_nocell
    refine wpAny_bind (wpAny_attempt (wpAny_mono (turn j x k _ s' hx hkj Ip) (fun v s'' he => ?_) fun _ _ hF => hF.elim))
    obtain ⟨⟨t2, rfl⟩, I2⟩ := he
    try dsimp only
    have nk := (I2.pin (kS, seqObj "list" kA e) (by simp)).1
    have na := (I2.pin (a, seqObj "list" #[] e1) (by simp)).1
    have J2 : Inv X pins σ H s'' := I2.unpinned
    obtain ⟨c2, hc2⟩ : ∃ c2, (s''.heap.update kS (Obj.mapSeq (·.push (.int k t2)))).get? kS = some (seqObj "list" (kA.push (.int k t2)) c2) := ⟨_, get?_update_seq nk (·.push (.int k t2))⟩
    have ek : kz.take (j + 1) = kz.take j ++ [k] := by rw [List.take_add_one, hkj]; simp
    have ea : (kA.push (Value.int k t2)).toList = kA.toList ++ [Value.int k t2] := by simp
    refine wpAny_bind (listUpdate_at nk rfl ?_ (by rw [sizeLine_eq]; omega) (Nat.le_trans (Nat.le_of_eq (Array.size_push ..)) (by rw [sizeLine_eq]; omega)))
    refine wpAny_pure ⟨rfl, kA.push (.int k t2), c2, J2.upd1 (t' := s''.toks) fk, hc2, ?_, by rw [ea, ek]; exact ksk_snoc hk⟩
    exact ((Heap.SameBut.update s''.heap kS (Obj.mapSeq (·.push (.int k t2)))).2 a hka.symm).trans na
  case done =>
    rintro s' ⟨kA, e, I', hk', ha', hk⟩
    have hk2 : IntsAre kA.toList kz := by
      have e3 : kz.take (0 + vs.length) = kz := List.take_of_length_le (by omega)
      rw [e3] at hk
      exact hk
    try dsimp only
    refine wpAny_bind (listItems_at hk' rfl ?_)
    exact so_end I' hk' ha' fk fa hka hk2 hlen h64 h
theorem so_tree {f : Value} {n : Nat} (I : Inv X pins σ H s) (ho : s.heap.get? a = some (seqObj "list" vs.toArray n)) (fa : FpOk X pins H a) (hlen : kz.length = vs.length) (h64 : vs.length < 64)
    (turn : KeyTurn X σ H A f vs kz) (h : SortEnd X pins σ H a kz vs P) : wpAny (model X.prog X.w) A (ksk_tree a f false) P E s := by
  have ha : a < s.heap.objs.size := Heap.lt_size ho
  obtain ⟨e1, ho1⟩ : ∃ e1, (s.heap.update a (Obj.mapSeq fun _ => (#[] : Array Value))).get? a = some (seqObj "list" #[] e1) := ⟨_, get?_update_seq ho fun _ => #[]⟩
  have I1 := I.upd1 (t' := s.toks) (f := fun _ => (#[] : Array Value)) fa
  have hkS : ((s.heap.update a (Obj.mapSeq fun _ => (#[] : Array Value))).push (seqObj "tuple" vs.toArray 0)).objs.size = s.heap.objs.size + 1 := by rw [size_push', Heap.size_update]
  unfold ksk_tree
  refine wpAny_bind (listItems_at ho rfl ?_)
  refine wpAny_bind (listUpdate_at ho rfl ?_ (by rw [List.size_toArray, sizeLine_eq]; omega) (Nat.zero_le _))
  refine wpAny_bind (seqEpoch_at ho1 rfl ?_)
  refine wpAny_bind (wpAny_newTuple ?_ (by show vs.length ≤ _; rw [sizeLine_eq]; omega))
  refine wpAny_bind (wpAny_newList ?_ (Nat.zero_le _))
  refine wpAny_holding ?_
  have I2 : Inv X pins σ H { s with heap := (s.heap.update a (Obj.mapSeq fun _ => (#[] : Array Value))).push (seqObj "tuple" vs.toArray 0) } := I1.kept (t' := s.toks) fun b o e => Heap.get?_push_of_some _ e
  have I3 : Inv X pins σ H { s with heap := ((s.heap.update a (Obj.mapSeq fun _ => (#[] : Array Value))).push (seqObj "tuple" vs.toArray 0)).push (seqObj "list" #[] 0) } := I2.kept (t' := s.toks) fun b o e => Heap.get?_push_of_some _ e
  have fk : FpOk X pins H ((s.heap.update a (Obj.mapSeq fun _ => (#[] : Array Value))).push (seqObj "tuple" vs.toArray 0)).objs.size := I2.fpOk (Nat.le_refl _) (I2.hok.fresh (Nat.le_refl _))
  exact so_rest I3 (Heap.get?_push_size _ rfl) (Heap.get?_push_of_some _ (Heap.get?_push_of_some _ ho1)) fk fa (by rw [hkS]; exact Nat.ne_of_gt (Nat.lt_succ_of_lt ha)) hlen h64 turn h
end
end L2
namespace L2
open PySem PySem.Spec PyProof.Rows
def Coll (X : Cx) (x : V) (H : Hp) (xs : List V) : Prop :=
  ∀ (pins : List (Addr × Obj)) (s : Shared) (σ : St) (v : Value) (A : Around) (E : Value → Shared → Prop) (Q : List Value → Shared → Prop), Inv X pins σ H s → RelV x v → A.handled = none →
    (∀ vs s', Vals xs vs → Inv X pins σ H s' → Q vs s') → wpAny (model X.prog X.w) A (collect v) Q E s
def SortedBy (kz : List Int) (xs ys : List V) : Prop := ∃ ps : List (Int × V), ps.Perm (kz.zip xs) ∧ ys = ps.map Prod.snd ∧ ps.Pairwise (fun p q => p.1 ≤ q.1)
def absV' (u : Value) : V := (absV u).getD .non
theorem abs_map : ∀ {xs : List V} {vs : List Value}, Vals xs vs → vs.map absV' = xs
  | _, _, .nil => rfl
  | _, _, .cons r t => by rw [List.map_cons, abs_map t]; unfold absV'; rw [r.abs]; rfl
theorem vals_mem : ∀ {xs : List V} {vs : List Value}, Vals xs vs → ∀ u ∈ vs, RelV (absV' u) u
  | _, _, .nil, u, h => nomatch h
  | _, _, .cons r t, u, h => by
    rcases List.mem_cons.mp h with q | q
    · rw [q]; unfold absV'; rw [r.abs]; exact r
    · exact vals_mem t u q
theorem vals_abs : ∀ {us : List Value}, (∀ u ∈ us, RelV (absV' u) u) → Vals (us.map absV') us
  | [], _ => .nil
  | u :: r, h => .cons (h u List.mem_cons_self) (vals_abs fun v hv => h v (List.mem_cons_of_mem _ hv))
theorem zip_map_snd {α β γ : Type} (f : β → γ) : ∀ (l : List α) (m : List β), (l.zip m).map (fun p => (p.1, f p.2)) = l.zip (m.map f)
  | [], _ => rfl
  | _ :: _, [] => rfl
  | a :: l, b :: m => by simp [zip_map_snd f l m]
theorem out_abs {kz : List Int} {xs : List V} {vs out : List Value} (rv : Vals xs vs) (h : KskOut false kz vs out) : ∃ ys, Vals ys out ∧ SortedBy kz xs ys ∧ ys.length ≤ vs.length := by
  obtain ⟨ps, h1, h2, h3⟩ := h
  have hm : ∀ u ∈ out, RelV (absV' u) u := fun u hu => by
    rw [h2] at hu
    obtain ⟨p, hp, rfl⟩ := List.mem_map.mp hu
    have := h1.mem_iff.mp hp
    obtain ⟨x, y⟩ := p
    exact vals_mem rv _ (List.of_mem_zip this).2
  refine ⟨out.map absV', vals_abs hm, ⟨ps.map (fun p => (p.1, absV' p.2)), ?_, ?_, ?_⟩, ?_⟩
  · have := h1.map (fun p : Int × Value => (p.1, absV' p.2))
    rw [zip_map_snd, abs_map rv] at this
    exact this
  · rw [h2, List.map_map, List.map_map]; rfl
  · rw [List.pairwise_map]
    exact h3.imp fun {p q} hpq => by simpa using hpq
  · rw [List.length_map, h2, List.length_map, h1.length_eq, List.length_zip]; exact Nat.min_le_right _ _
section
variable {X : Cx}
theorem so_sorted {pins : List (Addr × Obj)} {σ : St} {H : Hp} {s : Shared} {f : Addr} {x : V} {v : Value} {xs : List V} {kz : List Int} {Q : VK} (hc : X.calm = true) (I : Inv X pins σ H s) (rx : RelV x v) (hx : Coll X x H xs) (hlen : kz.length = xs.length) (h64 : xs.length < 64)
    (turn : ∀ vs, Vals xs vs → KeyTurn X σ H X.A.in1.in1 (.ref f) vs kz) (q : ∀ ys p, SortedBy kz xs ys → H p = none → Q (.ref p) (upd H p (.lst ys))) :
    wpAny (model X.prog X.w) X.A (call (.builtin "sorted") [v] [(Str.ofString "key", .ref f)]) (EP X pins σ Q) X.xe s := by
  refine call_function_entry_kw kind_sorted plain_sorted entry_sorted (ksk_s1 _ _) ?_
  unfold Builtin.«sorted»
  refine wpAny_bind (m := checkCount "sorted" 1 1 _) (wpAny_pure ?_)
  refine wpAny_bind (hx pins s σ v _ _ _ I rx (I.ok.hd hc) fun vs s1 rv I1 => ?_)
  have hl := rv.length
  refine wpAny_bind (wpAny_newList ?_ (by rw [sizeLine_eq]; omega))
  have I2 : Inv X pins σ H { s1 with heap := s1.heap.push (seqObj "list" vs.toArray 0) } := I1.kept (t' := s1.toks) fun b o e => Heap.get?_push_of_some _ e
  have fD : FpOk X pins H s1.heap.objs.size := I1.fpOk (Nat.le_refl _) (I1.hok.fresh (Nat.le_refl _))
  have hoL : (s1.heap.push (seqObj "list" vs.toArray 0)).get? s1.heap.objs.size = some (seqObj "list" vs.toArray 0) := Heap.get?_push_size _ rfl
  refine wpAny_bind (wpAny_holding (wpAny_call_entry_kw slot_list_sort ⟨_, hoL, rfl⟩ entry_list_sort ?body (ksk_l1 _ _)))
  case body =>
    show wpAny (model X.prog X.w) X.A.in1.in1 (Builtin.«list.sort» ⟨[.ref s1.heap.objs.size], [(Str.ofString "key", .ref f)]⟩) _ _ _
    rw [ksk_t1]
    refine so_tree I2 hoL fD (by rw [hlen, hl]) (by omega) (turn vs rv) fun s' out c I' ho' ko => ⟨_, rfl, ?_⟩
    obtain ⟨ys, ry, hs, hle⟩ := out_abs rv ko
    refine wpAny_pure ⟨_, rfl, .ref s1.heap.objs.size, upd H s1.heap.objs.size (.lst ys), I'.track fD ⟨?_, out.toList, c, ry, ?_⟩, rfl, q ys _ hs fD.1⟩
    · rw [sizeLine_eq]; omega
    · rw [ho']
theorem coll_list {a : Addr} {H : Hp} {xs : List V} (h : SqL X.K H a xs) : Coll X (.ref a) H xs := by
  intro pins s σ v A E Q I r hh hq
  cases r
  obtain ⟨its, rv, pl, hz⟩ := I.list h
  refine collect_list pl.isList (hq its _ rv ?_) (by rw [← rv.length]; exact hz)
  refine I.kept (t' := s.toks) fun b o e => ?_
  have hb : b ≠ s.heap.objs.size := Nat.ne_of_lt (Heap.lt_size e)
  exact (Heap.get?_update_other _ _ (Ne.symm hb)).trans (Heap.get?_push_of_some _ e)
def ValsO (p d : Addr) : HO := .ext fun h => h.IsValuesView p d
def rValues : V → List V → Hp → VK → Prop := fun x vs H Q => ∃ d kvs, x = .ref d ∧ vs = [] ∧ H d = some (.dK kvs) ∧ ∀ p, H p = none → Q (.ref p) (upd H p (ValsO p d))
theorem mt_values : MtM X "dict.values" rValues := by
  intro pins s σ H x vs v us Q I rx rv h
  obtain ⟨d, kvs, rfl, rfl, hd, q⟩ := h
  cases rx
  cases Vals.zero rv
  obtain ⟨hz, lo, ws, rk, hD⟩ := (show ObjOk X.prog X.w H s.heap d (.dK kvs) from I.hok d _ hd)
  refine call_meetsIn PySem.F.slot_dict_values hD.typeIs PySem.F.entry_dict_values (PySem.F.args_dict_values_1 _) (meets_dict_values (mixKind X.prog X.w) d lo) ⟨⟨ws, hD⟩, ?_⟩
  refine ⟨.ref s.heap.objs.size, _, I.laid (t' := s.toks) (o := ValsO s.heap.objs.size d) (fun b u e => Heap.get?_push_of_some _ e) (Nat.le_refl _) ?_, rfl, q _ (I.hok.fresh (Nat.le_refl _))⟩
  have e : (s.heap.push { cls := .type "dict_values", data := .fields #[.ref d] }).get? s.heap.objs.size = some { cls := .type "dict_values", data := .fields #[.ref d] } := Heap.get?_push_size _ rfl
  exact ⟨⟨_, e, rfl, rfl⟩, ⟨_, e⟩, fun h1 h2 ⟨o, e1, c, dd⟩ k => ⟨o, k o e1, c, dd⟩⟩
theorem kv_vals : ∀ {kvs : List (Key × V)} {ws : List (Key × Value)}, KV kvs ws → Vals (kvs.map (·.2)) (ws.map (·.2))
  | _, _, .nil => .nil
  | _, _, .cons r t => .cons r.2 (kv_vals t)
theorem view_at {pins : List (Addr × Obj)} {σ : St} {H : Hp} {s : Shared} {p d : Addr} {kvs : List (Key × V)} (I : Inv X pins σ H s) (hp : H p = some (ValsO p d)) (hd : H d = some (.dK kvs)) :
    ∃ ws ep, KV kvs ws ∧ kvs.length ≤ sizeLine ∧ s.heap.IsValuesView p d ∧ s.heap.DictAt (mixKind X.prog X.w) d ws ep := by
  obtain ⟨hz, lo, ws, rk, hD⟩ := (show ObjOk X.prog X.w H s.heap d (.dK kvs) from I.hok d _ hd)
  obtain ⟨hv, _, _⟩ := (show ObjOk X.prog X.w H s.heap p (ValsO p d) from I.hok p _ hp)
  obtain ⟨ep, hat⟩ := hD.dictAt
  exact ⟨ws, ep, rk, hz, hv, hat⟩
theorem items_vals {ws : List (Key × Value)} {acc : Array Value} (h : ItemsOf (fun i v => ∃ k, ws[i]? = some (k, v)) acc ws.length) : acc.toList = ws.map (·.2) :=
  PySem.W.kdl_vals_eq acc.toList (by rw [Array.length_toList]; exact h.1) fun j v e => h.2 j v (by rw [← Array.getElem?_toList]; exact e)
theorem coll_vals {p d : Addr} {H : Hp} {kvs : List (Key × V)} (hp : H p = some (ValsO p d)) (hd : H d = some (.dK kvs)) : Coll X (.ref p) H (kvs.map (·.2)) := by
  intro pins s σ v A E Q I r hh hq
  cases r
  obtain ⟨ws, ep, rk, hz, hv, hat⟩ := view_at I hp hd
  have hl : kvs.length = ws.length := Paired.length rk
  have kp : ∀ b o, s.heap.get? b = some o → (s.heap.push (seqObj "list" #[] 0)).get? b = some o := fun b o e => Heap.get?_push_of_some _ e
  have hv' : (s.heap.push (seqObj "list" #[] 0)).IsValuesView p d := let ⟨o, e, x⟩ := hv; ⟨o, kp _ _ e, x⟩
  have hat' : (s.heap.push (seqObj "list" #[] 0)).DictAt (mixKind X.prog X.w) d ws ep := hat.at' fun o e => kp _ _ e
  have lp : p < s.heap.objs.size := let ⟨o, e, _⟩ := hv; Heap.lt_size e
  have ld : d < s.heap.objs.size := hat.lt_size
  unfold collect
  refine wpAny_bind (wpAny_runValue (codeAny_builtin entry_proto_collect' ?_))
  show wpAny _ _ (do again (.builtin "list.__iadd__" ⟨[← newList [], .ref p], []⟩)) _ _ s
  refine wpAny_bind (wpAny_newList (wpAny_pure ⟨Code.quiet_builtin _ (by decide +kernel), codeAny_builtin entry_list_iadd' ?_⟩))
  show wpAny _ _ (Builtin.List.listExtendWith (.ref s.heap.objs.size) (.ref p) (.ref s.heap.objs.size)) _ _ { s with heap := s.heap.push (seqObj "list" #[] 0) }
  rw [Around.under_plainId (show plainId "list.__iadd__" = true by decide +kernel) _]
  have fin : ∀ s' : Shared, (∃ acc c, s'.heap.get? s.heap.objs.size = some { cls := .type "list", dict := none, data := .seq acc c, slots := #[] } ∧ acc.toList = ws.map (·.2) ∧ Inv X pins σ H s') →
      wpAny (model X.prog X.w) A (do
        let o ← load s.heap.objs.size
        match o.data with
        | .seq xs _ => pure xs.toList
        | _ => unsupported "internal:collect") Q E s' := by
    rintro s' ⟨acc, c, hS, e, I'⟩
    refine wpAny_bind (wpAny_load hS ?_)
    show wpAny _ _ (pure acc.toList) Q E _
    exact wpAny_pure (hq _ _ (by rw [e]; exact kv_vals rk) I')
  refine wpAny_mono (PySem.W.kdl_extend (R := fun r s' => r = .ok (.ret (.ref s.heap.objs.size)) ∧ ∃ acc c, s'.heap.get? s.heap.objs.size = some { cls := .type "list", dict := none, data := .seq acc c, slots := #[] } ∧ acc.toList = ws.map (·.2) ∧ Inv X pins σ H s')
    (s := { s with heap := s.heap.push (seqObj "list" #[] 0) }) (PySem.W.kdl_values (knd := mixKind X.prog X.w) (kvs := ws) (ep := ep)) hh ⟨hv', hat'⟩ s.heap.objs.size (Nat.ne_of_gt lp) (Nat.ne_of_gt ld) _ 0 (Heap.get?_push_size _ rfl) (fun h' tk acc c hk hS hacc => ?_) (show ws.length ≤ sizeLine by omega))
    (fun fi s' hf => ?_) (fun e s' he => nomatch he.1)
  · exact ⟨rfl, acc, c, hS, items_vals hacc, I.kept fun b o eb => hk b o (Nat.ne_of_lt (Heap.lt_size eb)) (kp b o eb)⟩
  · cases fi with
    | done f =>
      obtain ⟨e, g⟩ := hf
      cases e
      exact fin s' g
    | again c' =>
      refine ⟨hf.1, codeAny_mono hf.2 fun r s2 ⟨e, g⟩ => ?_⟩
      subst e
      exact fin s2 g
end
def spItem (i : Nat) : Sp := fun vs H Q _ => ∃ a x y z, vs = [.ref a] ∧ H a = some (.tup [x, y, z]) ∧ Q ([x, y, z].getD i .non) H
def CollV (K : PySem.W.Frag) (x : V) (H : Hp) (xs : List V) : Prop :=
  (∃ a, x = .ref a ∧ SqL K H a xs) ∨ ∃ p d kvs, x = .ref p ∧ H p = some (ValsO p d) ∧ H d = some (.dK kvs) ∧ xs = kvs.map (·.2)
theorem CollV.coll {X : Cx} {x : V} {H : Hp} {xs : List V} (h : CollV X.K x H xs) : Coll X x H xs := by
  rcases h with ⟨a, rfl, h⟩ | ⟨p, d, kvs, rfl, hp, hd, rfl⟩
  · exact coll_list h
  · exact coll_vals hp hd
def NumAll (H : Hp) (xs : List V) (kz : List Int) : Prop := kz.length = xs.length ∧ ∀ (i : Nat) x k, xs[i]? = some x → kz[i]? = some k → ∃ a y z, x = .ref a ∧ H a = some (.tup [.int k, y, z])
def rSortN (K : PySem.W.Frag) (x : V) (H : Hp) (Q : VK) : Prop := ∃ xs kz, CollV K x H xs ∧ xs.length < 64 ∧ NumAll H xs kz ∧ ∀ ys p, SortedBy kz xs ys → H p = none → Q (.ref p) (upd H p (.lst ys))
theorem Vals.back : ∀ {xs : List V} {vs : List Value} {i : Nat} {v : Value}, Vals xs vs → vs[i]? = some v → ∃ x, xs[i]? = some x ∧ RelV x v
  | _, _, _, _, .nil, e => by simp at e
  | _, _, 0, _, .cons r _, e => by simp at e; subst e; exact ⟨_, rfl, r⟩
  | _, _, i + 1, v, .cons _ t, e => by
    obtain ⟨u, h1, h2⟩ := Vals.back (i := i) (v := v) t (by simpa using e)
    exact ⟨u, by simpa using h1, h2⟩
section
variable {X : Cx} {e : Expr} {te : TE} {p p2 kpos pos : Pos} {x : Str} {ps : List Str}
theorem key_turn {f : Addr} {fd : FuncData} {σ : St} {H : Hp} {xs : List V} {kz : List Int} (F : FnOk X.prog X.w X.K X.mg X.base CX0 1 f fd ps (spItem 0)) (hps : ps.length = 1) (hb : Binds X.K fd ps []) (hr : Room 3 X.A) (hn : NumAll H xs kz) :
    ∀ vs, Vals xs vs → KeyTurn X σ H X.A.in1.in1 (.ref f) vs kz := by
  intro vs rv i v k pins s hv hk I
  obtain ⟨x, hx, rx⟩ := rv.back hv
  obtain ⟨a, y, z, rfl, ha⟩ := hn.2 i x k hx hk
  cases rx
  refine wpAny_call (codeAny_mono (F.run X.A.in1.in1 X.stack s H ⟨[.ref a], []⟩ [.ref a] [.ref a] (fun v' H' => v' = .int k ∧ H' = H) E0 hr.in1.in1 I.env0.in1.in1 (by
      have := hb s [.ref a] I.kIn (by simp [hps])
      simpa using this) (.cons rfl .nil) ⟨a, _, _, _, rfl, ha, rfl, rfl⟩) fun r s' hq => ?_)
  cases r with
  | error e => exact (show False from hq).elim
  | ok fl =>
    cases fl with
    | ret u =>
      obtain ⟨v', H', I', ru, e1, e2⟩ := I.after hq
      subst e1 e2
      exact ⟨ru, I'⟩
    | next => exact False.elim hq
    | brk => exact False.elim hq
    | cont => exact False.elim hq
theorem k_sortN (K : PySem.W.Frag) (C : Callee X.prog X.w X.K X.mg X.base 1 x ["message"] (spItem 0)) (hr : Room 3 X.A) (hc : X.calm = true) (he : PE X e te) (hm : X.mg "sorted" = none) (h : X.K = K := by rfl) (hg : Gl X "sorted" := by rfl) (hgx : Gl X x := by rfl) (hp : plainE e = true := by rfl)
    (hdx : (x == ("__debug__" : Str)) = false := by decide) :
    PE X (.Call (.Name "sorted" p) [e] [⟨some "key", .Name x p2, kpos⟩] pos) (tUn (rSortN K) te) := by
  subst h
  obtain ⟨f, fd, F, hmx, hk, hb⟩ := C.ex
  intro pins s σ H Q I hw
  refine wpAny_Call_Name_kw (ld_blt I hg hm boot_sorted ?_)
  refine callWith_kw ?_ (by rw [star_of hp]; rfl) (by rw [star_of hp]; rfl)
  rw [star_of hp]
  show wpAny _ _ (spliced ((false, eval e X.env) :: backTo pos (starEach [] X.env))) _ _ s
  refine Calls.spliced_cons (thn (he pins s σ H _ I hw) fun u s1 ⟨xv, H1, I1, r1, q1⟩ => Calls.spliced_nil ?_)
  have hkv := pk_cons (nm := some "key") (kpos := kpos) (pe_glob (pos := p2) hgx hmx (v := .ref f) rfl hdx) (pk_nil (X := X)) pos pins s1 σ H1 (fun zs H2 => zs = [.ref f] ∧ H2 = H1) I1 ⟨rfl, rfl⟩
  refine thn hkv fun ws s2 ⟨zs, H2, I2, rz, e1, e2⟩ => ?_
  subst e1 e2
  obtain ⟨w1, rfl, rw1⟩ := rz.one
  cases rw1
  obtain ⟨xs, kz, h1, h2, h3, q⟩ := q1
  exact so_sorted hc I2 r1 h1.coll h3.1 h2 (key_turn F rfl hb hr h3) q
end
end L2
namespace L2
open PySem PySem.Spec PyProof.Rows PySem.W
theorem getD_range (vs : List Value) : (List.range vs.length).map (fun i => vs.getD i Value.none) = vs := by
  refine List.ext_getElem (by simp) fun i h1 h2 => ?_
  simp at h1
  simp [List.getD, h1]
end L2
namespace L2
open PySem
structure Msg where
  n : Int
  t : Str
  x : Str
deriving DecidableEq
def Rise (l : List Msg) : Prop := l.Pairwise fun p q => p.n < q.n
theorem Rise.nil : Rise [] := List.Pairwise.nil
def Top (ms : List Msg) (m : Msg) : Prop := m ∈ ms ∧ ∀ k ∈ ms, k.t = m.t → k.n ≤ m.n
def Lasts (ms ls : List Msg) : Prop := Rise ls ∧ ∀ m, m ∈ ls ↔ Top ms m
theorem Top.perm {ms ms' : List Msg} {m : Msg} (h : ms.Perm ms') : Top ms m ↔ Top ms' m :=
  ⟨fun ⟨a, b⟩ => ⟨h.mem_iff.mp a, fun k hk => b k (h.mem_iff.mpr hk)⟩, fun ⟨a, b⟩ => ⟨h.mem_iff.mpr a, fun k hk => b k (h.mem_iff.mp hk)⟩⟩
theorem Lasts.perm {ms ms' ls : List Msg} (h : ms.Perm ms') (l : Lasts ms ls) : Lasts ms' ls := ⟨l.1, fun m => (l.2 m).trans (Top.perm h)⟩
def Diff (ms : List Msg) : Prop := (ms.map (·.n)).Nodup
theorem Rise.diff {l : List Msg} (h : Rise l) : Diff l := by
  unfold Diff List.Nodup
  rw [List.pairwise_map]
  exact h.imp fun hlt => Int.ne_of_lt hlt
theorem Diff.perm {l r : List Msg} (h : l.Perm r) (d : Diff l) : Diff r := (h.map _).nodup_iff.mp d
theorem Diff.eq : ∀ {ms : List Msg}, Diff ms → ∀ {a b : Msg}, a ∈ ms → b ∈ ms → a.n = b.n → a = b
  | [], _, a, b, ha, _, _ => absurd ha List.not_mem_nil
  | m :: ms, d, a, b, ha, hb, e => by
    unfold Diff at d
    rw [List.map_cons, List.nodup_cons] at d
    rcases List.mem_cons.mp ha with h1 | h1 <;> rcases List.mem_cons.mp hb with h2 | h2
    · rw [h1, h2]
    · exact absurd (List.mem_map.mpr ⟨b, h2, by rw [← e, h1]⟩) d.1
    · exact absurd (List.mem_map.mpr ⟨a, h1, by rw [e, h2]⟩) d.1
    · exact Diff.eq d.2 h1 h2 e
theorem Top.topic {ms : List Msg} (d : Diff ms) {a b : Msg} (ha : Top ms a) (hb : Top ms b) (e : a.t = b.t) : a = b :=
  Diff.eq d ha.1 hb.1 (Int.le_antisymm (hb.2 a ha.1 e) (ha.2 b hb.1 e.symm))
section
variable {α β : Type}
def putD (D : List (Str × α)) (t : Str) (d : α) : List (Str × α) := if D.any (fun p => decide (p.1 = t)) = true then D.map fun p => if p.1 = t then (p.1, d) else p else D ++ [(t, d)]
theorem putD_map (f : α → β) (D : List (Str × α)) (t : Str) (d : α) : (putD D t d).map (fun p => (p.1, f p.2)) = putD (D.map fun p => (p.1, f p.2)) t (f d) := by
  unfold putD
  have e : (D.map fun p => (p.1, f p.2)).any (fun p => decide (p.1 = t)) = D.any fun p => decide (p.1 = t) := by rw [List.any_map]; rfl
  rw [e]
  split
  · rw [List.map_map, List.map_map]
    refine List.map_congr_left fun p _ => ?_
    show ((if p.1 = t then (p.1, d) else p).1, f (if p.1 = t then (p.1, d) else p).2) = if p.1 = t then (p.1, f d) else (p.1, f p.2)
    split <;> rfl
  · rw [List.map_append]; rfl
theorem mem_putD {D : List (Str × α)} {t : Str} {d : α} (p : Str × α) : p ∈ putD D t d ↔ p = (t, d) ∨ (p ∈ D ∧ p.1 ≠ t) := by
  unfold putD
  split
  · rename_i h
    rw [List.mem_map]
    constructor
    · rintro ⟨q, hq, rfl⟩
      by_cases e : q.1 = t
      · rw [if_pos e, e]; exact .inl rfl
      · rw [if_neg e]; exact .inr ⟨hq, e⟩
    · rintro (rfl | ⟨hp, hn⟩)
      · obtain ⟨q, hq, e⟩ := List.any_eq_true.mp h
        have e' : q.1 = t := of_decide_eq_true e
        exact ⟨q, hq, by rw [if_pos e', e']⟩
      · exact ⟨p, hp, by rw [if_neg hn]⟩
  · rename_i h
    rw [List.mem_append, List.mem_singleton]
    constructor
    · rintro (hp | rfl)
      · refine .inr ⟨hp, fun e => h ?_⟩
        exact List.any_eq_true.mpr ⟨p, hp, decide_eq_true e⟩
      · exact .inl rfl
    · rintro (rfl | ⟨hp, hn⟩)
      · exact .inr rfl
      · exact .inl hp
theorem nd_putD {D : List (Str × α)} {t : Str} {d : α} (h : (D.map (·.1)).Nodup) : ((putD D t d).map (·.1)).Nodup := by
  unfold putD
  split
  · rw [List.map_map]
    have e : (D.map ((fun p : Str × α => p.1) ∘ fun p => if p.1 = t then (p.1, d) else p)) = D.map (·.1) := by
      refine List.map_congr_left fun p _ => ?_
      show (if p.1 = t then (p.1, d) else p).1 = p.1
      split <;> rfl
    rw [e]; exact h
  · rename_i hn
    rw [List.map_append, List.map_singleton, List.nodup_append]
    refine ⟨h, List.nodup_cons.mpr ⟨List.not_mem_nil, List.nodup_nil⟩, fun a ha b hb => ?_⟩
    rw [List.mem_singleton.mp hb]
    intro e
    subst e
    obtain ⟨p, hp, e⟩ := List.mem_map.mp ha
    exact hn (List.any_eq_true.mpr ⟨p, hp, decide_eq_true e⟩)
theorem len_putD (D : List (Str × α)) (t : Str) (d : α) : (putD D t d).length ≤ D.length + 1 := by
  unfold putD
  split
  · rw [List.length_map]; omega
  · rw [List.length_append]; exact Nat.le_refl _
def puts (D : List (Str × α)) (l : List (Str × α)) : List (Str × α) := l.foldl (fun D p => putD D p.1 p.2) D
theorem puts_snoc (D l : List (Str × α)) (p : Str × α) : puts D (l ++ [p]) = putD (puts D l) p.1 p.2 := by unfold puts; rw [List.foldl_append]; rfl
theorem puts_map (f : α → β) : ∀ (l D : List (Str × α)), (puts D l).map (fun p => (p.1, f p.2)) = puts (D.map fun p => (p.1, f p.2)) (l.map fun p => (p.1, f p.2))
  | [], D => rfl
  | p :: l, D => by
    show (puts (putD D p.1 p.2) l).map _ = puts (putD (D.map fun p => (p.1, f p.2)) p.1 (f p.2)) (l.map fun p => (p.1, f p.2))
    rw [puts_map f l, putD_map]
theorem nd_puts : ∀ (l D : List (Str × α)), (D.map (·.1)).Nodup → ((puts D l).map (·.1)).Nodup
  | [], D, h => h
  | p :: l, D, h => nd_puts l _ (nd_putD h)
theorem len_puts : ∀ (l D : List (Str × α)), (puts D l).length ≤ D.length + l.length
  | [], D => by show D.length ≤ _; omega
  | p :: l, D => by
    have h1 := len_puts l (putD D p.1 p.2)
    have h2 := len_putD D p.1 p.2
    show (puts (putD D p.1 p.2) l).length ≤ _
    rw [List.length_cons]; omega
theorem putD_new {D : List (Str × α)} {t : Str} {d : α} (h : ∀ p ∈ D, p.1 ≠ t) : putD D t d = D ++ [(t, d)] := by
  unfold putD
  rw [if_neg]
  intro z
  obtain ⟨p, hp, e⟩ := List.any_eq_true.mp z
  exact h p hp (of_decide_eq_true e)
def valD (D : List (Str × α)) (t : Str) : Option α := (D.find? fun p => decide (p.1 = t)).map (·.2)
theorem valD_mem : ∀ {D : List (Str × α)} {t : Str} {d : α}, (D.map (·.1)).Nodup → (t, d) ∈ D → valD D t = some d
  | [], _, _, _, h => absurd h List.not_mem_nil
  | p :: D, t, d, hn, h => by
    rw [List.map_cons, List.nodup_cons] at hn
    rcases List.mem_cons.mp h with e | e
    · subst e; simp [valD]
    · have hp : ¬ p.1 = t := fun z => hn.1 (List.mem_map.mpr ⟨(t, d), e, z.symm⟩)
      have : valD (p :: D) t = valD D t := by simp [valD, List.find?_cons, hp]
      rw [this]; exact valD_mem hn.2 e
end
theorem len_sub {α : Type} [DecidableEq α] : ∀ {l r : List α}, l.Nodup → (∀ x ∈ l, x ∈ r) → l.length ≤ r.length
  | [], r, _, _ => Nat.zero_le _
  | a :: l, r, hn, h => by
    rw [List.nodup_cons] at hn
    have ha := h a List.mem_cons_self
    have := len_sub (l := l) (r := r.erase a) hn.2 fun x hx => (List.mem_erase_of_ne (fun e : x = a => hn.1 (by rw [← e]; exact hx))).mpr (h x (List.mem_cons_of_mem _ hx))
    rw [List.length_erase_of_mem ha] at this
    have hp := List.length_pos_of_mem ha
    rw [List.length_cons]; omega
def eqT (D E : List (Str × Str)) : Bool := D.length == E.length && D.all fun p => decide (valD E p.1 = some p.2)
theorem eqT_of {D E : List (Str × Str)} (h1 : (D.map (·.1)).Nodup) (h2 : (E.map (·.1)).Nodup) (h : ∀ p, p ∈ D ↔ p ∈ E) : eqT D E = true := by
  have nd : ∀ {D : List (Str × Str)}, (D.map (·.1)).Nodup → D.Nodup := fun h => (List.pairwise_map.mp h).imp fun hne e => hne (congrArg _ e)
  have e : D.length = E.length := Nat.le_antisymm (len_sub (nd h1) fun x hx => (h x).mp hx) (len_sub (nd h2) fun x hx => (h x).mpr hx)
  unfold eqT
  rw [e, beq_self_eq_true, Bool.true_and, List.all_eq_true]
  intro p hp
  exact decide_eq_true (valD_mem h2 ((h p).mp hp))
def kM (m : Msg) : Str × Msg := (m.t, m)
def newest (ms : List Msg) : List (Str × Msg) := puts [] (ms.map kM)
theorem newest_snoc (ms : List Msg) (m : Msg) : newest (ms ++ [m]) = putD (newest ms) m.t m := by unfold newest; rw [List.map_append, List.map_singleton, puts_snoc]; rfl
theorem newest_nd (ms : List Msg) : ((newest ms).map (·.1)).Nodup := nd_puts _ _ List.nodup_nil
theorem newest_len (ms : List Msg) : (newest ms).length ≤ ms.length := by
  have := len_puts (ms.map kM) []
  rw [List.length_map] at this
  simpa [newest] using this
theorem list_snoc {α : Type} {P : List α → Prop} (h0 : P []) (hs : ∀ l a, P l → P (l ++ [a])) (l : List α) : P l := by
  have : ∀ r : List α, P r.reverse := fun r => by
    induction r with
    | nil => exact h0
    | cons a r ih => rw [List.reverse_cons]; exact hs _ _ ih
  have := this l.reverse
  rwa [List.reverse_reverse] at this
theorem mem_newest : ∀ (ms : List Msg), Rise ms → ∀ p, p ∈ newest ms ↔ p.1 = p.2.t ∧ Top ms p.2 := by
  refine list_snoc ?_ ?_
  · intro _ p; exact ⟨fun h => absurd h List.not_mem_nil, fun h => absurd h.2.1 List.not_mem_nil⟩
  · intro ms m ih hr p
    have hr' := List.pairwise_append.mp hr
    rw [newest_snoc, mem_putD, ih hr'.1]
    have hm : ∀ k ∈ ms, k.n < m.n := fun k hk => hr'.2.2 k hk m (List.mem_singleton.mpr rfl)
    constructor
    · rintro (rfl | ⟨⟨e, h1, h2⟩, hn⟩)
      · refine ⟨rfl, List.mem_append_right _ (List.mem_singleton.mpr rfl), fun k hk _ => ?_⟩
        rcases List.mem_append.mp hk with hk | hk
        · exact Int.le_of_lt (hm k hk)
        · rw [List.mem_singleton.mp hk]; exact Int.le_refl _
      · refine ⟨e, List.mem_append_left _ h1, fun k hk ek => ?_⟩
        rcases List.mem_append.mp hk with hk | hk
        · exact h2 k hk ek
        · rw [List.mem_singleton.mp hk] at ek
          exact absurd (e.trans ek.symm) hn
    · rintro ⟨e, h1, h2⟩
      rcases List.mem_append.mp h1 with h1 | h1
      · refine .inr ⟨⟨e, h1, fun k hk => h2 k (List.mem_append_left _ hk)⟩, fun en => ?_⟩
        have := h2 m (List.mem_append_right _ (List.mem_singleton.mpr rfl)) (by rw [← e, en])
        have := hm _ h1
        omega
      · left
        have := List.mem_singleton.mp h1
        obtain ⟨p1, p2⟩ := p
        have e1 : p2 = m := this
        have e2 : p1 = p2.t := e
        rw [e2, e1]
def stOf (ls : List Msg) : List (Str × Str) := ls.map fun m => (m.t, m.x)
theorem lasts_topics {ms ls : List Msg} (d : Diff ms) (h : Lasts ms ls) : (ls.map (·.t)).Nodup := by
  unfold List.Nodup
  rw [List.pairwise_map]
  have hr : ls.Pairwise fun p q => p.n < q.n := h.1
  refine (List.Pairwise.and_mem.mp hr).imp fun {a b} ⟨ha, hb, hlt⟩ e => ?_
  have := Top.topic d ((h.2 a).mp ha) ((h.2 b).mp hb) e
  subst this
  omega
theorem st_eq {ms here ls : List Msg} (hp : ms.Perm here) (hr : Rise here) (h : Lasts ms ls) : eqT (stOf ls) (puts [] (here.map fun m => (m.t, m.x))) = true := by
  have d := Diff.perm hp.symm hr.diff
  have e : puts [] (here.map fun m => (m.t, m.x)) = (newest here).map fun p => (p.1, p.2.x) := by
    unfold newest
    rw [puts_map]
    simp [List.map_map, Function.comp_def, kM]
  rw [e]
  refine eqT_of ?_ ?_ fun p => ?_
  · unfold stOf; rw [List.map_map]; exact lasts_topics d h
  · rw [List.map_map]; exact newest_nd here
  · unfold stOf
    rw [List.mem_map, List.mem_map]
    constructor
    · rintro ⟨m, hm, rfl⟩
      exact ⟨(m.t, m), (mem_newest here hr _).mpr ⟨rfl, (Top.perm hp).mp ((h.2 m).mp hm)⟩, rfl⟩
    · rintro ⟨q, hq, rfl⟩
      obtain ⟨e, ht⟩ := (mem_newest here hr q).mp hq
      exact ⟨q.2, (h.2 _).mpr ((Top.perm hp).mpr ht), by rw [e]⟩
end L2
namespace L2
open PySem PySem.Spec PyProof.Rows PySem.W
section
variable {X : Cx}
theorem k_bm0 (K : PySem.W.Frag) {o : Expr} {to : TE} {name : Str} {apos cpos : Pos} {T id : String} {r : V → List V → Hp → VK → Prop} (pa : PlainAttrs T) (slot : Slot T name id) (hty : typeOf (.builtin id) = pure (.type "method_descriptor")) (hm : MtR X id r) (ho : PE X o to) (h : X.K = K := by rfl)
    (hbase : attributeBase o name X.env (eval o X.env) = eval o X.env := by rfl) (hline : (apos.endLine == cpos.line) = true := by rfl) : PE X (.Call (.Attribute o name apos) [] [] cpos) (tBM0 K T r to) := h ▸ pe_bm0 pa slot hty hm ho hbase hline
end
def dS (D : List (Str × Str)) : List (Key × V) := D.map fun p => (Sum.inr p.1, V.str p.2)
theorem dS_val (E : List (Str × Str)) (t : Str) : valV (dS E) (Sum.inr t) = (valD E t).map V.str := by
  induction E with
  | nil => rfl
  | cons p E ih =>
    by_cases e : p.1 = t
    · have h1 : valV (dS (p :: E)) (Sum.inr t) = some (V.str p.2) := valV_pos (p := (Sum.inr p.1, V.str p.2)) (by rw [e])
      have h2 : valD (p :: E) t = some p.2 := by simp [valD, e]
      rw [h1, h2]; rfl
    · have h1 : valV (dS (p :: E)) (Sum.inr t) = valV (dS E) (Sum.inr t) := valV_neg (p := (Sum.inr p.1, V.str p.2)) (fun z => e (by injection z))
      have h2 : valD (p :: E) t = valD E t := by simp [valD, List.find?_cons, e]
      rw [h1, h2, ih]
theorem dS_put (D : List (Str × Str)) (t x : Str) : putK (dS D) (Sum.inr t) (V.str x) = dS (putD D t x) := by
  unfold putK putD dS
  have e : (D.map fun p : Str × Str => ((Sum.inr p.1 : Key), V.str p.2)).any (fun kv => decide (kv.1 = Sum.inr t)) = D.any fun p => decide (p.1 = t) := by
    rw [List.any_map]
    congr 1
    funext p
    exact decide_eq_decide.mpr ⟨fun z => Sum.inr.inj z, fun z => congrArg Sum.inr z⟩
  rw [e]
  split
  · rw [List.map_map, List.map_map]
    refine List.map_congr_left fun p _ => ?_
    by_cases h : p.1 = t
    · show (if (Sum.inr p.1 : Key) = Sum.inr t then _ else _) = _
      rw [if_pos (by rw [h])]
      show _ = ((Sum.inr (if p.1 = t then (p.1, x) else p).1 : Key), V.str (if p.1 = t then (p.1, x) else p).2)
      rw [if_pos h]
    · show (if (Sum.inr p.1 : Key) = Sum.inr t then _ else _) = _
      rw [if_neg (fun z => h (by injection z))]
      show _ = ((Sum.inr (if p.1 = t then (p.1, x) else p).1 : Key), V.str (if p.1 = t then (p.1, x) else p).2)
      rw [if_neg h]
  · rw [List.map_append]; rfl
theorem keq_hits {A : Around} {s : Shared} {E : List (Str × Str)} {vb : List (Key × Value)} (rb : KV (dS E) vb) : ∀ {D : List (Str × Str)} {va : List (Key × Value)}, KV (dS D) va → KeqHits A s vb va (D.all fun p => decide (valD E p.1 = some p.2))
  | [], va, r => by
    have h := Paired.length r
    cases va with
    | nil => exact .nil
    | cons q va => exact absurd h (by simp [dS])
  | p :: D, va, r => by
    cases r with
    | @cons _ q _ vr h t =>
      obtain ⟨h1, h2⟩ := h
      have hv := rb.val (Sum.inr p.1)
      rw [dS_val] at hv
      have ih := keq_hits (A := A) (s := s) rb t
      obtain ⟨q1, q2⟩ := q
      have e1 : Sum.inr p.1 = q1 := h1
      subst e1
      rw [List.all_cons]
      cases hE : valD E p.1 with
      | none =>
        rw [hE] at hv
        have := RelO.none_of hv
        simp
        exact .miss this
      | some z =>
        rw [hE] at hv
        obtain ⟨u, hu, ru⟩ := RelO.some_of hv
        have e2 : eqV (.str p.2) (.str z) = decide (some z = some p.2) := by
          show (p.2 == z) = _
          by_cases q : p.2 = z
          · subst q; simp
          · have : ¬ some z = some p.2 := fun w => q (by injection w with w; exact w.symm)
            rw [decide_eq_false this]; simpa using q
        have he := eqAt_V (A := A) (s := s) (y := .str p.2) (x := .str z) h2 ru rfl rfl
        rw [e2] at he
        exact .hit hu he ih
def rEqS (neg : Bool) : R2 := fun x y H Q => ∃ a b D E, x = .ref a ∧ y = .ref b ∧ H a = some (.dK (dS D)) ∧ H b = some (.dK (dS E)) ∧ Q (.bl (if neg then !eqT D E else eqT D E)) H
section
variable {X : Cx}
theorem len_dS (D : List (Str × Str)) : (dS D).length = D.length := by unfold dS; rw [List.length_map]
theorem op_neS (hu : X.A.units < cLine) : OpR X (compareOp .NotEq) (rEqS true) := by
  rintro pins s σ H x y v u Q I rx ry ⟨a, b, D, E, rfl, rfl, ha, hb, q⟩
  cases rx; cases ry
  obtain ⟨_, na, va, ka, da⟩ := dk_of I.hok ha
  obtain ⟨_, nb, vb, kb, db⟩ := dk_of I.hok hb
  refine keq_ne na nb da db hu (fun _ => keq_hits kb ka) ⟨.bl _, H, I, rfl, ?_⟩
  have h1 := Paired.length ka
  have h2 := Paired.length kb
  rw [len_dS] at h1 h2
  rw [← h1, ← h2]
  exact q
end
def mD (m : Msg) : PyData := .tuple [.int m.n, .str m.t, .str m.x]
def mT (m : Msg) : HO := .tup [.int m.n, .str m.t, .str m.x]
def mOk (m : Msg) : Prop := PyData.strOk m.t = true ∧ PyData.strOk m.x = true
theorem has_msg {H : Hp} {v : V} {m : Msg} (h : Has H v (mD m)) : ∃ c, v = .ref c ∧ H c = some (mT m) := by
  unfold mD Has at h
  obtain ⟨a, xs, rfl, h1, h2⟩ := h
  unfold HasL at h2
  obtain ⟨x1, r1, rfl, e1, h2⟩ := h2
  unfold HasL at h2
  obtain ⟨x2, r2, rfl, e2, h2⟩ := h2
  unfold HasL at h2
  obtain ⟨x3, r3, rfl, e3, h2⟩ := h2
  unfold HasL at h2
  subst h2
  unfold Has at e1 e2 e3
  subst e1 e2 e3
  exact ⟨a, rfl, h1⟩
theorem msg_has {H : Hp} {c : Addr} {m : Msg} (h : H c = some (mT m)) : Has H (.ref c) (mD m) := has_tup h (hasL_cons (has_int _) (hasL_cons (has_str _) (hasL_cons (has_str _) hasL_nil)))
def Ms (H : Hp) (xs : List V) (ms : List Msg) : Prop := HasL H xs (ms.map mD)
theorem Ms.same {H H' : Hp} {xs : List V} {ms : List Msg} (h : Ms H xs ms) (e : Same H H') : Ms H' xs ms := HasL.same e h
theorem Ms.nil {H : Hp} : Ms H [] [] := hasL_nil
theorem Ms.len {H : Hp} {xs : List V} {ms : List Msg} (h : Ms H xs ms) : xs.length = ms.length := by have := HasL.length h; rw [List.length_map] at this; exact this
theorem Ms.append {H : Hp} {xs ys : List V} {ms ns : List Msg} (h : Ms H xs ms) (h' : Ms H ys ns) : Ms H (xs ++ ys) (ms ++ ns) := by unfold Ms; rw [List.map_append]; exact HasL.append h h'
theorem Ms.one {H : Hp} {c : Addr} {m : Msg} (h : H c = some (mT m)) : Ms H [.ref c] [m] := hasL_cons (msg_has h) hasL_nil
theorem Ms.get {H : Hp} {xs : List V} {ms : List Msg} (h : Ms H xs ms) {i : Nat} (hi : i < ms.length) : ∃ c, xs[i]? = some (.ref c) ∧ H c = some (mT ms[i]) := by
  obtain ⟨x, e, hx⟩ := HasL.get (i := i) (d := mD ms[i]) h (by rw [List.getElem?_map, List.getElem?_eq_getElem hi]; rfl)
  obtain ⟨c, rfl, hc⟩ := has_msg hx
  exact ⟨c, e, hc⟩
theorem Ms.cons_iff {H : Hp} {x : V} {xs : List V} {ms : List Msg} : Ms H (x :: xs) ms ↔ ∃ m r, ms = m :: r ∧ Has H x (mD m) ∧ Ms H xs r := by
  cases ms with
  | nil =>
    constructor
    · intro h; unfold Ms at h; rw [List.map_nil] at h; unfold HasL at h; exact absurd h (by simp)
    · rintro ⟨m, r, e, _⟩; exact absurd e (by simp)
  | cons m r =>
    constructor
    · intro h
      unfold Ms at h; rw [List.map_cons] at h; unfold HasL at h
      obtain ⟨x', r', e, h1, h2⟩ := h
      cases e
      exact ⟨m, r, rfl, h1, h2⟩
    · rintro ⟨m', r', e, h1, h2⟩
      cases e
      exact hasL_cons h1 h2
theorem Ms.head {H : Hp} {x : V} {xs : List V} {m : Msg} {r : List Msg} (h : Ms H (x :: xs) (m :: r)) : Has H x (mD m) ∧ Ms H xs r := by
  obtain ⟨m', r', e, h1, h2⟩ := Ms.cons_iff.mp h
  cases e
  exact ⟨h1, h2⟩
theorem Ms.take {H : Hp} : ∀ {xs : List V} {ms : List Msg} (n : Nat), Ms H xs ms → Ms H (xs.take n) (ms.take n)
  | [], [], n, h => by simpa using Ms.nil
  | [], m :: r, n, h => by have := h.len; simp at this
  | x :: xs, [], n, h => by have := h.len; simp at this
  | x :: xs, m :: r, 0, h => by simpa using Ms.nil
  | x :: xs, m :: r, n + 1, h => hasL_cons h.head.1 (Ms.take n h.head.2)
theorem Ms.drop {H : Hp} : ∀ {xs : List V} {ms : List Msg} (n : Nat), Ms H xs ms → Ms H (xs.drop n) (ms.drop n)
  | [], [], n, h => by simpa using Ms.nil
  | [], m :: r, n, h => by have := h.len; simp at this
  | x :: xs, [], n, h => by have := h.len; simp at this
  | x :: xs, m :: r, 0, h => h
  | x :: xs, m :: r, n + 1, h => Ms.drop n h.head.2
theorem Ms.num {H : Hp} {xs : List V} {ms : List Msg} (h : Ms H xs ms) : NumAll H xs (ms.map (·.n)) := by
  refine ⟨by rw [List.length_map, h.len], fun i x k hx hk => ?_⟩
  rw [List.getElem?_map] at hk
  have hi : i < ms.length := by rw [← h.len]; exact (List.getElem?_eq_some_iff.mp hx).1
  obtain ⟨c, e, hc⟩ := h.get hi
  rw [hx] at e
  rw [List.getElem?_eq_getElem hi] at hk
  cases e
  cases hk
  exact ⟨c, _, _, rfl, hc⟩
theorem lay_ms : ∀ {ms : List Msg}, (∀ m ∈ ms, mOk m) → PyData.canLayAll0 (ms.map mD) = true
  | [], _ => by simp [PyData.canLayAll0]
  | m :: r, h => by
    obtain ⟨h1, h2⟩ := h m List.mem_cons_self
    simp [PyData.canLayAll0, PyData.canLay0, mD, h1, h2, lay_ms fun k hk => h k (List.mem_cons_of_mem _ hk)]
theorem depth_ms : ∀ ms : List Msg, PyData.depthAll (ms.map mD) ≤ 3
  | [] => by simp [PyData.depthAll]
  | m :: r => by
    have := depth_ms r
    simp only [List.map_cons, PyData.depthAll, PyData.depth, mD]
    omega
theorem shaped_ms {ms : List Msg} (h : ∀ m ∈ ms, mOk m) : SeqAt.shaped (.list (ms.map mD)) = true := by
  have h1 := depth_ms ms
  have h2 : PyData.depth (.list (ms.map mD)) ≤ 64 := by simp only [PyData.depth]; omega
  show (PyData.canLay0 (.list (ms.map mD)) && decide (PyData.depth (.list (ms.map mD)) ≤ 64)) = true
  rw [Bool.and_eq_true]
  exact ⟨by simp only [PyData.canLay0]; exact lay_ms h, decide_eq_true h2⟩
theorem eqv_ms {ms : List Msg} (h : ∀ m ∈ ms, mOk m) : PyData.eqv (.list (ms.map mD)) (.list (ms.map mD)) = true :=
  SeqAt.eqv_refl _ (by simp only [PyData.canLay0]; exact lay_ms h)
theorem ne_ms {H : Hp} {a b : Addr} {xs ys : List V} {ms : List Msg} {Q : VK} (ha : H a = some (.lst xs)) (hx : Ms H xs ms) (hb : H b = some (.lst ys)) (hy : Ms H ys ms) (ok : ∀ m ∈ ms, mOk m) (q : Q (.bl false) H) : rNeD (.ref a) (.ref b) H Q := by
  refine ⟨_, _, has_lst ha hx, has_lst hb hy, shaped_ms ok, shaped_ms ok, ?_⟩
  rw [eqv_ms ok]; exact q
inductive DM (H : Hp) : List (Key × V) → List (Str × Msg) → Prop
  | nil : DM H [] []
  | cons {t : Str} {v : V} {m : Msg} {r : List (Key × V)} {D : List (Str × Msg)} : Has H v (mD m) → DM H r D → DM H ((Sum.inr t, v) :: r) ((t, m) :: D)
theorem DM.same {H H' : Hp} (e : Same H H') : ∀ {kvs : List (Key × V)} {D : List (Str × Msg)}, DM H kvs D → DM H' kvs D
  | _, _, .nil => .nil
  | _, _, .cons h t => .cons (h.same e) (DM.same e t)
theorem DM.len {H : Hp} : ∀ {kvs : List (Key × V)} {D : List (Str × Msg)}, DM H kvs D → kvs.length = D.length
  | _, _, .nil => rfl
  | _, _, .cons _ t => by rw [List.length_cons, List.length_cons, DM.len t]
theorem DM.ms {H : Hp} : ∀ {kvs : List (Key × V)} {D : List (Str × Msg)}, DM H kvs D → Ms H (kvs.map (·.2)) (D.map (·.2))
  | _, _, .nil => Ms.nil
  | _, _, .cons h t => hasL_cons h (DM.ms t)
theorem DM.any {H : Hp} (t : Str) : ∀ {kvs : List (Key × V)} {D : List (Str × Msg)}, DM H kvs D → (kvs.any fun kv => decide (kv.1 = Sum.inr t)) = D.any fun p => decide (p.1 = t)
  | _, _, .nil => rfl
  | _, _, .cons (t := t') h r => by
    rw [List.any_cons, List.any_cons, DM.any t r]
    congr 1
    exact decide_eq_decide.mpr ⟨fun z => Sum.inr.inj z, fun z => congrArg Sum.inr z⟩
theorem DM.repl {H : Hp} (t : Str) {v : V} {m : Msg} (h : Has H v (mD m)) : ∀ {kvs : List (Key × V)} {D : List (Str × Msg)}, DM H kvs D → DM H (kvs.map fun kv => if kv.1 = Sum.inr t then (kv.1, v) else kv) (D.map fun p => if p.1 = t then (p.1, m) else p)
  | _, _, .nil => .nil
  | _, _, .cons (t := t') h' r => by
    rw [List.map_cons, List.map_cons]
    by_cases e : t' = t
    · rw [if_pos (by rw [e]), if_pos e]; exact .cons h (DM.repl t h r)
    · rw [if_neg (fun z => e (by injection z)), if_neg e]; exact .cons h' (DM.repl t h r)
theorem DM.snoc {H : Hp} (t : Str) {v : V} {m : Msg} (h : Has H v (mD m)) : ∀ {kvs : List (Key × V)} {D : List (Str × Msg)}, DM H kvs D → DM H (kvs ++ [(Sum.inr t, v)]) (D ++ [(t, m)])
  | _, _, .nil => .cons h .nil
  | _, _, .cons h' r => .cons h' (DM.snoc t h r)
theorem DM.put {H : Hp} (t : Str) {v : V} {m : Msg} (h : Has H v (mD m)) {kvs : List (Key × V)} {D : List (Str × Msg)} (d : DM H kvs D) : DM H (putK kvs (Sum.inr t) v) (putD D t m) := by
  unfold putK putD
  rw [d.any t]
  split
  · exact d.repl t h
  · exact d.snoc t h
theorem sorted_ms {H : Hp} {xs ys : List V} {ms : List Msg} (h : Ms H xs ms) (s : SortedBy (ms.map (·.n)) xs ys) (d : Diff ms) : ∃ ns, Ms H ys ns ∧ ns.Perm ms ∧ Rise ns := by
  obtain ⟨ps, h1, rfl, h3⟩ := s
  have key : ∀ p ∈ ps, ∃ m, m ∈ ms ∧ p.1 = m.n ∧ Has H p.2 (mD m) := by
    intro p hp
    have hz := h1.mem_iff.mp hp
    obtain ⟨i, hi⟩ := List.mem_iff_getElem?.mp hz
    rw [List.getElem?_zip_eq_some] at hi
    obtain ⟨e1, e2⟩ := hi
    rw [List.getElem?_map] at e1
    have hl : i < ms.length := by rw [← h.len]; exact (List.getElem?_eq_some_iff.mp e2).1
    obtain ⟨c, e3, hc⟩ := h.get hl
    rw [e2] at e3
    rw [List.getElem?_eq_getElem hl] at e1
    refine ⟨ms[i], List.getElem_mem hl, (Option.some.inj e1).symm, ?_⟩
    rw [Option.some.inj e3]
    exact msg_has hc
  have build : ∀ ps : List (Int × V), (∀ p ∈ ps, ∃ m, m ∈ ms ∧ p.1 = m.n ∧ Has H p.2 (mD m)) → ∃ ns : List Msg, Ms H (ps.map Prod.snd) ns ∧ ns.map (·.n) = ps.map Prod.fst ∧ ∀ m ∈ ns, m ∈ ms := by
    intro ps
    induction ps with
    | nil => intro _; exact ⟨[], Ms.nil, rfl, fun _ h => nomatch h⟩
    | cons p ps ih =>
      intro hk
      obtain ⟨ns, a1, a2, a3⟩ := ih fun q hq => hk q (List.mem_cons_of_mem _ hq)
      obtain ⟨m, b1, b2, b3⟩ := hk p List.mem_cons_self
      refine ⟨m :: ns, hasL_cons b3 a1, by rw [List.map_cons, List.map_cons, a2, b2], fun k hkm => ?_⟩
      rcases List.mem_cons.mp hkm with e | e
      · rw [e]; exact b1
      · exact a3 k e
  obtain ⟨ns, a1, a2, a3⟩ := build ps key
  have hperm : (ns.map (·.n)).Perm (ms.map (·.n)) := by
    rw [a2]
    have := h1.map Prod.fst
    rw [List.map_fst_zip (by rw [List.length_map, h.len]; exact Nat.le_refl _)] at this
    exact this
  have dn : Diff ns := hperm.nodup_iff.mpr d
  have rise : Rise ns := by
    have hle : (ns.map (·.n)).Pairwise (· ≤ ·) := by
      rw [a2, List.pairwise_map]; exact h3
    have hne : (ns.map (·.n)).Pairwise (· ≠ ·) := dn
    have := hle.and hne
    rw [List.pairwise_map] at this
    exact this.imp fun ⟨x, y⟩ => by omega
  refine ⟨ns, a1, ?_, rise⟩
  have nn : ns.Nodup := (List.pairwise_map.mp dn).imp fun hne e => hne (congrArg _ e)
  have nm : ms.Nodup := (List.pairwise_map.mp d).imp fun hne e => hne (congrArg _ e)
  refine (List.perm_ext_iff_of_nodup nn nm).mpr fun m => ⟨a3 m, fun hm => ?_⟩
  have : m.n ∈ ns.map (·.n) := hperm.mem_iff.mpr (List.mem_map.mpr ⟨m, hm, rfl⟩)
  obtain ⟨k, hk, e⟩ := List.mem_map.mp this
  rw [← Diff.eq d (a3 k hk) hm e]
  exact hk
end L2
namespace L2
open PySem PySem.Spec PyProof.Rows PySem.W
theorem Same.put {H H' : Hp} (e : Same H H') {p : Addr} {o : HO} (h : H p = none) : Same H (upd H' p o) := fun b u hb => by
  rw [upd_ne (fun z => by rw [z, h] at hb; cases hb)]; exact e b u hb
theorem flt_succ {α : Type} {ms : List α} {i : Nat} (hi : i < ms.length) {b : α → Bool} : (ms.take (i + 1)).filter b = (ms.take i).filter b ++ if b ms[i] = true then [ms[i]] else [] := by
  rw [List.take_add_one, List.getElem?_eq_getElem hi, List.filter_append]
  show _ ++ List.filter b [ms[i]] = _
  rw [List.filter_cons]; rfl
theorem newest_diff {ms : List Msg} (h : Rise ms) : Diff ((newest ms).map (·.2)) := by
  unfold Diff List.Nodup
  rw [List.map_map, List.pairwise_map]
  have hn := newest_nd ms
  unfold List.Nodup at hn
  rw [List.pairwise_map] at hn
  refine (List.Pairwise.and_mem.mp hn).imp fun {a b} ⟨ha, hb, hne⟩ e => hne ?_
  obtain ⟨e1, t1⟩ := (mem_newest ms h a).mp ha
  obtain ⟨e2, t2⟩ := (mem_newest ms h b).mp hb
  rw [e1, e2, Diff.eq h.diff t1.1 t2.1 e]
theorem mem_newest_snd {ms : List Msg} (h : Rise ms) {m : Msg} : m ∈ (newest ms).map (·.2) ↔ Top ms m := by
  rw [List.mem_map]
  constructor
  · rintro ⟨p, hp, rfl⟩; exact ((mem_newest ms h p).mp hp).2
  · intro ht; exact ⟨(m.t, m), (mem_newest ms h _).mpr ⟨rfl, ht⟩, rfl⟩
def ofT : Option (List Str) → List Msg → List Msg
  | none, ms => ms
  | some l, ms => ms.filter fun m => decide (m.t ∈ l)
def spLast : Sp := fun vs H Q _ => ∃ a xs ms, vs = [.ref a] ∧ H a = some (.lst xs) ∧ Ms H xs ms ∧ ms.length < 64 ∧ Diff ms ∧
  ∀ p ys ls H', Same H H' → H p = none → H' p = some (.lst ys) → Ms H' ys ls → Lasts ms ls → Q (.ref p) H'
def spState : Sp := fun vs H Q _ => ∃ a xs ms, vs = [.ref a] ∧ H a = some (.lst xs) ∧ Ms H xs ms ∧ ms.length < 64 ∧ Diff ms ∧
  ∀ p ls H', Same H H' → H p = none → H' p = some (.dK (dS (stOf ls))) → Lasts ms ls → Q (.ref p) H'
mutual
def noLst : PyData → Bool
  | .list _ => false
  | .dict _ => false
  | .tuple ds => noLstA ds
  | _ => true
def noLstA : List PyData → Bool
  | [] => true
  | d :: ds => noLst d && noLstA ds
end
mutual
theorem Has.updL {H : Hp} {g : Addr} {zs : List V} {o : HO} (hg : H g = some (.lst zs)) : ∀ {v : V} {d : PyData}, noLst d = true → Has H v d → Has (upd H g o) v d
  | v, .none, _, h => by unfold Has at h ⊢; exact h
  | v, .bool b, _, h => by unfold Has at h ⊢; exact h
  | v, .int i, _, h => by unfold Has at h ⊢; exact h
  | v, .str x, _, h => by unfold Has at h ⊢; exact h
  | v, .list ds, n, h => by unfold noLst at n; cases n
  | v, .tuple ds, n, h => by
    unfold noLst at n
    unfold Has at h ⊢
    obtain ⟨a, xs, h1, h2, h3⟩ := h
    refine ⟨a, xs, h1, ?_, HasL.updL hg n h3⟩
    rw [upd_ne (fun e => by rw [e, hg] at h2; cases h2)]; exact h2
  | v, .dict kvs, n, h => by unfold noLst at n; cases n
theorem HasL.updL {H : Hp} {g : Addr} {zs : List V} {o : HO} (hg : H g = some (.lst zs)) : ∀ {xs : List V} {ds : List PyData}, noLstA ds = true → HasL H xs ds → HasL (upd H g o) xs ds
  | xs, [], _, h => by unfold HasL at h ⊢; exact h
  | xs, d :: ds, n, h => by
    unfold noLstA at n
    rw [Bool.and_eq_true] at n
    unfold HasL at h ⊢
    obtain ⟨x, r, h1, h2, h3⟩ := h
    exact ⟨x, r, h1, Has.updL hg n.1 h2, HasL.updL hg n.2 h3⟩
end
theorem noLst_ms : ∀ ms : List Msg, noLstA (ms.map mD) = true
  | [] => by simp [noLstA]
  | m :: r => by simp [noLstA, noLst, mD, noLst_ms r]
theorem Ms.updL {H : Hp} {g : Addr} {zs : List V} {o : HO} {xs : List V} {ms : List Msg} (hg : H g = some (.lst zs)) (h : Ms H xs ms) : Ms (upd H g o) xs ms := HasL.updL hg (noLst_ms ms) h
end L2
namespace L2
open PySem PySem.Spec PyProof.Rows PySem.W
def Rows (ms : List Msg) : Prop := ∀ i (h : i < ms.length), ms[i].n = (i : Int) + 1
theorem Rows.nil : Rows [] := fun i h => absurd h (by simp)
theorem Rows.snoc {ms : List Msg} {m : Msg} (h : Rows ms) (e : m.n = (ms.length : Int) + 1) : Rows (ms ++ [m]) := by
  intro i hi
  rw [List.length_append, List.length_singleton] at hi
  by_cases hl : i < ms.length
  · rw [List.getElem_append_left hl]; exact h i hl
  · have e' : i = ms.length := by omega
    subst e'
    rw [List.getElem_append_right (Nat.le_refl _)]
    simpa using e
theorem Rows.rise {ms : List Msg} (h : Rows ms) : Rise ms := by
  refine List.pairwise_iff_getElem.mpr fun i j hi hj hij => ?_
  rw [h i hi, h j hj]; omega
mutual
theorem Has.updD {H : Hp} {g : Addr} {zs : List (Key × V)} {o : HO} (hg : H g = some (.dK zs)) : ∀ {v : V} {d : PyData}, noLst d = true → Has H v d → Has (upd H g o) v d
  | v, .none, _, h => by unfold Has at h ⊢; exact h
  | v, .bool b, _, h => by unfold Has at h ⊢; exact h
  | v, .int i, _, h => by unfold Has at h ⊢; exact h
  | v, .str x, _, h => by unfold Has at h ⊢; exact h
  | v, .list ds, n, h => by unfold noLst at n; cases n
  | v, .tuple ds, n, h => by
    unfold noLst at n
    unfold Has at h ⊢
    obtain ⟨a, xs, h1, h2, h3⟩ := h
    refine ⟨a, xs, h1, ?_, HasL.updD hg n h3⟩
    rw [upd_ne (fun e => by rw [e, hg] at h2; cases h2)]; exact h2
  | v, .dict kvs, n, h => by unfold noLst at n; cases n
theorem HasL.updD {H : Hp} {g : Addr} {zs : List (Key × V)} {o : HO} (hg : H g = some (.dK zs)) : ∀ {xs : List V} {ds : List PyData}, noLstA ds = true → HasL H xs ds → HasL (upd H g o) xs ds
  | xs, [], _, h => by unfold HasL at h ⊢; exact h
  | xs, d :: ds, n, h => by
    unfold noLstA at n
    rw [Bool.and_eq_true] at n
    unfold HasL at h ⊢
    obtain ⟨x, r, h1, h2, h3⟩ := h
    exact ⟨x, r, h1, Has.updD hg n.1 h2, HasL.updD hg n.2 h3⟩
end
theorem Ms.updD {H : Hp} {g : Addr} {zs : List (Key × V)} {o : HO} {xs : List V} {ms : List Msg} (hg : H g = some (.dK zs)) (h : Ms H xs ms) : Ms (upd H g o) xs ms := HasL.updD hg (noLst_ms ms) h
end L2
namespace L2
open PySem PySem.Spec PyProof.Rows PySem.W
structure CalleeM (P : Program) (w : World) (K : PySem.W.Frag) (mg : Str → Option Value) (base : Heap) (k : Nat) (C : Addr) (m : Str) (ps : List Str) (sp : Sp) : Prop where
  ex : ∃ f fd, FnOk P w K mg base CX0 k f fd ps sp ∧ Meth K C m f ∧ Binds K fd ps []
structure CalleeI (P : Program) (w : World) (K : PySem.W.Frag) (mg : Str → Option Value) (base : Heap) (k : Nat) (C : Addr) (ps : List Str) (sp : Sp) : Prop where
  ex : ∃ f fd, FnOk P w K mg base CX0 k f fd ps sp ∧ Mk K C f ∧ Binds K fd ps []
section
variable {X : Cx} {k : Nat} {C : Addr} {m x : Str} {ps : List Str} {sp : Sp} {o e : Expr} {es : List Expr} {ta tv : TE} {t : TA} {p apos pos pos' : Pos}
theorem as_meth {pl : Sem Bool} (M : CalleeM X.prog X.w X.K X.mg X.base k C m ps sp) (c : Cls X.K C) (hr : Room k X.A) (he : PE X o ta) (ha : PAt X e es t)
    (ht : eval (.Call (.Attribute o m apos) (e :: es) [] pos) X.env = (do
      let ov ← eval o X.env
      standAt apos.atName
      let (f, first) ← holding [ov] (getMethod ov m pl)
      callWith pos f first (backTo pos (starEach (e :: es) X.env)) (backToKw pos (keywordEach [] X.env))) := by rfl) :
    PE X (.Call (.Attribute o m apos) (e :: es) [] pos) (tMeth C m sp [] E0 ta t) := by
  obtain ⟨f, fd, F, hm, hb⟩ := M.ex
  exact pe_meth (pl := pl) he c hm F hr hb .nil pass0 ha.all.pa (ha.all.he ha.tl) (by rw [ha.tl]; exact back_any _ _ _) ht
theorem as_meth0 {pl : Sem Bool} (M : CalleeM X.prog X.w X.K X.mg X.base k C m ps sp) (c : Cls X.K C) (hr : Room k X.A) (he : PE X o ta)
    (ht : eval (.Call (.Attribute o m apos) [] [] pos) X.env = (do
      let ov ← eval o X.env
      standAt apos.atName
      let (f, first) ← holding [ov] (getMethod ov m pl)
      callWith pos f first (backTo pos (starEach [] X.env)) (backToKw pos (keywordEach [] X.env))) := by rfl) :
    PE X (.Call (.Attribute o m apos) [] [] pos) (tMeth C m sp [] E0 ta tNil) := by
  obtain ⟨f, fd, F, hm, hb⟩ := M.ex
  exact pe_meth0 (pl := pl) he c hm F hr hb .nil pass0 ht
theorem as_make0 (M : CalleeI X.prog X.w X.K X.mg X.base k C ps sp) (hr : Room (k + 1) X.A) (hm : X.mg x = some (.ref C)) (hg : Gl X x := by rfl) (hdb : (x == ("__debug__" : Str)) = false := by decide) :
    PE X (.Call (.Name x p) [] [] pos) (tMake C sp [] E0 tNil) := by
  obtain ⟨f, fd, F, hM, hb⟩ := M.ex
  exact pe_make0 hM F hr hg hm hb .nil pass0 hdb
theorem k_sfld (K : PySem.W.Frag) {value : Expr} {f : Str} (ha : PE X o ta) (hv : PE X value tv) (hs : swapsWith value (some (.Attribute o f pos')) pos.line X.env = pure false) (h : X.K = K := by rfl) : PS X (.Assign [.Attribute o f pos'] value pos) (sFld K ta tv f) := h ▸ ps_fld ha hv hs
end
theorem lk_hit {f : Str} {v : V} {r : List (Str × V)} : List.lookup f ((f, v) :: r) = some v := by simp [List.lookup]
theorem lk_miss {f g : Str} {v : V} {r : List (Str × V)} (h : ¬ f = g) : List.lookup f ((g, v) :: r) = List.lookup f r := by
  have hb : (f == g) = false := beq_eq_false_iff_ne.mpr h
  simp [List.lookup, hb]
theorem pf_hit {f : Str} {v x : V} {r : List (Str × V)} : putF f v ((f, x) :: r) = (f, v) :: r := by
  show (if f = f then _ else _) = _
  rw [if_pos rfl]
theorem pf_miss {f g : Str} {v x : V} {r : List (Str × V)} (h : ¬ g = f) : putF f v ((g, x) :: r) = (g, x) :: putF f v r := by
  show (if g = f then _ else _) = _
  rw [if_neg h]
def Tups (H H' : Hp) : Prop := ∀ c xs, H c = some (.tup xs) → H' c = some (.tup xs)
theorem Same.tups {H H' : Hp} (e : Same H H') : Tups H H' := fun c xs h => e _ _ h
theorem Tups.refl (H : Hp) : Tups H H := fun _ _ h => h
theorem Tups.trans {H H' H'' : Hp} (a : Tups H H') (b : Tups H' H'') : Tups H H'' := fun c xs h => b _ _ (a _ _ h)
theorem Tups.put {H H' : Hp} (a : Tups H H') {g : Addr} {u o : HO} (h : H' g = some u) (hn : ∀ xs, u ≠ .tup xs) : Tups H (upd H' g o) := fun c xs hc => by
  have h1 := a _ _ hc
  rw [upd_ne (fun e => by rw [e, h] at h1; exact hn xs (Option.some.inj h1))]; exact h1
theorem Tups.new {H H' : Hp} (a : Tups H H') {g : Addr} {o : HO} (h : H' g = none) : Tups H (upd H' g o) := fun c xs hc => by
  have h1 := a _ _ hc
  rw [upd_ne (ne_of_none h1 h)]; exact h1
mutual
theorem Has.tups {H H' : Hp} (e : Tups H H') : ∀ {v : V} {d : PyData}, noLst d = true → Has H v d → Has H' v d
  | v, .none, _, h => by unfold Has at h ⊢; exact h
  | v, .bool b, _, h => by unfold Has at h ⊢; exact h
  | v, .int i, _, h => by unfold Has at h ⊢; exact h
  | v, .str x, _, h => by unfold Has at h ⊢; exact h
  | v, .list ds, n, h => by unfold noLst at n; cases n
  | v, .tuple ds, n, h => by
    unfold noLst at n
    unfold Has at h ⊢
    obtain ⟨a, xs, h1, h2, h3⟩ := h
    exact ⟨a, xs, h1, e _ _ h2, HasL.tups e n h3⟩
  | v, .dict kvs, n, h => by unfold noLst at n; cases n
theorem HasL.tups {H H' : Hp} (e : Tups H H') : ∀ {xs : List V} {ds : List PyData}, noLstA ds = true → HasL H xs ds → HasL H' xs ds
  | xs, [], _, h => by unfold HasL at h ⊢; exact h
  | xs, d :: ds, n, h => by
    unfold noLstA at n
    rw [Bool.and_eq_true] at n
    unfold HasL at h ⊢
    obtain ⟨x, r, h1, h2, h3⟩ := h
    exact ⟨x, r, h1, Has.tups e n.1 h2, HasL.tups e n.2 h3⟩
end
theorem Ms.tups {H H' : Hp} {xs : List V} {ms : List Msg} (h : Ms H xs ms) (e : Tups H H') : Ms H' xs ms := HasL.tups e (noLst_ms ms) h
theorem noLst_m (m : Msg) : noLst (mD m) = true := by simp [noLst, noLstA, mD]
theorem DM.tups {H H' : Hp} (e : Tups H H') : ∀ {kvs : List (Key × V)} {D : List (Str × Msg)}, DM H kvs D → DM H' kvs D
  | _, _, .nil => .nil
  | _, _, .cons h t => .cons (h.tups e (noLst_m _)) (DM.tups e t)
def But (ps : List Addr) (H H' : Hp) : Prop := ∀ c o, H c = some o → c ∉ ps → H' c = some o
theorem putF_len (f : Str) (v : V) : ∀ fs : List (Str × V), (putF f v fs).length ≤ fs.length + 1
  | [] => Nat.le_refl _
  | (g, x) :: r => by
    show (if g = f then (g, v) :: r else (g, x) :: putF f v r).length ≤ _
    have := putF_len f v r
    split
    · simp
    · simp only [List.length_cons]; omega
theorem But.same {ps : List Addr} {H0 H H' : Hp} (e : Same H0 H) (b : But ps H H') (hn : ∀ p ∈ ps, H0 p = none) : Same H0 H' := fun c o h => b c o (e _ _ h) fun hc => by rw [hn c hc] at h; cases h
end L2
namespace L2
open PySem PySem.Spec PyProof.Rows PySem.W
structure Fly (P : Program) (w : World) (outer : List Env) (H H' : Hp) (h : Heap) (a : Addr) (cls : Value) (h' : Heap) : Prop where
  ex : ∃ (B : Heap) (a0 : Value) (hr : Heap) (Ls : List Addr), Heap.FlyingW B outer a cls a0 h' ∧ Un (frs outer) [] H H' h hr ∧ HOk P w H' hr ∧ (∀ b o, hr.get? b = some o → b ∉ frs outer → b ∉ Ls → B.get? b = some o) ∧ (∀ L ∈ Ls, h.get? L = none ∧ H' L = none) ∧ hr.UpToSlots h' ∧ hr.get? a = none
def CXF (P : Program) (w : World) : CXT := fun outer H s E e s' => ∃ a cls H', e = .ref a ∧ s'.os = s.os ∧ AllBare s'.gens ∧ Fly P w outer H H' s.heap a cls s'.heap ∧ H' a = none ∧ E cls none H'
theorem obj_at {P : Program} {w : World} {H : Hp} {h : Heap} {a : Addr} {o : HO} (x : ObjOk P w H h a o) : ∃ ob, h.get? a = some ob := by
  cases o with
  | lst xs => obtain ⟨_, _, _, _, e⟩ := x; exact ⟨_, e⟩
  | tup xs => obtain ⟨_, _, _, ob, e, _⟩ := x; exact ⟨_, e⟩
  | dK kvs => obtain ⟨_, _, _, _, o, _, _, e, _⟩ := x; exact ⟨_, e⟩
  | dT kvs => obtain ⟨_, _, _, _, o, _, _, e, _⟩ := x; exact ⟨_, e⟩
  | set S n => obtain ⟨o, _, _, _, e, _⟩ := x; exact ⟨_, e⟩
  | ins C dx fs => obtain ⟨_, _, _, e, _⟩ := x; exact ⟨_, e⟩
  | own y => obtain ⟨_, e⟩ := x; exact ⟨_, e⟩
  | xd fs => obtain ⟨_, ⟨_, _, _, e, _⟩, _⟩ := x; exact ⟨_, e⟩
  | rng lo hi => obtain ⟨_, _, _, e⟩ := x; exact ⟨_, e⟩
  | frz ob u => obtain ⟨e, _⟩ := x; exact ⟨_, e⟩
  | tbl ps => exact ⟨_, show h.get? a = some _ from x⟩
  | met f y => exact ⟨_, show h.get? a = some _ from x⟩
  | ext φ => obtain ⟨_, ⟨_, e⟩, _⟩ := x; exact ⟨_, e⟩
structure Exc (K : PySem.W.Frag) (mg : Str → Option Value) (x : Str) (C : Addr) : Prop where
  at_ : mg x = some (.ref C)
  exc : PySem.W.excIn K C [.type "ValueError", .type "Exception", .type "BaseException", .type "object"] "ValueError.__new__" = true
theorem exc_own {K : PySem.W.Frag} {mg : Str → Option Value} {x : Str} {C : Addr} {h : Heap} {bmB : List Value} {newId : String} (X : K.In h) (e : mg x = some (.ref C)) (q : PySem.W.excIn K C bmB newId = true) : OwnCls x C bmB newId mg h := by
  refine ⟨e, ?_⟩
  unfold PySem.W.excIn at q
  split at q
  · rename_i dd cd sl ho
    split at q
    · rename_i C' bm k0 k1 k2 k3 n k5 hm hs
      simp only [Bool.and_eq_true, beq_iff_eq, Bool.not_eq_true'] at q
      obtain ⟨⟨⟨⟨⟨rfl, rfl⟩, hdel⟩, ht⟩, hok⟩, hni⟩ := q
      obtain ⟨nm, bs, mro, ns, qn, hd, sn, sub, ab, col, del⟩ := cd
      dsimp only at hm hdel hok hni
      subst hm hdel
      have hsl : sl = #[k0, k1, k2, k3, some (.builtin n), k5] := by
        obtain ⟨l⟩ := sl
        simp only at hs
        rw [hs]
      subst hsl
      exact ⟨bm, ns, nm, qn, bs, hd, sn, sub, ab, col, dd, k0, k1, k2, k3, k5, _, X _ _ ho, .of_isNs (PySem.W.isNs_of_in X hok), PySem.W.nsMap_none_of_in X hok hni, PySem.W.tail_of_in X ht⟩
    · cases q
  · cases q
def tRaise (C : Addr) (E : XK) (t : TA) : TS := fun _ σ H => t σ H fun vs H1 => vs.length ≤ sizeLine ∧ E (.ref C) none H1
section
variable {P : Program} {w : World} {K : PySem.W.Frag} {mg : Str → Option Value} {base : Heap} {N : List Str} {qual : Str} {scope : Scope} {f : Addr} {cd : Value} {A : Around} {outer : List Env} {s : Shared} {H : Hp} {E : XK}
theorem ps_raise {x : Str} {C : Addr} {np cpos pos : Pos} {e : Expr} {es : List Expr} {t : TA} (Z : Exc K mg x C) (ha : PAt (cxOf (CXF P w) P w K mg base N qual scope f cd A outer s H E) e es t)
    (hg : Gl (cxOf (CXF P w) P w K mg base N qual scope f cd A outer s H E) x := by rfl) (hd : (x == ("__debug__" : Str)) = false := by decide) :
    PS (cxOf (CXF P w) P w K mg base N qual scope f cd A outer s H E) (.Raise (some (.Call (.Name x np) (e :: es) [] cpos)) none pos) (tRaise C E t) := by
  intro pins s1 σ H1 D I h
  have X1 := I.kIn
  obtain ⟨tl, M, nm, q, bs, hdct, sn, sub, ab, col, dd, k0, k1, k2, k3, k5, mN, hC, hN, hni, T⟩ := (exc_own (h := (cxOf (CXF P w) P w K mg base N qual scope f cd A outer s H E).base) I.ok.mod.kin Z.at_ Z.exc).obj
  refine wpAny_Raise_call_subT (C := C) (nm := nm) (q := q) (N := M) (bs := bs) (bm := tl) (hdct := hdct) (sn := sn) (sub := sub) (ab := ab) (col := col) (dd := dd) (k0 := k0) (k1 := k1) (k2 := k2) (k3 := k3) (k5 := k5)
    PySem.F.excBase_ValueError (mN := mN) (T.hasType PySem.F.excBase_ValueError.hasBase) (I.ok.hd rfl) (by rw [ha.all.st]; exact back_any _ _ _) hni (ld_glob I hg Z.at_ ⟨rfl, ?_⟩ hd)
  have he := ha.all.he ha.tl
  have hsp := ha.all.pa cpos pins s1 σ H1 _ I h
  rw [he] at hsp ⊢
  refine Calls.evalArgs_plain (wpAny_mono hsp (fun us s2 h2 => ?_) fun _ _ y => y)
  obtain ⟨vs, H2, I2, rv, hlen, hE⟩ := h2
  refine ⟨rfl, by rw [← rv.length]; exact hlen, I2.bk _ _ hC, hN.keeps I2.bk, T.keeps I2.bk, fun h' ea hx => ?_⟩
  have fr := I2.stack
  have hin : ∀ env ∈ (cxOf (CXF P w) P w K mg base N qual scope f cd A outer s H E).stack, ∀ b, env.frame = some b → b ∈ frs (cxOf (CXF P w) P w K mg base N qual scope f cd A outer s H E).stack := fun env he b hb => List.mem_filterMap.mpr ⟨env, he, hb⟩
  refine wpAny_leaves_madeW (base := hideAll s2.heap (frs (cxOf (CXF P w) P w K mg base N qual scope f cd A outer s H E).stack)) (h := s2.heap) I2.ok.frames rfl (fun b o q => of_hideAll _ q) (funFrames_hide fr hin) hx fun h2 tt fl _ _ sm => ?_
  refine ⟨ea, .ref C, H2, rfl, I2.os, I2.bare, ⟨_, _, s2.heap, [s.heap.objs.size], fl, I2.base, I2.hok, fun b o ho hb hL => hideAll_get _ ho fun hm => ?_, fun L z => by rw [List.mem_singleton.mp z]; exact ⟨Heap.get?_none_of_le (Nat.le_refl _), I2.free⟩, (Heap.UpToSlots.of_keeps hx.keeps).trans sm, hx.new⟩, ?_, hE⟩
  · have hm' : b ∈ s.heap.objs.size :: frs outer := hm
    rcases List.mem_cons.mp hm' with z | z
    · exact hL (List.mem_singleton.mpr z)
    · exact hb z
  · cases q : H2 ea with
    | none => rfl
    | some u =>
      obtain ⟨o, ho⟩ := obj_at (I2.hok ea u q)
      have hn := hx.new
      rw [ho] at hn; cases hn
end
end L2
namespace L2
open PySem PySem.Spec PyProof.Rows PySem.W
section
variable {P : Program} {w : World} {K : PySem.W.Frag} {mg : Str → Option Value} {base : Heap}
theorem Fun.okX {x qual : Str} {st : Stmt} {f : Addr} {fd : FuncData} {N ps : List Str} {k : Nat} {sp : Sp} (F : Fun K x qual st f fd) (S : FnScope N ps (defScope st)) (len : ∀ vs H Q E, sp vs H Q E → vs.length = ps.length)
    (hbody : ∀ (cdv : Value) (A : Around) (outer : List Env) (s : Shared) (H : Hp) (vs : List V) (Q : VK) (E : XK), Room k (A.deeper (envOfC qual (defScope st) s.heap.objs.size f cdv)) → sp vs H Q E →
      ∃ t, PSs (cxOf (CXF P w) P w K mg base N qual (defScope st) f cdv A outer s H E) (defBody st) t ∧ t { nx := fun _ H' => Q .non H', rt := Q } (start N vs) H) : FnOk P w K mg base (CXF P w) (k + 1) f fd ps sp := by
  obtain ⟨oc, od, kV, doc, pm, an, cdv, ct, osl, rfl, lk, hcd⟩ := F.ex
  exact fn_of lk hcd S len fun A outer s H vs Q E hr hsp => hbody cdv A outer s H vs Q E hr hsp
end
theorem pass_on {P : Program} {w : World} {K : PySem.W.Frag} {mg : Str → Option Value} {base : Heap} {N : List Str} {qual : Str} {scope : Scope} {f : Addr} {cd : Value} {A : Around} {outer : List Env} {s : Shared} {H : Hp} {E : XK} :
    Passes (CXF P w) (cxOf (CXF P w) P w K mg base N qual scope f cd A outer s H E) E := by
  intro pins σ H1 s1 e s2 I h
  obtain ⟨a, cls, H2, rfl, os, bare, ⟨B, a0, hr, Ls, fl, un, hok, cov, hL, sm, han⟩, ha, hE⟩ := h
  have hfH : ∀ b ∈ frs (cxOf (CXF P w) P w K mg base N qual scope f cd A outer s H E).stack, H2 b = none := fun b hb => by
    obtain ⟨_, o, ho, _⟩ := I.stack.mem hb
    exact un.free b o ho (I.stkFree b hb) (by simp)
  have I2 := I.call (ch := []) (g' := s2.gens) (d' := s2.drawn) (t' := s2.toks) un hok bare (fun b z => absurd z (by simp))
  have fl' : Heap.FlyingW B (envOfC qual scope s.heap.objs.size f cd :: outer) a cls a0 s2.heap := fl
  refine wpAny_leaves_onW (env := envOfC qual scope s.heap.objs.size f cd) (outer := outer) I.ok.frames rfl fl' fun h' fl2 sm2 => ?_
  refine ⟨a, cls, H2, rfl, os.trans I.os, bare, ⟨B, a0, hr, s.heap.objs.size :: Ls, fl2, I2.base, hok, fun b o ho hb hL2 => ?_, fun L z => ?_, sm.trans sm2, han⟩, ha, hE⟩
  · refine cov b o ho (fun hm => ?_) fun z => hL2 (List.mem_cons_of_mem _ z)
    have hm' : b ∈ s.heap.objs.size :: frs outer := hm
    rcases List.mem_cons.mp hm' with z | z
    · exact hL2 (by rw [z]; exact List.mem_cons_self)
    · exact hb z
  · rcases List.mem_cons.mp z with z | z
    · rw [z]; exact ⟨Heap.get?_none_of_le (Nat.le_refl _), I2.free⟩
    · refine ⟨?_, (hL L z).2⟩
      cases q : s.heap.get? L with
      | none => rfl
      | some o =>
        obtain ⟨o', e'⟩ := I.base.there L o q (fun y => by cases (show L ∈ ([] : List Addr) from y))
        rw [(hL L z).1] at e'; cases e'
abbrev Cx.held (X : Cx) (e : Value) : Cx := { X with A := X.A.mark (some e), calm := false, xe := fun _ _ => False }
section
variable {X : Cx} {pins : List (Addr × Obj)} {σ : St} {H H' : Hp} {s : Shared} {xe : Value → Shared → Prop} {e : Value}
theorem Inv.held (I : Inv X pins σ H s) : Inv (X.held e) pins σ H s :=
  ⟨⟨I.ok.mod, I.ok.kind, I.ok.glob, I.ok.blt, I.ok.above, I.ok.inj, I.ok.has, I.ok.cab, (fun z => by cases z), I.ok.frames, I.ok.stk, I.ok.exf, I.ok.bs, I.ok.bsz, I.ok.noex, I.ok.exfs, I.ok.funs, I.ok.frf⟩, I.os, I.bare, I.base, I.loc, I.cell, I.free, I.freeC, I.pin, I.hok, I.len⟩
end
end L2
namespace L2
open PySem PySem.Spec PyProof.Rows PySem.W
open Classical in
noncomputable def eqR (h : Heap) (d : PyData) (v : Value) : Bool := decide (∃ d' as, Reads h v d' as ∧ d'.canLay0 = true ∧ PyData.eqv d' d = true)
open Classical in
theorem eqR_of {h : Heap} {d d' : PyData} {v : Value} {as : List Addr} (r : Reads h v d' as) (c : d'.canLay0 = true) : eqR h d v = PyData.eqv d' d := by
  unfold eqR
  cases q : PyData.eqv d' d with
  | true => exact decide_eq_true ⟨d', as, r, c, q⟩
  | false =>
    refine decide_eq_false fun ⟨d2, as2, r2, c2, q2⟩ => ?_
    have e : d2 = d' := SeqAt.Reads.unique d2 d' v as2 as c2 r2 r
    rw [e, q] at q2; cases q2
def rInD (neg : Bool) : R2 := fun x y H Q => ∃ l xs d ds, y = .ref l ∧ H l = some (.lst xs) ∧ HasL H xs ds ∧ Has H x d ∧ SeqAt.shaped d = true ∧ (∀ e ∈ ds, SeqAt.shaped e = true) ∧ Q (.bl (if neg then !(ds.any fun e => PyData.eqv e d) else ds.any fun e => PyData.eqv e d)) H
theorem lay_of {d : PyData} (h : SeqAt.shaped d = true) : d.canLay0 = true := by
  unfold SeqAt.shaped at h
  exact (Bool.and_eq_true_iff.mp h).1
section
variable {X : Cx} {pins : List (Addr × Obj)} {σ : St} {H : Hp} {s : Shared}
theorem any_eqR (I : Inv X pins σ H s) {d : PyData} : ∀ {xs : List V} {ds : List PyData} {us : List Value}, HasL H xs ds → Vals xs us → (∀ e ∈ ds, SeqAt.shaped e = true) → us.any (eqR s.heap d) = ds.any fun e => PyData.eqv e d
  | xs, [], us, h, r, _ => by
    unfold HasL at h
    subst h
    cases Vals.zero r
    rfl
  | xs, e :: ds, us, h, r, c => by
    unfold HasL at h
    obtain ⟨x, rr, rfl, h2, h3⟩ := h
    cases r with
    | cons r1 r2 =>
      obtain ⟨as, a1⟩ := has_reads I h2 r1
      rw [List.any_cons, List.any_cons, any_eqR I h3 r2 (fun f hf => c f (List.mem_cons_of_mem _ hf)), eqR_of a1 (lay_of (c e List.mem_cons_self))]
theorem mem_eqR (I : Inv X pins σ H s) {A : Around} {d : PyData} {x : V} {v : Value} (hx : Has H x d) (rx : RelV x v) (sd : SeqAt.shaped d = true) (hu : A.units + 64 < cLine) : ∀ {xs : List V} {ds : List PyData} {us : List Value}, HasL H xs ds → Vals xs us → (∀ e ∈ ds, SeqAt.shaped e = true) →
    ∀ u ∈ us, SeqAt.EqAt A s u v (eqR s.heap d u)
  | xs, [], us, h, r, _ => by
    unfold HasL at h
    subst h
    cases Vals.zero r
    exact fun u hu => nomatch hu
  | xs, e :: ds, us, h, r, c => by
    unfold HasL at h
    obtain ⟨y, rr, rfl, h2, h3⟩ := h
    cases r with
    | cons r1 r2 =>
      intro u hm
      rcases List.mem_cons.mp hm with z | z
      · rw [z]
        obtain ⟨as, a1⟩ := has_reads I h2 r1
        obtain ⟨bs, a2⟩ := has_reads I hx rx
        rw [eqR_of a1 (lay_of (c e List.mem_cons_self))]
        exact SeqAt.eqAt_reads e d A s _ _ as bs a1 a2 (SeqAt.canLay_of_shaped (c e List.mem_cons_self)) (SeqAt.canLay_of_shaped sd) (SeqAt.room_of_shaped (c e List.mem_cons_self) hu)
      · exact mem_eqR I hx rx sd hu h3 r2 (fun f hf => c f (List.mem_cons_of_mem _ hf)) u z
theorem op_notInD (hu : X.A.in1.units + 64 < cLine) : OpR X (compareOp .NotIn) (rInD true) := by
  rintro pins s σ H x y v u Q I rx ry ⟨l, xs, d, ds, rfl, hl, hx, hd, sd, ss, q⟩
  cases ry
  obtain ⟨its, r, pl, hz⟩ := I.list (SqL.ofL hl)
  refine SeqAt.notIn_listAt (eqR s.heap d) pl.isList (fun w hw => mem_eqR I hd rx sd hu hx r ss w (by simpa using hw)) ⟨.bl _, H, I, rfl, ?_⟩
  rw [show its.toArray.any (eqR s.heap d) = its.any (eqR s.heap d) by simp, any_eqR I hx r ss]
  exact q
end
theorem Room.in1u {k : Nat} {A : Around} (r : Room k A) : A.in1.units + 64 < cLine := by have := r.un; show A.units + 1 + 64 < _; omega
theorem eqv_m (a b : Msg) : PyData.eqv (mD a) (mD b) = decide (a = b) := by
  have e : PyData.eqv (mD a) (mD b) = ((a.n == b.n) && ((a.t == b.t) && ((a.x == b.x) && true))) := rfl
  rw [e]
  by_cases h1 : a.n = b.n <;> by_cases h2 : a.t = b.t <;> by_cases h3 : a.x = b.x
  all_goals
    first
    | (have z : a = b := by (cases a; cases b; simp_all)
       rw [decide_eq_true z]; simp [h1, h2, h3])
    | (have z : ¬ a = b := fun w => by (subst w; simp_all)
       rw [decide_eq_false z]; simp [h1, h2, h3])
theorem any_m (ms : List Msg) (m : Msg) : (ms.map mD).any (fun e => PyData.eqv e (mD m)) = decide (m ∈ ms) := by
  have key : (ms.map mD).any (fun e => PyData.eqv e (mD m)) = ms.any fun a => decide (a = m) := by
    rw [List.any_map]
    congr 1
    funext a
    exact eqv_m a m
  rw [key]
  by_cases h : m ∈ ms
  · rw [decide_eq_true h]
    exact List.any_eq_true.mpr ⟨m, h, decide_eq_true rfl⟩
  · rw [decide_eq_false h]
    refine List.any_eq_false.mpr fun a ha z => h ?_
    rw [← of_decide_eq_true z]; exact ha
theorem shaped_m {m : Msg} (h : mOk m) : SeqAt.shaped (mD m) = true := by
  obtain ⟨h1, h2⟩ := h
  have d : PyData.depth (mD m) ≤ 64 := by simp [mD, PyData.depth, PyData.depthAll]
  show (PyData.canLay0 (mD m) && decide (PyData.depth (mD m) ≤ 64)) = true
  rw [Bool.and_eq_true]
  exact ⟨by simp [mD, PyData.canLay0, PyData.canLayAll0, h1, h2], decide_eq_true d⟩
theorem in_ms {neg : Bool} {H : Hp} {x : V} {l : Addr} {xs : List V} {ms : List Msg} {m : Msg} {Q : VK} (hl : H l = some (.lst xs)) (hx : Ms H xs ms) (hm : Has H x (mD m)) (ok : ∀ k ∈ ms, mOk k) (okm : mOk m) (q : Q (.bl (if neg then !decide (m ∈ ms) else decide (m ∈ ms))) H) : rInD neg x (.ref l) H Q := by
  refine ⟨l, xs, mD m, ms.map mD, rfl, hl, hx, hm, shaped_m okm, fun e he => ?_, ?_⟩
  · obtain ⟨k, hk, rfl⟩ := List.mem_map.mp he
    exact shaped_m (ok k hk)
  · rw [any_m]; exact q
end L2
namespace L2
open PySem PySem.Spec PyProof.Rows PySem.W
def Ite (K : PySem.W.Frag) (l : Addr) : It :=
  ⟨fun i H => ∃ xs x, SqL K H l xs ∧ xs[i]? = some x, fun i H x H' => ∃ T v, x = .ref T ∧ H T = none ∧ H' = upd H T (.tup [.int i, v]) ∧ ∀ xs, SqL K H l xs → xs[i]? = some v, fun i H => ∃ xs, SqL K H l xs ∧ xs.length = i⟩
section
variable {X : Cx} {pins : List (Addr × Obj)} {σ : St} {H : Hp} {s : Shared}
theorem Inv.turned2 {h' : Heap} {t' : Nat} {e it : Addr} (I : Inv X pins σ H s) (k : ∀ b o, b ≠ e → b ≠ it → s.heap.get? b = some o → h'.get? b = some o) (fe : FpOk X pins H e) (fi : FpOk X pins H it) : Inv X pins σ H { s with heap := h', toks := t' } := by
  obtain ⟨e0, e1, e2, e3, e4, e5⟩ := fe
  obtain ⟨i0, i1, i2, i3, i4, i5⟩ := fi
  have ne : ∀ b, b ∉ [e, it] → b ≠ e ∧ b ≠ it := fun b hb => ⟨fun z => hb (by simp [z]), fun z => hb (by simp [z])⟩
  have nt : ∀ b u, H b = some u → b ≠ e ∧ b ≠ it := fun b u q => ⟨(fun z => by rw [z, e0] at q; cases q), (fun z => by rw [z, i0] at q; cases q)⟩
  refine I.step (g' := s.gens) (d' := s.drawn) (ch := [e, it]) (fun b hb => ?_) (fun b o _ _ hc q _ => k b o (ne b hc).1 (ne b hc).2 q) (fun b o _ _ hc q _ => ⟨o.slots, k b o (ne b hc).1 (ne b hc).2 q⟩) (fun _ _ _ _ n => n) (fun b o hc q => ⟨o, k b o (ne b hc).1 (ne b hc).2 q⟩)
    (fun _ _ q => q) (fun _ _ _ q => q) (fun b ps q => ⟨#[], by rw [q]; simp⟩) (fun m hm => ?_) (fun b u q => ?_) I.bare
  · rcases List.mem_cons.mp hb with z | z
    · rw [z]; exact ⟨e3, e1, e4, e5⟩
    · rw [List.mem_singleton.mp z]; exact ⟨i3, i1, i4, i5⟩
  · obtain ⟨o, es, ep, ho, r⟩ := hm
    exact ⟨o, es, ep, k _ _ (Ne.symm e1) (Ne.symm i1) ho, r⟩
  · refine (I.hok b u q).stay (fun c v hc z => ?_) (fun _ z => z) fun _ _ z => z
    rcases hc with rfl | hc
    · exact k _ _ (nt _ _ q).1 (nt _ _ q).2 z
    · exact k _ _ (nt _ _ hc).1 (nt _ _ hc).2 z
end
theorem turn_enum {P : Program} {w : World} {K : PySem.W.Frag} {elts : List Expr} {k : Nat} {pos : Pos} (l e it : Addr) (hei : e ≠ it) : Turn P w K (.Tuple elts k pos) (Ite K l) [e, it] e (fun i h => (∃ old, IsEnum h e it i old) ∧ h.IsListIter it l i) where
  mem := by simp
  obj := fun i h st b hb => by
    obtain ⟨⟨old, he⟩, o, ho, _, hd⟩ := st
    rcases List.mem_cons.mp hb with z | z
    · rw [z]; exact ⟨_, he, fun v z => by cases z⟩
    · rw [List.mem_singleton.mp z]; exact ⟨o, ho, fun v z => by rw [hd] at z; cases z⟩
  keep := fun i h h' st k => by
    obtain ⟨⟨old, he⟩, o, ho, hr⟩ := st
    exact ⟨⟨old, k e (by simp) _ he⟩, o, k it (by simp) _ ho, hr⟩
  item := by
    intro X hP hw hK hc i pins s σ H E I hf st hg
    subst hP hw hK
    obtain ⟨xs, x, hq, hx⟩ := hg
    obtain ⟨its, rv, p, hz⟩ := I.list hq
    obtain ⟨u, hu, ru⟩ := rv.get hx
    have fe := hf e (by simp)
    have fi := hf it (by simp)
    obtain ⟨⟨old, he⟩, hit⟩ := st
    obtain ⟨ol, hol, hcl, _⟩ := p.isList
    have hli : l ≠ it := fun z => by
      obtain ⟨o, ho, hc', _⟩ := hit
      rw [← z, hol] at ho; cases ho; rw [hcl] at hc'
      injection hc' with h; exact absurd h (by decide)
    have hle : e ≠ l := fun z => by
      have he' : s.heap.get? e = some _ := he
      rw [z, hol] at he'; cases he'
      injection hcl with h; exact absurd h (by decide)
    have D := Draws.list (prog := X.prog) (w := X.w) (A := X.A.in1) (I.ok.hd hc) it l hli its.toArray
    have W := WalksT.enumerateD D e hei (by simp [hei, hle]) (by simp)
    have hin : i < its.toArray.size := by
      have := (List.getElem?_eq_some_iff.mp hu).1
      simpa using this
    refine W.item i s _ _ hin ⟨⟨old, he⟩, hit, p.isList⟩ fun T vals h' tk hPt hT hIs hMid kk => ?_
    obtain ⟨tt, xv, hPx, rfl⟩ := hPt
    have hxv : xv = u := by
      have z : its.toArray[i]? = some xv := hPx
      rw [show its.toArray[i]? = its[i]? by simp, hu] at z
      exact (Option.some.inj z).symm
    subst hxv
    refine ⟨_, rfl, W.go elts k pos i T _ _ _ hMid fun h2 st2 kk2 => ?_⟩
    have kall : ∀ b o, b ≠ e → b ≠ it → s.heap.get? b = some o → h2.get? b = some o := fun b o h1 h3 q => kk2 b o (by simp [h1, h3]) (kk b o (by simp [h1, h3]) q)
    have I2 : Inv X pins σ H { s with heap := h2, toks := tk } := I.turned2 kall fe fi
    have hTe : T ∉ [e, it] := W.apart i T h' hMid
    have hTn : H T = none := I.hok.fresh hT
    obtain ⟨oT, hoT, hcT, nT, hdT⟩ := hIs
    have hoT2 := kk2 T oT hTe hoT
    have I3 := I2.track (D := T) (o := .tup [.int i, x]) (I.fpOk hT hTn) ⟨(show 2 ≤ sizeLine by decide), [.int i tt, xv], .cons ⟨tt, rfl⟩ (.cons ru .nil), oT, hoT2, hcT, nT, hdT⟩
    refine ⟨.ref T, _, I3, rfl, ⟨T, x, rfl, hTn, rfl, fun ys hy => by rw [I.list_inj hy hq]; exact hx⟩, ⟨st2.1, st2.2.1⟩, fun b hb => ?_⟩
    rw [upd_ne (fun z => hTe (by rw [← z]; exact hb))]
    exact (hf b hb).1
  done := by
    intro X hP hw hK hc i pins s σ H E I hf st hg
    subst hP hw hK
    obtain ⟨xs, hq, hx⟩ := hg
    obtain ⟨its, rv, p, hz⟩ := I.list hq
    have fe := hf e (by simp)
    have fi := hf it (by simp)
    obtain ⟨⟨old, he⟩, hit⟩ := st
    obtain ⟨ol, hol, hcl, _⟩ := p.isList
    have hli : l ≠ it := fun z => by
      obtain ⟨o, ho, hc', _⟩ := hit
      rw [← z, hol] at ho; cases ho; rw [hcl] at hc'
      injection hc' with h; exact absurd h (by decide)
    have hle : e ≠ l := fun z => by
      have he' : s.heap.get? e = some _ := he
      rw [z, hol] at he'; cases he'
      injection hcl with h; exact absurd h (by decide)
    have D := Draws.list (prog := X.prog) (w := X.w) (A := X.A.in1) (I.ok.hd hc) it l hli its.toArray
    have W := WalksT.enumerateD D e hei (by simp [hei, hle]) (by simp)
    have hin : its.toArray.size = i := by rw [← hx, rv.length]; simp
    refine W.done s _ _ (by rw [hin]; exact ⟨⟨old, he⟩, hit, p.isList⟩) fun h' tk kk => ⟨rfl, I.turned2 (fun b o h1 h2 q => kk b o (by simp [h1, h2]) q) fe fi⟩
  self := fun A i s Q E st h => by
    obtain ⟨⟨old, he⟩, _⟩ := st
    exact wpAny_pyIter_enum he h
end L2
namespace L2
open PySem PySem.Spec PyProof.Rows PySem.W
def iEnum (K : PySem.W.Frag) (te : TE) : TI := fun σ H R => te σ H fun x H1 => ∃ a, x = .ref a ∧ (∃ xs, SqL K H1 a xs) ∧ R (Ite K a) H1
section
variable {X : Cx} {e : Expr} {te : TE} {elts : List Expr} {k : Nat} {tpos p pos : Pos}
theorem pi_enum (K : PySem.W.Frag) (hm : X.mg "enumerate" = none) (he : PE X e te) (hK : X.K = K := by rfl) (hg : Gl X "enumerate" := by rfl) (hp : plainE e = true := by rfl) : PI X (.Tuple elts k tpos) (.Call (.Name "enumerate" p) [e] [] pos) (iEnum K te) := by
  subst hK
  intro pins s σ H R I h
  have h' : tCons te tNil σ H (fun vs H1 => match vs with | [x] => ∃ a, x = .ref a ∧ (∃ xs, SqL X.K H1 a xs) ∧ R (Ite X.K a) H1 | _ => False) := h
  have ha := (pa_cons (X := X) he pa_nil (star_of hp)) pos pins s σ H _ I h'
  refine Call_ (ld_blt I hg hm boot_enumerate (PyProof.Rows.callWith_type1 (thn ha fun us s1 ⟨vs, H1, I1, r1, q1⟩ => ?_) (by rw [star_of hp]) rfl))
  match vs, q1, r1 with
  | [x], ⟨a, ea, ⟨xs, hq⟩, q⟩, .cons r rr =>
    cases rr
    subst ea
    cases r
    obtain ⟨its, rv, pl, hz⟩ := I1.list hq
    refine call_enumerate_list pl.isList fun h2 hE hI hsz kk => ?_
    refine wpAny_pyIter_enum hE ?_
    have I2 : Inv X pins σ H1 { s1 with heap := h2 } := I1.kept (t' := s1.toks) kk
    refine ⟨s1.heap.objs.size + 1, [s1.heap.objs.size + 1, s1.heap.objs.size], _, _, H1, rfl, I2, turn_enum a (s1.heap.objs.size + 1) s1.heap.objs.size (Nat.succ_ne_self _), ⟨⟨.none, hE⟩, hI⟩, fun b hb => ?_, q⟩
    have hle : s1.heap.objs.size ≤ b := by
      rcases List.mem_cons.mp hb with z | z
      · rw [z]; omega
      · rw [List.mem_singleton.mp z]; exact Nat.le_refl _
    exact I1.fpOk hle (I1.hok.fresh hle)
end
end L2
namespace L2
open PySem PySem.Spec PyProof.Rows PySem.W
theorem ne_D {H : Hp} {x y : V} {d : PyData} {Q : VK} (hx : Has H x d) (hy : Has H y d) (s : SeqAt.shaped d = true) (q : Q (.bl false) H) : rNeD x y H Q := by
  refine ⟨_, _, hx, hy, s, s, ?_⟩
  rw [SeqAt.eqv_refl _ (lay_of s)]; exact q
theorem eq_D {H : Hp} {x y : V} {d : PyData} {Q : VK} (hx : Has H x d) (hy : Has H y d) (s : SeqAt.shaped d = true) (q : Q (.bl true) H) : rEqD x y H Q := by
  refine ⟨_, _, hx, hy, s, s, ?_⟩
  rw [SeqAt.eqv_refl _ (lay_of s)]; exact q
end L2
namespace L2
open PySem PySem.Spec PyProof.Rows PySem.W
structure Stp (ps : List Addr) (H : Hp) (ps' : List Addr) (H' : Hp) : Prop where
  but : But ps H H'
  tup : Tups H H'
  new : ∀ c ∈ ps', c ∈ ps ∨ H c = none
theorem Stp.free {ps ps' : List Addr} {H H' : Hp} (s : Stp ps H ps' H') {c : Addr} (h : H' c = none) (hc : c ∉ ps) : H c = none := by
  cases q : H c with
  | none => rfl
  | some o => rw [s.but c o q hc] at h; cases h
theorem Stp.free' {ps ps' : List Addr} {H H' : Hp} (s : Stp ps H ps' H') {c : Addr} (h : H' c = none) : c ∈ ps ∨ H c = none := by
  by_cases hc : c ∈ ps
  · exact .inl hc
  · exact .inr (s.free h hc)
theorem Stp.trans {ps ps' ps'' : List Addr} {H H' H'' : Hp} (s : Stp ps H ps' H') (t : Stp ps' H' ps'' H'') : Stp ps H ps'' H'' := by
  refine ⟨fun c o h hc => t.but c o (s.but c o h hc) fun hc' => ?_, s.tup.trans t.tup, fun c hc => ?_⟩
  · rcases s.new c hc' with z | z
    · exact hc z
    · rw [z] at h; cases h
  · rcases t.new c hc with z | z
    · exact s.new c z
    · exact s.free' z
theorem Stp.refl (ps : List Addr) (H : Hp) : Stp ps H ps H := ⟨fun _ _ h _ => h, Tups.refl H, fun _ h => .inl h⟩
theorem Same.step {H H' : Hp} (e : Same H H') (ps : List Addr) : Stp ps H ps H' := ⟨fun c o h _ => e c o h, e.tups, fun _ h => .inl h⟩
theorem Stp.weak {ps ps' qs qs' : List Addr} {H H' : Hp} (s : Stp ps H ps' H') (h : ∀ c ∈ ps, c ∈ qs) (h' : ∀ c ∈ qs', c ∈ ps' ∨ c ∈ qs) : Stp qs H qs' H' :=
  ⟨fun c o e hc => s.but c o e fun z => hc (h c z), s.tup, fun c hc => by
    rcases h' c hc with z | z
    · rcases s.new c z with y | y
      · exact .inl (h c y)
      · exact .inr y
    · exact .inl z⟩
theorem Stp.same {ps' : List Addr} {H H' : Hp} (s : Stp [] H ps' H') : Same H H' := fun c o h => s.but c o h List.not_mem_nil
theorem Stp.keep {ps ps' : List Addr} {H H' : Hp} (s : Stp ps H ps' H') {c : Addr} {o : HO} (h : H c = some o) (hc : c ∉ ps) : H' c = some o := s.but c o h hc
theorem Stp.out {ps ps' : List Addr} {H H' : Hp} (s : Stp ps H ps' H') {c : Addr} {o : HO} (h : H c = some o) (hc : c ∉ ps) : c ∉ ps' := fun z => by
  rcases s.new c z with y | y
  · exact hc y
  · rw [y] at h; cases h
theorem Stp.put {ps : List Addr} {H : Hp} {p : Addr} {u o : HO} (h : H p = some u) (hn : ∀ xs, u ≠ .tup xs) (hp : p ∈ ps) : Stp ps H ps (upd H p o) :=
  ⟨fun c o' e hc => by rw [upd_ne (fun z => hc (by rw [z]; exact hp))]; exact e, (Tups.refl H).put h hn, fun _ z => .inl z⟩
theorem Stp.make {ps : List Addr} {H : Hp} {p : Addr} {o : HO} (h : H p = none) : Stp ps H (p :: ps) (upd H p o) :=
  ⟨fun c o' e hc => by rw [upd_ne (ne_of_none e h)]; exact e, (Same.new h).tups, fun c z => by
    rcases List.mem_cons.mp z with rfl | z
    · exact .inr h
    · exact .inl z⟩
theorem Ms.step {ps ps' : List Addr} {H H' : Hp} {xs : List V} {ms : List Msg} (h : Ms H xs ms) (s : Stp ps H ps' H') : Ms H' xs ms := h.tups s.tup
theorem Stp.obj {H : Hp} {p dx : Addr} {o o' : HO} (np : H p = none) (nd : H dx = none) : Stp [] H [p] (upd (upd H dx o) p o') := by
  have e : Same H (upd (upd H dx o) p o') := fun b u h => by rw [upd_ne (ne_of_none h np), upd_ne (ne_of_none h nd)]; exact h
  exact ⟨fun c u h _ => e c u h, e.tups, fun c hc => by
    rw [List.mem_singleton] at hc
    rw [hc]; exact .inr np⟩
theorem hasL_ints {H : Hp} : ∀ ns : List Int, HasL H (ns.map V.int) (ns.map PyData.int)
  | [] => hasL_nil
  | n :: r => hasL_cons (has_int n) (hasL_ints r)
theorem lay_ints : ∀ ns : List Int, PyData.canLayAll0 (ns.map PyData.int) = true
  | [] => rfl
  | n :: r => by simp only [List.map_cons, PyData.canLayAll0, PyData.canLay0, lay_ints r, Bool.and_true]
theorem depth_ints : ∀ ns : List Int, PyData.depthAll (ns.map PyData.int) ≤ 3
  | [] => by simp [PyData.depthAll]
  | n :: r => by
    have := depth_ints r
    simp only [List.map_cons, PyData.depthAll, PyData.depth]; omega
theorem shaped_ints (ns : List Int) : SeqAt.shaped (.list (ns.map PyData.int)) = true := by
  have h1 := depth_ints ns
  have h2 : PyData.depth (.list (ns.map PyData.int)) ≤ 64 := by simp only [PyData.depth]; omega
  show (PyData.canLay0 (.list (ns.map PyData.int)) && decide (PyData.depth (.list (ns.map PyData.int)) ≤ 64)) = true
  rw [Bool.and_eq_true]
  exact ⟨by simp only [PyData.canLay0, lay_ints], decide_eq_true h2⟩
def PFlt (H : Hp) (ms : List Msg) (p : Msg → Bool) : Nat → List V → Hp → Prop := fun i ys H2 => H2 = H ∧ Ms H ys ((ms.take i).filter p)
section
variable {K : PySem.W.Frag} {a : Addr} {xs : List V} {ms : List Msg} {g : TG} {tc : TT} {te : TE} {τ : St} {H : Hp} {f : Msg → V} {p : Msg → Bool}
theorem PFlt.zero : PFlt H ms p 0 [] H := ⟨rfl, Ms.nil⟩
theorem szl {n : Nat} (h : n < 1000) : n ≤ sizeLine := by rw [sizeLine_eq]; omega
theorem PFlt.step (ha : H a = some (.lst xs)) (hm : Ms H xs ms)
    (hs : ∀ c m (R : VK) (N : Hp → Prop), m ∈ ms → H c = some (mT m) → (p m = true → R (.ref c) H) → (p m = false → N H) → g (.ref c) τ H fun σ4 H4 => tc σ4 H4 fun b H5 => if b = true then te σ4 H5 R else N H5) :
    ∀ i ys H2, i < ms.length → PFlt H ms p i ys H2 → (Itl K a).go i H2 ∧ ∀ x H3, (Itl K a).yld i H2 x H3 → g x τ H3 fun σ4 H4 => tc σ4 H4 fun b H5 => if b = true then te σ4 H5 fun y H6 => PFlt H ms p (i + 1) (ys ++ [y]) H6 else PFlt H ms p (i + 1) ys H5 := by
  rintro i ys H2 hi ⟨rfl, hy⟩
  obtain ⟨c, ec, hc⟩ := hm.get hi
  refine ⟨⟨xs, .ref c, SqL.ofL ha, ec⟩, ?_⟩
  rintro x H3 ⟨rfl, hx⟩
  have hx' := hx xs (SqL.ofL ha)
  rw [ec] at hx'
  obtain rfl := Option.some.inj hx'
  refine hs c _ _ _ (List.getElem_mem hi) hc (fun hp => ⟨rfl, ?_⟩) (fun hp => ⟨rfl, ?_⟩)
  · rw [flt_succ hi, if_pos hp]
    exact hy.append (Ms.one hc)
  · rw [flt_succ hi, if_neg (by rw [hp]; decide), List.append_nil]
    exact hy
theorem PFlt.done (ha : H a = some (.lst xs)) (hm : Ms H xs ms) {ys : List V} {H2 : Hp} (h : PFlt H ms p ms.length ys H2) : (Itl K a).stop ms.length H2 ∧ H = H2 ∧ Ms H ys (ms.filter p) := by
  obtain ⟨rfl, hy⟩ := h
  rw [List.take_length] at hy
  exact ⟨⟨xs, SqL.ofL ha, by rw [hm.len]; exact Nat.le_refl _⟩, rfl, hy⟩
end
structure RS where
  rows : List Msg
  out : List Int
  cut : Bool
theorem Stp.up {ps qs : List Addr} {H H' : Hp} (s : Stp ps H ps H') (h : ∀ c ∈ ps, c ∈ qs) : Stp qs H qs H' := s.weak h fun _ z => .inr z
end L2
namespace L2
open PySem PySem.Spec PyProof.Rows PySem.W
section
variable {X : Cx}
theorem items_keys {P : Program} {w : World} {kvs : List (Key × V)} : ∀ {ws : List (Key × Value)} {vs : List Value}, KV kvs ws → vs.length = ws.length → (∀ (j : Nat) (v : Value), vs[j]? = some v → ∃ k x, ws[j]? = some (k, x) ∧ (mixKind P w).is k v = true) → Vals (kvs.map fun kv => kV kv.1) vs := by
  induction kvs with
  | nil =>
    intro ws vs r e h
    cases r
    rw [List.eq_nil_of_length_eq_zero e]; exact .nil
  | cons kv kvs ih =>
    intro ws vs r e h
    cases r with
    | @cons _ w1 _ ws r1 r2 =>
      cases vs with
      | nil => simp at e
      | cons v vs =>
        refine .cons ?_ (ih r2 (by simpa using e) fun j u hu => h (j + 1) u (by simpa using hu))
        obtain ⟨k, x, hk, hi⟩ := h 0 v rfl
        have hk' : w1 = (k, x) := Option.some.inj hk
        show RelV (kV kv.1) v
        rw [r1.1, hk']
        have hi' : keyIs k v = true := hi
        rcases keyIs_shape hi' with ⟨i, t, e1, e2⟩ | ⟨y, t, e1, e2⟩
        · rw [e1, e2]; exact ⟨t, rfl⟩
        · rw [e1, e2]; exact ⟨t, rfl⟩
theorem coll_keys {d : Addr} {H : Hp} {kvs : List (Key × V)} (hd : H d = some (.dK kvs)) : Coll X (.ref d) H (kvs.map fun kv => kV kv.1) := by
  intro pins s σ v A E Q I r hh hq
  cases r
  obtain ⟨hz, lo, ws, rk, hD⟩ := dk_of I.hok hd
  obtain ⟨ep, hat⟩ := hD.dictAt
  have hl : kvs.length = ws.length := Paired.length rk
  have grow : ∀ b o, s.heap.get? b = some o → (s.heap.push (seqObj "list" #[] 0)).get? b = some o := fun b o e => Heap.get?_push_of_some _ e
  have hat1 : (s.heap.push (seqObj "list" #[] 0)).DictAt (mixKind X.prog X.w) d ws ep := hat.at' fun o e => grow _ _ e
  have ld : d < s.heap.objs.size := hat.lt_size
  unfold collect
  refine wpAny_bind (wpAny_runValue (codeAny_builtin entry_proto_collect' ?_))
  show wpAny _ _ (do again (.builtin "list.__iadd__" ⟨[← newList [], .ref d], []⟩)) _ _ s
  refine wpAny_bind (wpAny_newList (wpAny_pure ⟨Code.quiet_builtin _ (by decide +kernel), codeAny_builtin entry_list_iadd' ?_⟩))
  show wpAny _ _ (Builtin.List.listExtendWith (.ref s.heap.objs.size) (.ref d) (.ref s.heap.objs.size)) _ _ { s with heap := s.heap.push (seqObj "list" #[] 0) }
  rw [Around.under_plainId (show plainId "list.__iadd__" = true by decide +kernel) _]
  have fin : ∀ s' : Shared, (∃ acc c, s'.heap.get? s.heap.objs.size = some { cls := .type "list", dict := none, data := .seq acc c, slots := #[] } ∧ Vals (kvs.map fun kv => kV kv.1) acc.toList ∧ Inv X pins σ H s') →
      wpAny (model X.prog X.w) A (do
        let o ← load s.heap.objs.size
        match o.data with
        | .seq xs _ => pure xs.toList
        | _ => unsupported "internal:collect") Q E s' := by
    rintro s' ⟨acc, c, hS, e, I'⟩
    refine wpAny_bind (wpAny_load hS ?_)
    show wpAny _ _ (pure acc.toList) Q E _
    exact wpAny_pure (hq _ _ e I')
  refine wpAny_mono (PySem.W.kdl_extend (R := fun r s' => r = .ok (.ret (.ref s.heap.objs.size)) ∧ ∃ acc c, s'.heap.get? s.heap.objs.size = some { cls := .type "list", dict := none, data := .seq acc c, slots := #[] } ∧ Vals (kvs.map fun kv => kV kv.1) acc.toList ∧ Inv X pins σ H s')
    (s := { s with heap := s.heap.push (seqObj "list" #[] 0) }) (PySem.W.kdl_dict (knd := mixKind X.prog X.w) (kvs := ws) (ep := ep) lo) hh hat1 s.heap.objs.size (Nat.ne_of_gt ld) (Nat.ne_of_gt ld) _ 0 (Heap.get?_push_size _ rfl) (fun h' tk acc c hk hS hacc => ?_) (show ws.length ≤ sizeLine by omega))
    (fun fi s' hf => ?_) (fun e s' he => nomatch he.1)
  · refine ⟨rfl, acc, c, hS, items_keys rk (by rw [Array.length_toList]; exact hacc.1) (fun j u hu => hacc.2 j u (by rw [← Array.getElem?_toList]; exact hu)), I.kept fun b o eb => hk b o (Nat.ne_of_lt (Heap.lt_size eb)) (grow b o eb)⟩
  · cases fi with
    | done f =>
      obtain ⟨e, g⟩ := hf
      cases e
      exact fin s' g
    | again c' =>
      refine ⟨hf.1, codeAny_mono hf.2 fun r s2 ⟨e, g⟩ => ?_⟩
      subst e
      exact fin s2 g
theorem ints_are : ∀ {ns : List Int} {us : List Value}, Vals (ns.map V.int) us → IntsAre us ns := fun r => intsAre_of r
theorem are_ints : ∀ {us : List Value} {ns : List Int}, IntsAre us ns → Vals (ns.map V.int) us
  | _, _, .nil => .nil
  | _, _, .cons n t r => .cons ⟨t, rfl⟩ (are_ints r)
def IntSrc (K : PySem.W.Frag) (x : V) (H : Hp) (ns : List Int) : Prop := (∃ a, x = .ref a ∧ SqL K H a (ns.map V.int)) ∨ ∃ d kvs, x = .ref d ∧ H d = some (.dK kvs) ∧ kvs.map (·.1) = ns.map Sum.inl
theorem IntSrc.coll {x : V} {H : Hp} {ns : List Int} (h : IntSrc X.K x H ns) : Coll X x H (ns.map V.int) := by
  rcases h with ⟨a, rfl, h⟩ | ⟨d, kvs, rfl, h, e⟩
  · exact coll_list h
  · have z := coll_keys (X := X) h
    have e2 : kvs.map (fun kv => kV kv.1) = ns.map V.int := by
      have : kvs.map (fun kv => kV kv.1) = (kvs.map (·.1)).map kV := by rw [List.map_map]; rfl
      rw [this, e, List.map_map]; rfl
    rw [e2] at z
    exact z
def rSortI (K : PySem.W.Frag) : List V → Hp → VK → Prop := fun xs H Q => ∃ x ns, xs = [x] ∧ IntSrc K x H ns ∧ ns.length < 64 ∧ ∀ p, H p = none → Q (.ref p) (upd H p (.lst ((sortI ns).map V.int)))
theorem call_sortI (hc : X.calm = true) : CallR X (.builtin "sorted") (rSortI X.K) := by
  intro pins s σ H xs us Q I r h
  obtain ⟨x, ns, rfl, hx, h64, q⟩ := h
  obtain ⟨u, rfl, ru⟩ := vals1 r
  refine Calls.call_function_entry kind_sorted plain_sorted entry_sorted (args_sorted1 _) ?_
  unfold Builtin.«sorted»
  refine wpAny_bind (m := checkCount "sorted" 1 1 _) (wpAny_pure ?_)
  refine wpAny_bind (hx.coll pins s σ u _ _ _ I ru (I.ok.hd hc) fun vs s1 rv I1 => ?_)
  have hl := rv.length
  rw [List.length_map] at hl
  refine wpAny_bind (wpAny_newList ?_ (by rw [sizeLine_eq]; omega))
  have I2 : Inv X pins σ H { s1 with heap := s1.heap.push (seqObj "list" vs.toArray 0) } := I1.kept (t' := s1.toks) fun b o e => Heap.get?_push_of_some _ e
  have fD : FpOk X pins H s1.heap.objs.size := I1.fpOk (Nat.le_refl _) (I1.hok.fresh (Nat.le_refl _))
  have hoL : (s1.heap.push (seqObj "list" vs.toArray 0)).get? s1.heap.objs.size = some (seqObj "list" vs.toArray 0) := Heap.get?_push_size _ rfl
  refine wpAny_bind (wpAny_holding (wpAny_call_entry slot_list_sort ⟨_, hoL, rfl⟩ entry_list_sort ?body (args_list_sort _)))
  case body =>
    refine list_sort_tree (s := { s1 with heap := s1.heap.push (seqObj "list" vs.toArray 0) }) hoL (ints_are rv) (by omega) fun out ns' hI hp hr => ⟨_, rfl, ?_⟩
    have e : ns' = sortI ns := eq_sortI hp hr
    subst e
    obtain ⟨c, hat⟩ := sortedHeap_at (out := out) hoL
    refine wpAny_pure ⟨_, rfl, .ref s1.heap.objs.size, upd H s1.heap.objs.size (.lst ((sortI ns).map V.int)), ?_, rfl, q _ fD.1⟩
    have I3 : Inv X pins σ H { s1 with heap := sortedHeap (s1.heap.push (seqObj "list" vs.toArray 0)) s1.heap.objs.size vs out } := I1.kept (t' := s1.toks) fun b o e => by
      have hb : b ≠ s1.heap.objs.size := Nat.ne_of_lt (Heap.lt_size e)
      rw [sortedHeap_old hb (by rw [Heap.size_push]; exact Nat.lt_succ_of_lt (Heap.lt_size e))]
      exact Heap.get?_push_of_some _ e
    refine I3.track fD ⟨?_, out.toList, c, are_ints hI, ?_⟩
    · rw [List.length_map, (sortI_perm ns).length_eq, sizeLine_eq]; omega
    · simpa [seqObj] using hat
theorem k_sortI (K : PySem.W.Frag) (hc : X.calm = true) (h : X.K = K := by rfl) : CallR X (.builtin "sorted") (rSortI K) := h ▸ call_sortI hc
end
end L2
namespace L2
open PySem PySem.Spec PyProof.Rows PySem.W
structure HS where
  heard : List Msg
  held : List Msg
  lost : List Int
def HS.next (s : HS) : Int := (s.heard.length : Int) + (s.lost.length : Int) + 1
def hasN (ms : List Msg) (n : Int) : Bool := ms.any fun m => decide (m.n = n)
def findN (ms : List Msg) (n : Int) : Option Msg := ms.find? fun m => decide (m.n = n)
def dropN (ms : List Msg) (n : Int) : List Msg := ms.filter fun m => decide (m.n ≠ n)
def putM (ms : List Msg) (m : Msg) : List Msg := if hasN ms m.n = true then ms.map (fun x => if x.n = m.n then m else x) else ms ++ [m]
theorem findN_some {ms : List Msg} {n : Int} {m : Msg} (h : findN ms n = some m) : m ∈ ms ∧ m.n = n := ⟨List.mem_of_find?_eq_some h, by simpa using List.find?_some h⟩
theorem findN_none {ms : List Msg} {n : Int} : findN ms n = none ↔ ∀ m ∈ ms, m.n ≠ n := by
  unfold findN
  rw [List.find?_eq_none]
  constructor
  · intro h m hm; simpa using h m hm
  · intro h m hm; simpa using h m hm
theorem findN_mem {ms : List Msg} (d : Diff ms) {m : Msg} (h : m ∈ ms) : findN ms m.n = some m := by
  cases e : findN ms m.n with
  | none => exact absurd rfl (findN_none.mp e m h)
  | some x => rw [d.eq (findN_some e).1 h (findN_some e).2]
theorem hasN_iff {ms : List Msg} {n : Int} : hasN ms n = true ↔ ∃ m ∈ ms, m.n = n := by
  unfold hasN
  rw [List.any_eq_true]
  constructor
  · rintro ⟨m, hm, e⟩; exact ⟨m, hm, of_decide_eq_true e⟩
  · rintro ⟨m, hm, e⟩; exact ⟨m, hm, decide_eq_true e⟩
theorem dropN_mem {ms : List Msg} {n : Int} {m : Msg} : m ∈ dropN ms n ↔ m ∈ ms ∧ m.n ≠ n := by
  unfold dropN
  rw [List.mem_filter]
  simp
theorem dropN_lt {ms : List Msg} {m : Msg} (h : m ∈ ms) : (dropN ms m.n).length < ms.length := by
  unfold dropN
  exact List.length_filter_lt_length_iff_exists.mpr ⟨m, h, by simp⟩
theorem dropN_diff {ms : List Msg} {n : Int} (d : Diff ms) : Diff (dropN ms n) := (List.filter_sublist.map Msg.n).nodup d
theorem dropN_len {ms : List Msg} (d : Diff ms) {m : Msg} (h : m ∈ ms) : (dropN ms m.n).length + 1 = ms.length := by
  induction ms with
  | nil => cases h
  | cons x r ih =>
    have d' : Diff r := (List.nodup_cons.mp d).2
    have hx : x.n ∉ r.map (·.n) := (List.nodup_cons.mp d).1
    by_cases e : x.n = m.n
    · have : dropN (x :: r) m.n = r := by
        unfold dropN
        rw [List.filter_cons_of_neg (by simp [e])]
        refine List.filter_eq_self.mpr fun y hy => ?_
        refine decide_eq_true fun z => hx ?_
        rw [e, ← z]
        exact List.mem_map_of_mem hy
      rw [this]; rfl
    · have hm : m ∈ r := by
        rcases List.mem_cons.mp h with rfl | z
        · exact absurd rfl e
        · exact z
      have : dropN (x :: r) m.n = x :: dropN r m.n := by
        unfold dropN
        rw [List.filter_cons_of_pos (by simp [e])]
      rw [this, List.length_cons, List.length_cons, ← ih d' hm]
theorem putM_new {ms : List Msg} {m : Msg} (h : ∀ x ∈ ms, x.n ≠ m.n) : putM ms m = ms ++ [m] := by
  unfold putM
  rw [if_neg]
  intro z
  obtain ⟨x, hx, e⟩ := hasN_iff.mp z
  exact h x hx e
theorem putM_old {ms : List Msg} {m : Msg} (h : m ∈ ms) (hs : ∀ x ∈ ms, x.n = m.n → x = m) : putM ms m = ms := by
  unfold putM
  rw [if_pos (hasN_iff.mpr ⟨m, h, rfl⟩)]
  have : ms.map (fun x => if x.n = m.n then m else x) = ms.map id := List.map_congr_left fun x hx => by
    show (if x.n = m.n then m else x) = x
    by_cases e : x.n = m.n
    · rw [if_pos e, hs x hx e]
    · rw [if_neg e]
  rw [this, List.map_id]
theorem putM_case {ms : List Msg} {m : Msg} (hs : ∀ x ∈ ms, x.n = m.n → x = m) : (m ∈ ms ∧ putM ms m = ms) ∨ ((∀ x ∈ ms, x.n ≠ m.n) ∧ putM ms m = ms ++ [m]) := by
  by_cases h : m ∈ ms
  · exact .inl ⟨h, putM_old h hs⟩
  · have h' : ∀ x ∈ ms, x.n ≠ m.n := fun x hx e => h (hs x hx e ▸ hx)
    exact .inr ⟨h', putM_new h'⟩
theorem putM_mem {ms : List Msg} {m x : Msg} (hs : ∀ x ∈ ms, x.n = m.n → x = m) : x ∈ putM ms m ↔ x ∈ ms ∨ x = m := by
  rcases putM_case hs with ⟨h, e⟩ | ⟨h, e⟩
  · rw [e]
    constructor
    · exact .inl
    · rintro (z | rfl)
      · exact z
      · exact h
  · rw [e, List.mem_append, List.mem_singleton]
theorem putM_diff {ms : List Msg} {m : Msg} (hs : ∀ x ∈ ms, x.n = m.n → x = m) (d : Diff ms) : Diff (putM ms m) := by
  rcases putM_case hs with ⟨h, e⟩ | ⟨h, e⟩
  · rw [e]; exact d
  · rw [e]
    unfold Diff
    rw [List.map_append]
    refine List.nodup_append.mpr ⟨d, by simp, fun a ha b hb => ?_⟩
    obtain ⟨x, hx, rfl⟩ := List.mem_map.mp ha
    simp only [List.map_cons, List.map_nil, List.mem_singleton] at hb
    rw [hb]; exact h x hx
theorem putM_len {ms : List Msg} {m : Msg} : (putM ms m).length ≤ ms.length + 1 := by
  unfold putM
  split
  · rw [List.length_map]; omega
  · rw [List.length_append]; exact Nat.le_refl _
def hearS (s : HS) : HS :=
  match h : findN s.held s.next with
  | none => s
  | some m => hearS ⟨s.heard ++ [m], dropN s.held m.n, s.lost⟩
termination_by s.held.length
decreasing_by exact dropN_lt (findN_some h).1
theorem hearS_none {s : HS} (h : findN s.held s.next = none) : hearS s = s := by
  rw [hearS]
  split
  · rfl
  · rename_i m e; rw [h] at e; cases e
theorem hearS_some {s : HS} {m : Msg} (h : findN s.held s.next = some m) : hearS s = hearS ⟨s.heard ++ [m], dropN s.held m.n, s.lost⟩ := by
  rw [hearS]
  split
  · rename_i e; rw [h] at e; cases e
  · rename_i m' e
    rw [h] at e
    cases e; rfl
theorem hearS_ind {P : HS → Prop} (hs : ∀ s m, P s → findN s.held s.next = some m → P ⟨s.heard ++ [m], dropN s.held m.n, s.lost⟩) : ∀ s, P s → P (hearS s) ∧ findN (hearS s).held (hearS s).next = none
  | s, h => by
    cases e : findN s.held s.next with
    | none => rw [hearS_none e]; exact ⟨h, e⟩
    | some m =>
      rw [hearS_some e]
      exact hearS_ind hs ⟨s.heard ++ [m], dropN s.held m.n, s.lost⟩ (hs s m h e)
termination_by s => s.held.length
decreasing_by exact dropN_lt (findN_some e).1
theorem hearS_lost (s : HS) : (hearS s).lost = s.lost := (hearS_ind (P := fun t => t.lost = s.lost) (fun _ _ h _ => h) s rfl).1
theorem next_snoc {h : List Msg} {d : List Msg} {l : List Int} {m : Msg} : HS.next ⟨h ++ [m], d, l⟩ = HS.next ⟨h, d, l⟩ + 1 := by
  show ((h ++ [m]).length : Int) + l.length + 1 = (h.length : Int) + l.length + 1 + 1
  rw [List.length_append]; show ((h.length + 1 : Nat) : Int) + _ + 1 = _; omega
def addS (s : HS) (m : Msg) : HS := if m.n ≥ s.next then ⟨s.heard, putM s.held m, s.lost⟩ else s
def takeS (s : HS) (ms : List Msg) : HS := hearS (ms.foldl addS s)
theorem addS_heard (s : HS) (m : Msg) : (addS s m).heard = s.heard := by unfold addS; split <;> rfl
theorem addS_lost (s : HS) (m : Msg) : (addS s m).lost = s.lost := by unfold addS; split <;> rfl
theorem adds_heard : ∀ (ms : List Msg) (s : HS), (ms.foldl addS s).heard = s.heard
  | [], _ => rfl
  | m :: r, s => by rw [List.foldl_cons, adds_heard r, addS_heard]
theorem adds_lost : ∀ (ms : List Msg) (s : HS), (ms.foldl addS s).lost = s.lost
  | [], _ => rfl
  | m :: r, s => by rw [List.foldl_cons, adds_lost r, addS_lost]
theorem adds_next (ms : List Msg) (s : HS) : (ms.foldl addS s).next = s.next := by unfold HS.next; rw [adds_heard, adds_lost]
def Fits (s : HS) (ms : List Msg) : Prop := (∀ m ∈ ms, ∀ x, x ∈ s.heard ∨ x ∈ s.held → x.n = m.n → x = m) ∧ ∀ m ∈ ms, ∀ x ∈ ms, x.n = m.n → x = m
inductive DI (H : Hp) : List (Key × V) → List Msg → Prop
  | nil : DI H [] []
  | cons {v : V} {m : Msg} {r : List (Key × V)} {ms : List Msg} : Has H v (mD m) → DI H r ms → DI H ((Sum.inl m.n, v) :: r) (m :: ms)
theorem DI.same {H H' : Hp} (e : Same H H') : ∀ {kvs : List (Key × V)} {ms : List Msg}, DI H kvs ms → DI H' kvs ms
  | _, _, .nil => .nil
  | _, _, .cons h t => .cons (h.same e) (DI.same e t)
theorem DI.tups {H H' : Hp} (e : Tups H H') : ∀ {kvs : List (Key × V)} {ms : List Msg}, DI H kvs ms → DI H' kvs ms
  | _, _, .nil => .nil
  | _, _, .cons h t => .cons (h.tups e (noLst_m _)) (DI.tups e t)
theorem DI.len {H : Hp} : ∀ {kvs : List (Key × V)} {ms : List Msg}, DI H kvs ms → kvs.length = ms.length
  | _, _, .nil => rfl
  | _, _, .cons _ t => by rw [List.length_cons, List.length_cons, DI.len t]
theorem DI.keys {H : Hp} : ∀ {kvs : List (Key × V)} {ms : List Msg}, DI H kvs ms → kvs.map (·.1) = (ms.map (·.n)).map Sum.inl
  | _, _, .nil => rfl
  | _, _, .cons _ t => by rw [List.map_cons, List.map_cons, List.map_cons, DI.keys t]
theorem DI.any {H : Hp} (n : Int) : ∀ {kvs : List (Key × V)} {ms : List Msg}, DI H kvs ms → (kvs.any fun kv => decide (kv.1 = Sum.inl n)) = hasN ms n
  | _, _, .nil => rfl
  | _, _, .cons (m := m') h r => by
    unfold hasN
    rw [List.any_cons, List.any_cons, DI.any n r]
    congr 1
    exact decide_eq_decide.mpr ⟨fun z => Sum.inl.inj z, fun z => congrArg Sum.inl z⟩
theorem DI.repl {H : Hp} {v : V} {m : Msg} (h : Has H v (mD m)) : ∀ {kvs : List (Key × V)} {ms : List Msg}, DI H kvs ms → DI H (kvs.map fun kv => if kv.1 = Sum.inl m.n then (kv.1, v) else kv) (ms.map fun x => if x.n = m.n then m else x)
  | _, _, .nil => .nil
  | _, _, .cons (m := m') h' r => by
    rw [List.map_cons, List.map_cons]
    by_cases e : m'.n = m.n
    · rw [if_pos (by rw [e]), if_pos e]
      show DI H ((Sum.inl m'.n, v) :: _) _
      rw [e]; exact .cons h (DI.repl h r)
    · rw [if_neg (fun z => e (Sum.inl.inj z)), if_neg e]; exact .cons h' (DI.repl h r)
theorem DI.snoc {H : Hp} {v : V} {m : Msg} (h : Has H v (mD m)) : ∀ {kvs : List (Key × V)} {ms : List Msg}, DI H kvs ms → DI H (kvs ++ [(Sum.inl m.n, v)]) (ms ++ [m])
  | _, _, .nil => .cons h .nil
  | _, _, .cons h' r => .cons h' (DI.snoc h r)
theorem DI.put {H : Hp} {v : V} {m : Msg} (h : Has H v (mD m)) {kvs : List (Key × V)} {ms : List Msg} (d : DI H kvs ms) : DI H (putK kvs (Sum.inl m.n) v) (putM ms m) := by
  unfold putK putM
  rw [d.any m.n]
  split
  · exact d.repl h
  · exact d.snoc h
theorem DI.drop {H : Hp} (n : Int) : ∀ {kvs : List (Key × V)} {ms : List Msg}, DI H kvs ms → DI H (dropK kvs (Sum.inl n)) (dropN ms n)
  | _, _, .nil => .nil
  | _, _, .cons (m := m') h r => by
    unfold dropK dropN
    by_cases e : m'.n = n
    · rw [List.filter_cons_of_neg (by simp [e]), List.filter_cons_of_neg (by simp [e])]
      exact DI.drop n r
    · rw [List.filter_cons_of_pos (by simpa using e), List.filter_cons_of_pos (by simpa using e)]
      exact .cons h (DI.drop n r)
theorem DI.none {H : Hp} (n : Int) : ∀ {kvs : List (Key × V)} {ms : List Msg}, DI H kvs ms → findN ms n = none → valV kvs (Sum.inl n) = none
  | _, _, .nil, _ => rfl
  | _, _, .cons (m := m') h r, e => by
    have e' := findN_none.mp e
    rw [valV_neg (by intro z; exact e' m' (by simp) (Sum.inl.inj z))]
    exact DI.none n r (findN_none.mpr fun x hx => e' x (by simp [hx]))
theorem DI.some {H : Hp} (n : Int) {m : Msg} : ∀ {kvs : List (Key × V)} {ms : List Msg}, DI H kvs ms → findN ms n = some m → ∃ c, valV kvs (Sum.inl n) = some (.ref c) ∧ H c = some (mT m)
  | _, _, .nil, e => by cases e
  | _, _, .cons (m := m') h r, e => by
    by_cases z : m'.n = n
    · unfold findN at e
      rw [List.find?_cons_of_pos (by simp [z])] at e
      cases e
      obtain ⟨c, rfl, hc⟩ := has_msg h
      exact ⟨c, valV_pos (by rw [z]), hc⟩
    · unfold findN at e
      rw [List.find?_cons_of_neg (by simp [z])] at e
      obtain ⟨c, h1, h2⟩ := DI.some n r e
      exact ⟨c, by rw [valV_neg (by intro y; exact z (Sum.inl.inj y))]; exact h1, h2⟩
theorem hasN_find {ms : List Msg} {n : Int} : hasN ms n = (findN ms n).isSome := by
  cases e : findN ms n with
  | none =>
    have := findN_none.mp e
    rw [show hasN ms n = false from Bool.eq_false_iff.mpr fun z => by obtain ⟨m, hm, en⟩ := hasN_iff.mp z; exact this m hm en]; rfl
  | some m => exact hasN_iff.mpr ⟨m, (findN_some e).1, (findN_some e).2⟩
theorem DI.isSome {H : Hp} {kvs : List (Key × V)} {ms : List Msg} (d : DI H kvs ms) (n : Int) : (valV kvs (Sum.inl n)).isSome = hasN ms n := by
  rw [hasN_find]
  cases e : findN ms n with
  | none => rw [d.none n e]; rfl
  | some m => obtain ⟨c, hc, _⟩ := d.some n e; rw [hc]; rfl
def hF (nx : Int) (q h k g : Addr) (ex : List (Str × V)) : List (Str × V) := ("next_number", .int nx) :: ("past", .ref q) :: ("held", .ref h) :: ("known", .ref k) :: ("given_up", .ref g) :: ex
section
variable {nx : Int} {q h k g : Addr} {ex : List (Str × V)}
theorem hF_next : (hF nx q h k g ex).lookup ("next_number" : Str) = some (V.int nx) := lk_hit
theorem hF_past : (hF nx q h k g ex).lookup ("past" : Str) = some (V.ref q) := (lk_miss (by decide +kernel)).trans lk_hit
theorem hF_held : (hF nx q h k g ex).lookup ("held" : Str) = some (V.ref h) := (lk_miss (by decide +kernel)).trans ((lk_miss (by decide +kernel)).trans lk_hit)
theorem hF_known : (hF nx q h k g ex).lookup ("known" : Str) = some (V.ref k) := (lk_miss (by decide +kernel)).trans ((lk_miss (by decide +kernel)).trans ((lk_miss (by decide +kernel)).trans lk_hit))
theorem hF_no {f : Str} (h1 : ¬ f = "next_number") (h2 : ¬ f = "past") (h3 : ¬ f = "held") (h4 : ¬ f = "known") (h5 : ¬ f = "given_up") : (hF nx q h k g ex).lookup f = ex.lookup f :=
  (lk_miss h1).trans ((lk_miss h2).trans ((lk_miss h3).trans ((lk_miss h4).trans (lk_miss h5))))
theorem hF_make : putF "given_up" (.ref g) (putF "known" (.ref k) (putF "held" (.ref h) (putF "past" (.ref q) (putF "next_number" (.int nx) [])))) = hF nx q h k g [] := by
  show putF "given_up" (.ref g) (putF "known" (.ref k) (putF "held" (.ref h) (putF "past" (.ref q) [("next_number", .int nx)]))) = _
  rw [pf_miss (by decide +kernel)]
  show putF "given_up" (.ref g) (putF "known" (.ref k) (putF "held" (.ref h) [("next_number", .int nx), ("past", .ref q)])) = _
  rw [pf_miss (by decide +kernel), pf_miss (by decide +kernel)]
  show putF "given_up" (.ref g) (putF "known" (.ref k) [("next_number", .int nx), ("past", .ref q), ("held", .ref h)]) = _
  rw [pf_miss (by decide +kernel), pf_miss (by decide +kernel), pf_miss (by decide +kernel)]
  show putF "given_up" (.ref g) [("next_number", .int nx), ("past", .ref q), ("held", .ref h), ("known", .ref k)] = _
  rw [pf_miss (by decide +kernel), pf_miss (by decide +kernel), pf_miss (by decide +kernel), pf_miss (by decide +kernel)]
  rfl
theorem hF_setNext {nx' : Int} : putF "next_number" (.int nx') (hF nx q h k g ex) = hF nx' q h k g ex := by
  unfold hF
  rw [pf_hit]
end
structure HearC (K : PySem.W.Frag) (C : Addr) : Prop where
  cl_Hearer : Cls K C
  n_next_number : NoAttr K C "next_number"
  n_past : NoAttr K C "past"
  n_held : NoAttr K C "held"
  n_known : NoAttr K C "known"
  n_given_up : NoAttr K C "given_up"
structure HA where
  p : Addr
  q : Addr
  h : Addr
  k : Addr
  g : Addr
def HA.fp (a : HA) : List Addr := [a.p, a.q, a.h, a.k, a.g]
def KnowN (H : Hp) (k : Addr) (s : HS) : Prop := ∃ kvs ms, H k = some (.dK kvs) ∧ DI H kvs ms ∧ Diff ms ∧ ms.length ≤ s.heard.length + s.held.length ∧ ∀ m, m ∈ ms ↔ m ∈ s.heard ∨ m ∈ s.held
structure HAt (C : Addr) (H : Hp) (a : HA) (s : HS) (ex : List (Str × V)) : Prop where
  ob : ∃ dx, H a.p = some (.ins C dx (hF s.next a.q a.h a.k a.g ex))
  pa : ∃ ys, H a.q = some (.lst ys) ∧ Ms H ys s.heard
  he : ∃ kvs, H a.h = some (.dK kvs) ∧ DI H kvs s.held
  kn : KnowN H a.k s
  lo : H a.g = some (.lst (s.lost.map V.int))
  nqg : a.q ≠ a.g
  nhk : a.h ≠ a.k
  exn : ∀ f : Str, ¬ f = "keep" → ex.lookup f = none
  exl : ex.length < 100
theorem hF_len {nx : Int} {q h k g : Addr} {ex : List (Str × V)} (hx : ex.length < 100) : (hF nx q h k g ex).length < 1000 := by show ex.length + 1 + 1 + 1 + 1 + 1 < 1000; omega
section
variable {C : Addr} {H H' : Hp} {a : HA} {s : HS} {ex : List (Str × V)}
theorem KnowN.tups {k : Addr} (h : KnowN H k s) (e : H' k = H k) (t : Tups H H') : KnowN H' k s := by
  obtain ⟨kvs, ms, h1, h2, h3, h4, h5⟩ := h
  exact ⟨kvs, ms, by rw [e]; exact h1, h2.tups t, h3, h4, h5⟩
theorem HAt.live (h : HAt C H a s ex) : ∀ c ∈ a.fp, ∃ o, H c = some o := by
  obtain ⟨⟨dx, h1⟩, ⟨ys, h2, _⟩, ⟨kvs, h3, _⟩, ⟨kvs', _, h4, _⟩, h5, _, _, _, _⟩ := h
  intro c hc
  simp only [HA.fp, List.mem_cons, List.not_mem_nil, or_false] at hc
  rcases hc with rfl | rfl | rfl | rfl | rfl
  · exact ⟨_, h1⟩
  · exact ⟨_, h2⟩
  · exact ⟨_, h3⟩
  · exact ⟨_, h4⟩
  · exact ⟨_, h5⟩
theorem HAt.step {ps ps' : List Addr} (h : HAt C H a s ex) (st : Stp ps H ps' H') (hd : ∀ c ∈ a.fp, c ∉ ps) : HAt C H' a s ex := by
  have hd' : ∀ c, c ∈ a.fp → c ∉ ps := hd
  obtain ⟨⟨dx, h1⟩, ⟨ys, h2, h3⟩, ⟨kvs, h4, h5⟩, hk, h6, h7, h8, h9, h10⟩ := id h
  have e : ∀ c ∈ a.fp, H' c = H c := fun c hc => by
    obtain ⟨o, ho⟩ := h.live c hc
    rw [ho]; exact st.keep ho (hd c hc)
  exact ⟨⟨dx, by rw [e _ (by simp [HA.fp])]; exact h1⟩, ⟨ys, by rw [e _ (by simp [HA.fp])]; exact h2, h3.step st⟩, ⟨kvs, by rw [e _ (by simp [HA.fp])]; exact h4, h5.tups st.tup⟩, hk.tups (e _ (by simp [HA.fp])) st.tup, by rw [e _ (by simp [HA.fp])]; exact h6, h7, h8, h9, h10⟩
theorem HAt.same (h : HAt C H a s ex) (e : Same H H') : HAt C H' a s ex := h.step (e.step []) fun _ _ => List.not_mem_nil
theorem HAt.out {ps ps' : List Addr} (h : HAt C H a s ex) (st : Stp ps H ps' H') (hd : ∀ c ∈ a.fp, c ∉ ps) : ∀ c ∈ a.fp, c ∉ ps' := fun c hc => by
  obtain ⟨o, ho⟩ := h.live c hc
  exact st.out ho (hd c hc)
theorem HAt.free (h : HAt C H a s ex) {c : Addr} (hc : H c = none) : c ∉ a.fp := fun z => by
  obtain ⟨o, ho⟩ := h.live c z
  rw [ho] at hc; cases hc
theorem HAt.apart (h : HAt C H a s ex) : a.p ≠ a.q ∧ a.p ≠ a.h ∧ a.p ≠ a.k ∧ a.p ≠ a.g ∧ a.q ≠ a.h ∧ a.q ≠ a.k ∧ a.q ≠ a.g ∧ a.h ≠ a.k ∧ a.h ≠ a.g ∧ a.k ≠ a.g := by
  obtain ⟨⟨dx, h1⟩, ⟨ys, h2, _⟩, ⟨kvs, h3, _⟩, ⟨kvs', _, h4, _⟩, h5, h6, h7, _, _⟩ := h
  exact ⟨ne_of h1 h2 (by intro z; cases z), ne_of h1 h3 (by intro z; cases z), ne_of h1 h4 (by intro z; cases z), ne_of h1 h5 (by intro z; cases z), ne_of h2 h3 (by intro z; cases z), ne_of h2 h4 (by intro z; cases z), h6, h7, ne_of h3 h5 (by intro z; cases z), ne_of h4 h5 (by intro z; cases z)⟩
end
def HS.small (s : HS) : Prop := s.heard.length + s.held.length + s.lost.length < 3000
def hs0 : HS := ⟨[], [], []⟩
section
variable (C : Addr) (ex : List (Str × V))
def spInitH : Sp := fun vs H Q _ => ∃ (p dx : Addr), vs = [.ref p] ∧ H p = some (.ins C dx []) ∧ ∀ a H', a.p = p → HAt C H' a hs0 [] → Stp [p] H a.fp H' → Q .non H'
def spHear : Sp := fun vs H Q _ => ∃ a s ex, vs = [.ref (HA.p a)] ∧ HAt C H a s ex ∧ Diff s.held ∧ s.small ∧
  ∀ l ys found H', HAt C H' a (hearS s) ex → (hearS s).heard = s.heard ++ found → Stp a.fp H (l :: a.fp) H' → H l = none → l ∉ a.fp → H' l = some (.lst ys) → Ms H' ys found → Q (.ref l) H'
def spRefuse : Sp := fun vs H Q _ => ∃ a s ex b xs ms, vs = [.ref (HA.p a), .ref b] ∧ HAt C H a s ex ∧ H b = some (.lst xs) ∧ Ms H xs ms ∧ ms.length < 1000 ∧ Fits s ms ∧ (∀ m ∈ ms, mOk m) ∧ ∀ H', Same H H' → Q .non H'
def spTakeAll : Sp := fun vs H Q _ => ∃ a s ex b xs ms, vs = [.ref (HA.p a), .ref b] ∧ HAt C H a s ex ∧ H b = some (.lst xs) ∧ Ms H xs ms ∧ ms.length < 1000 ∧ Fits s ms ∧ (∀ m ∈ ms, mOk m) ∧ Diff s.held ∧ s.heard.length + s.held.length + s.lost.length < 1000 ∧
  ∀ l ys found H', HAt C H' a (takeS s ms) ex → (takeS s ms).heard = s.heard ++ found → Stp a.fp H (l :: a.fp) H' → H l = none → l ∉ a.fp → H' l = some (.lst ys) → Ms H' ys found → Q (.ref l) H'
def spHeard : Sp := fun vs H Q _ => ∃ a s ex, vs = [.ref (HA.p a)] ∧ HAt C H a s ex ∧ ∀ l ys, H l = none → Ms (upd H l (.lst ys)) ys s.heard → Q (.ref l) (upd H l (.lst ys))
def spEarly : Sp := fun vs H Q _ => ∃ a s ex, vs = [.ref (HA.p a)] ∧ HAt C H a s ex ∧ s.held.length < 64 ∧ ∀ l, H l = none → Q (.ref l) (upd H l (.lst ((sortI (s.held.map (·.n))).map V.int)))
end
end L2
namespace L2
open PySem PySem.Spec PyProof.Rows PySem.W
theorem Rows.at {R : List Msg} (h : Rows R) {m : Msg} (hm : m ∈ R) : ∃ (i : Nat) (hi : i < R.length), R[i] = m ∧ m.n = (i : Int) + 1 := by
  obtain ⟨i, hi, e⟩ := List.getElem_of_mem hm
  exact ⟨i, hi, e, by rw [← e]; exact h i hi⟩
structure HearK (K : PySem.W.Frag) (mg : Str → Option Value) (C : Addr) : Prop extends HearC K C where
  mg_Hearer : mg "Hearer" = some (.ref C)
end L2
namespace L2
open PySem PySem.Spec PyProof.Rows PySem.W
structure LA where
  m : Addr
  q : Addr
  h : Addr
  g : Addr
def LA.fp (a : LA) : List Addr := [a.m, a.q, a.h, a.g]
end L2
namespace L2
open PySem PySem.Spec PyProof.Rows PySem.W
theorem pass_none {X : Cx} : Passes (CXF X.prog X.w) X E0 := by
  rintro pins σ H s e s' I ⟨a, cls, H', _, _, _, _, _, h⟩
  exact h.elim
structure WS where
  room : Int
  way : List Msg
  rows : List Msg
  arr : Int
end L2
namespace L2
open PySem PySem.Spec PyProof.Rows PySem.W
theorem Stp.fr {f f' g : List Addr} {H H' : Hp} (st : Stp f H f' H') : Stp (f ++ g) H (f' ++ g) H' :=
  st.weak (fun c h => List.mem_append_left _ h) fun c h => (List.mem_append.mp h).elim .inl fun z => .inr (List.mem_append_right _ z)
theorem Stp.tl {f f' : List Addr} {l : Addr} {H H' : Hp} (st : Stp f H (l :: f') H') : Stp f H f' H' := ⟨st.1, st.2, fun c hc => st.3 c (List.mem_cons_of_mem _ hc)⟩
end L2
namespace L2
open PySem PySem.Spec PyProof.Rows PySem.W
def Itz (K : PySem.W.Frag) (l1 l2 : Addr) : It :=
  ⟨fun i H => ∃ xs ys x y, SqL K H l1 xs ∧ SqL K H l2 ys ∧ xs[i]? = some x ∧ ys[i]? = some y,
   fun i H v H' => ∃ T x y, v = .ref T ∧ H T = none ∧ H' = upd H T (.tup [x, y]) ∧ (∀ xs, SqL K H l1 xs → xs[i]? = some x) ∧ (∀ ys, SqL K H l2 ys → ys[i]? = some y),
   fun i H => ∃ xs ys, SqL K H l1 xs ∧ SqL K H l2 ys ∧ min xs.length ys.length = i⟩
section
variable {X : Cx} {pins : List (Addr × Obj)} {σ : St} {H : Hp} {s : Shared}
theorem Inv.turnedL {h' : Heap} {t' : Nat} {ch : List Addr} (I : Inv X pins σ H s) (k : ∀ b o, b ∉ ch → s.heap.get? b = some o → h'.get? b = some o) (hf : ∀ b ∈ ch, FpOk X pins H b) : Inv X pins σ H { s with heap := h', toks := t' } := by
  have nt : ∀ b u, H b = some u → b ∉ ch := fun b u q z => by rw [(hf b z).1] at q; cases q
  refine I.step (g' := s.gens) (d' := s.drawn) (ch := ch) (fun b hb => ?_) (fun b o _ _ hc q _ => k b o hc q) (fun b o _ _ hc q _ => ⟨o.slots, k b o hc q⟩) (fun _ _ _ _ n => n) (fun b o hc q => ⟨o, k b o hc q⟩)
    (fun _ _ q => q) (fun _ _ _ q => q) (fun b ps q => ⟨#[], by rw [q]; simp⟩) (fun m hm => ?_) (fun b u q => ?_) I.bare
  · obtain ⟨e0, e1, e2, e3, e4, e5⟩ := hf b hb
    exact ⟨e3, e1, e4, e5⟩
  · obtain ⟨o, es, ep, ho, r⟩ := hm
    exact ⟨o, es, ep, k _ _ (fun z => (hf _ z).2.1 rfl) ho, r⟩
  · refine (I.hok b u q).stay (fun c v hc z => ?_) (fun _ z => z) fun _ _ z => z
    rcases hc with rfl | hc
    · exact k _ _ (nt _ _ q) z
    · exact k _ _ (nt _ _ hc) z
end
theorem addr_ne {a b : Nat} (h : a < b ∨ b < a) : @Ne Addr a b := fun e => by
  have : a = b := e
  omega
def ZipSt (z TI TO i1 i2 l1 l2 : Addr) (i : Nat) (h : Heap) : Prop := IsZip h z TI TO .none ∧ IsPair h TI (.ref i1) (.ref i2) ∧ (∃ a b, IsPair h TO a b) ∧ h.IsListIter i1 l1 i ∧ h.IsListIter i2 l2 i
theorem turn_zip {P : Program} {w : World} {K : PySem.W.Frag} {elts : List Expr} {k : Nat} {pos : Pos} (z TI TO i1 i2 l1 l2 : Addr) (D : ZipApart z TI TO i1 i2 l1 l2) : Turn P w K (.Tuple elts k pos) (Itz K l1 l2) [z, TI, TO, i1, i2] z (ZipSt z TI TO i1 i2 l1 l2) where
  mem := by simp
  obj := fun i h st b hb => by
    obtain ⟨hz, hTI, ⟨a, b', hTO⟩, ⟨o1, ho1, _, hd1⟩, ⟨o2, ho2, _, hd2⟩⟩ := st
    simp only [List.mem_cons, List.not_mem_nil, or_false] at hb
    rcases hb with rfl | rfl | rfl | rfl | rfl
    · exact ⟨_, hz, fun v z => by cases z⟩
    · exact ⟨_, hTI, fun v z => by cases z⟩
    · exact ⟨_, hTO, fun v z => by cases z⟩
    · exact ⟨o1, ho1, fun v z => by rw [hd1] at z; cases z⟩
    · exact ⟨o2, ho2, fun v z => by rw [hd2] at z; cases z⟩
  keep := fun i h h' st k => by
    obtain ⟨hz, hTI, ⟨a, b', hTO⟩, ⟨o1, ho1, r1⟩, ⟨o2, ho2, r2⟩⟩ := st
    exact ⟨k z (by simp) _ hz, k TI (by simp) _ hTI, ⟨a, b', k TO (by simp) _ hTO⟩, ⟨o1, k i1 (by simp) _ ho1, r1⟩, ⟨o2, k i2 (by simp) _ ho2, r2⟩⟩
  item := by
    intro X hP hw hK hc i pins s σ H E I hf st hg
    subst hP hw hK
    obtain ⟨xs, ys, x, y, hq1, hq2, hx, hy⟩ := hg
    obtain ⟨its1, rv1, p1, hz1⟩ := I.list hq1
    obtain ⟨its2, rv2, p2, hz2⟩ := I.list hq2
    obtain ⟨u1, hu1, ru1⟩ := rv1.get hx
    obtain ⟨u2, hu2, ru2⟩ := rv2.get hy
    obtain ⟨hz, hTI, hTO, hi1, hi2⟩ := st
    have W := WalksT.zip2 (prog := X.prog) (w := X.w) (A := X.A) (I.ok.hd hc) z TI TO i1 i2 l1 l2 D its1.toArray its2.toArray
    have hin : i < min its1.toArray.size its2.toArray.size := by
      have a1 := (List.getElem?_eq_some_iff.mp hu1).1
      have a2 := (List.getElem?_eq_some_iff.mp hu2).1
      simp only [List.size_toArray]
      omega
    refine W.item i s _ _ hin ⟨hz, hTI, hTO, hi1, hi2, p1.isList, p2.isList⟩ fun T vals h' tk hPt hT hIs hMid kk => ?_
    obtain ⟨x1, y1, hPx, hPy, rfl⟩ := hPt
    have hx1 : x1 = u1 := by
      have q : its1.toArray[i]? = some x1 := hPx
      rw [show its1.toArray[i]? = its1[i]? by simp, hu1] at q
      exact (Option.some.inj q).symm
    have hy1 : y1 = u2 := by
      have q : its2.toArray[i]? = some y1 := hPy
      rw [show its2.toArray[i]? = its2[i]? by simp, hu2] at q
      exact (Option.some.inj q).symm
    subst hx1 hy1
    refine ⟨_, rfl, W.go elts k pos i T _ _ _ hMid fun h2 st2 kk2 => ?_⟩
    have kall : ∀ b o, b ∉ [z, TO, i1, i2] → s.heap.get? b = some o → h2.get? b = some o := fun b o hb q => kk2 b o (fun e => hb (by simp at e ⊢; simp [e])) (kk b o hb q)
    have I2 : Inv X pins σ H { s with heap := h2, toks := tk } := I.turnedL kall (fun b hb => hf b (by simp only [List.mem_cons, List.not_mem_nil, or_false] at hb ⊢; rcases hb with e | e | e | e <;> simp [e]))
    have hTe : T ∉ [z, TO, i1, i2] := W.apart i T h' hMid
    have hTn : H T = none := I.hok.fresh hT
    have hTI' : T ≠ TI := fun e => by
      have q : s.heap.get? TI = some _ := hTI
      exact absurd (Heap.lt_size q) (by rw [← e]; exact Nat.not_lt.mpr hT)
    obtain ⟨oT, hoT, hcT, nT, hdT⟩ := hIs
    have hoT2 := kk2 T oT (fun e => hTe (by simp at e ⊢; simp [e])) hoT
    have I3 := I2.track (D := T) (o := .tup [x, y]) (I.fpOk hT hTn) ⟨(show 2 ≤ sizeLine by decide), [x1, y1], .cons ru1 (.cons ru2 .nil), oT, hoT2, hcT, nT, hdT⟩
    refine ⟨.ref T, _, I3, rfl, ⟨T, x, y, rfl, hTn, rfl, fun zs hy => by rw [I.list_inj hy hq1]; exact hx, fun zs hy' => by rw [I.list_inj hy' hq2]; exact hy⟩, ⟨st2.1, st2.2.1, st2.2.2.1, st2.2.2.2.1, st2.2.2.2.2.1⟩, fun b hb => ?_⟩
    have hTb : b ≠ T := fun e => by
      rw [e] at hb
      simp only [List.mem_cons, List.not_mem_nil, or_false] at hb hTe
      rcases hb with e | e | e | e | e
      · exact hTe (.inl e)
      · exact hTI' e
      · exact hTe (.inr (.inl e))
      · exact hTe (.inr (.inr (.inl e)))
      · exact hTe (.inr (.inr (.inr e)))
    rw [upd_ne hTb]
    exact (hf b hb).1
  done := by
    intro X hP hw hK hc i pins s σ H E I hf st hg
    subst hP hw hK
    obtain ⟨xs, ys, hq1, hq2, hx⟩ := hg
    obtain ⟨its1, rv1, p1, hz1⟩ := I.list hq1
    obtain ⟨its2, rv2, p2, hz2⟩ := I.list hq2
    obtain ⟨hz, hTI, hTO, hi1, hi2⟩ := st
    have W := WalksT.zip2 (prog := X.prog) (w := X.w) (A := X.A) (I.ok.hd hc) z TI TO i1 i2 l1 l2 D its1.toArray its2.toArray
    have hin : min its1.toArray.size its2.toArray.size = i := by
      rw [← hx, rv1.length, rv2.length]; simp
    refine W.done s _ _ (by rw [hin]; exact ⟨hz, hTI, hTO, hi1, hi2, p1.isList, p2.isList⟩) fun h' tk kk => ⟨rfl, I.turnedL (fun b o hb q => kk b o hb q) (fun b hb => hf b (by simp only [List.mem_cons, List.not_mem_nil, or_false] at hb ⊢; rcases hb with e | e | e | e <;> simp [e]))⟩
  self := fun A i s Q E st h => wpAny_pyIter_zip st.1 h
def iZip (K : PySem.W.Frag) (ta : TA) : TI := fun σ H R => ta σ H fun vs H1 => ∃ a b, vs = [.ref a, .ref b] ∧ (∃ xs, SqL K H1 a xs) ∧ (∃ ys, SqL K H1 b ys) ∧ R (Itz K a b) H1
section
variable {X : Cx} {elts : List Expr} {k : Nat} {tpos : Pos}
theorem pi_zip (K : PySem.W.Frag) {a b : Expr} {ta : TA} {p pos : Pos} (hm : X.mg "zip" = none) (ha : PA X [a, b] ta) (hK : X.K = K := by rfl) (hg : Gl X "zip" := by rfl) (hs : starEach [a, b] X.env = [(false, eval a X.env), (false, eval b X.env)] := by rfl) (hs2 : starEach [b] X.env = [(false, eval b X.env)] := by rfl) :
    PI X (.Tuple elts k tpos) (.Call (.Name "zip" p) [a, b] [] pos) (iZip K ta) := by
  subst hK
  intro pins s σ H R I h
  refine Call_ (ld_blt I hg hm boot_zip (PyProof.Rows.callWith_type1 (thn (ha pos pins s σ H _ I h) fun us s1 ⟨vs, H1, I1, r1, q1⟩ => ?_) (by rw [hs, hs2]) (by rw [hs2]; rfl)))
  obtain ⟨l1, l2, e, ⟨xs, hq1⟩, ⟨ys, hq2⟩, q⟩ := q1
  subst e
  cases r1 with
  | cons r rr =>
    cases rr with
    | cons r' rr =>
      cases rr
      cases r
      cases r'
      obtain ⟨its1, rv1, pl1, hz1⟩ := I1.list hq1
      obtain ⟨its2, rv2, pl2, hz2⟩ := I1.list hq2
      have lt1 : l1 < s1.heap.objs.size := by obtain ⟨o, ho, _⟩ := pl1.isList; exact Heap.lt_size ho
      have lt2 : l2 < s1.heap.objs.size := by obtain ⟨o, ho, _⟩ := pl2.isList; exact Heap.lt_size ho
      refine call_zip_2 pl1.isList pl2.isList fun h2 hz hTI hTO hi1 hi2 hsz kk => ?_
      refine wpAny_pyIter_zip hz ?_
      have I2 : Inv X pins σ H1 { s1 with heap := h2 } := I1.kept (t' := s1.toks) kk
      refine ⟨s1.heap.objs.size + 4, [s1.heap.objs.size + 4, s1.heap.objs.size + 2, s1.heap.objs.size + 3, s1.heap.objs.size, s1.heap.objs.size + 1], _, _, H1, rfl, I2,
        turn_zip _ _ _ _ _ l1 l2 ⟨addr_ne (by omega), addr_ne (by omega), addr_ne (by omega), addr_ne (by omega), addr_ne (by omega), addr_ne (by omega), addr_ne (by omega), addr_ne (by omega), addr_ne (by omega), addr_ne (by omega), addr_ne (.inl (Nat.lt_add_right 4 lt1)), addr_ne (.inl (Nat.lt_add_right 3 lt1)), addr_ne (.inl lt1), addr_ne (.inl (Nat.lt_add_right 1 lt1)), addr_ne (.inl (Nat.lt_add_right 4 lt2)), addr_ne (.inl (Nat.lt_add_right 3 lt2)), addr_ne (.inl lt2), addr_ne (.inl (Nat.lt_add_right 1 lt2))⟩, ⟨hz, hTI, ⟨_, _, hTO⟩, hi1, hi2⟩, fun b hb => ?_, q⟩
      have hle : s1.heap.objs.size ≤ b := by
        simp only [List.mem_cons, List.not_mem_nil, or_false] at hb
        rcases hb with e | e | e | e | e
        · rw [e]; exact Nat.le_add_right _ _
        · rw [e]; exact Nat.le_add_right _ _
        · rw [e]; exact Nat.le_add_right _ _
        · rw [e]; exact Nat.le_refl _
        · rw [e]; exact Nat.le_add_right _ _
      exact I1.fpOk hle (I1.hok.fresh hle)
end
end L2
namespace L2
open PySem PySem.Spec PyProof.Rows PySem.W
inductive JStep where
  | w (m : Msg)
  | t (a b : Int)
structure JS where
  g : Int
  on : List Msg
  row : List Msg
  tr : Int
  st : List JStep
  sb : List JStep
structure JA where
  p : Addr
  o : Addr
  r : Addr
  t : Addr
  b : Addr
def JA.fp (a : JA) : List Addr := [a.p, a.o, a.r, a.t, a.b]
end L2
namespace L2
open PySem PySem.Spec PyProof.Rows PySem.W
theorem HasL.one {H : Hp} {xs : List V} {d : PyData} (h : HasL H xs [d]) : ∃ y, xs = [y] ∧ Has H y d := by
  unfold HasL at h
  obtain ⟨x, r, rfl, hx, hr⟩ := h
  unfold HasL at hr
  subst hr
  exact ⟨x, rfl, hx⟩
end L2
namespace L2
open PySem PySem.Spec PyProof.Rows PySem.W
def Ris (xs : Array Nat) : Prop := ∀ (i j : Nat) (hi : i < xs.size) (hj : j < xs.size), i < j → xs[i] < xs[j]
theorem Ris.le {xs : Array Nat} (h : Ris xs) {i j : Nat} (hi : i < xs.size) (hj : j < xs.size) (e : i ≤ j) : xs[i] ≤ xs[j] := by
  rcases Nat.lt_or_eq_of_le e with z | z
  · exact Nat.le_of_lt (h i j hi hj z)
  · subst z; exact Nat.le_refl _
theorem below_go {xs : Array Nat} {j : Nat} (hr : Ris xs) : ∀ (fuel lo hi : Nat), hi - lo ≤ fuel → lo ≤ hi → hi ≤ xs.size → (∀ i (h : i < xs.size), i < lo → xs[i] < j) → (∀ i (h : i < xs.size), hi ≤ i → j ≤ xs[i]) →
    SetTable.below.go xs j fuel lo hi ≤ xs.size ∧ (∀ i (h : i < xs.size), i < SetTable.below.go xs j fuel lo hi → xs[i] < j) ∧ (∀ i (h : i < xs.size), SetTable.below.go xs j fuel lo hi ≤ i → j ≤ xs[i])
  | 0, lo, hi, hf, hl, hs, h1, h2 => by
    have e : hi = lo := by omega
    subst e
    exact ⟨hs, h1, h2⟩
  | fuel + 1, lo, hi, hf, hl, hs, h1, h2 => by
    unfold SetTable.below.go
    by_cases z : lo < hi
    · rw [if_pos z]
      have hm : (lo + hi) / 2 < xs.size := by omega
      dsimp only
      rw [Array.getD_eq_getD_getElem?, Array.getElem?_eq_getElem hm, Option.getD_some]
      by_cases y : xs[(lo + hi) / 2] < j
      · rw [if_pos y]
        exact below_go hr fuel _ _ (by omega) (by omega) hs (fun i h hi => Nat.lt_of_le_of_lt (hr.le h hm (by omega)) y) h2
      · rw [if_neg y]
        exact below_go hr fuel _ _ (by omega) (by omega) (by omega) h1 (fun i h hi => Nat.le_trans (Nat.not_lt.mp y) (hr.le hm h hi))
    · rw [if_neg z]
      have e : hi = lo := by omega
      subst e
      exact ⟨hs, h1, h2⟩
theorem below_spec {xs : Array Nat} (hr : Ris xs) (j : Nat) : SetTable.below xs j ≤ xs.size ∧ (∀ i (h : i < xs.size), i < SetTable.below xs j → xs[i] < j) ∧ (∀ i (h : i < xs.size), SetTable.below xs j ≤ i → j ≤ xs[i]) :=
  below_go hr xs.size 0 xs.size (by omega) (Nat.zero_le _) (Nat.le_refl _) (fun i h z => by omega) (fun i h z => by omega)
theorem ris_list {xs : Array Nat} (h : xs.toList.Pairwise (· < ·)) : Ris xs := fun i j hi hj e => by
  have := List.pairwise_iff_getElem.mp h i j (by simpa using hi) (by simpa using hj) e
  simpa using this
theorem list_ris {xs : Array Nat} (h : Ris xs) : xs.toList.Pairwise (· < ·) := List.pairwise_iff_getElem.mpr fun i j hi hj e => by
  have := h i j (by simpa using hi) (by simpa using hj) e
  simpa using this
theorem ins_ris {xs : Array Nat} (hr : Ris xs) {j : Nat} (hj : xs[SetTable.below xs j]? ≠ some j) : Ris (SetTable.insertAt xs (SetTable.below xs j) j) := by
  obtain ⟨h0, h1, h2⟩ := below_spec hr j
  refine ris_list ?_
  rw [SetTable.toList_insertAt]
  generalize SetTable.below xs j = p at *
  have hl := list_ris hr
  refine List.pairwise_append.mpr ⟨hl.sublist (List.take_sublist _ _), List.pairwise_cons.mpr ⟨fun y hy => ?_, hl.sublist (List.drop_sublist _ _)⟩, fun x hx y hy => ?_⟩
  · obtain ⟨i, hi, e⟩ := List.getElem_of_mem hy
    rw [List.getElem_drop, Array.getElem_toList] at e
    rw [List.length_drop, Array.length_toList] at hi
    have z := h2 (p + i) (by omega) (by omega)
    rcases Nat.lt_or_eq_of_le z with w | w
    · rw [← e]; exact w
    · exfalso
      have hp := h2 p (by omega) (Nat.le_refl _)
      have hq := hr.le (i := p) (j := p + i) (by omega) (by omega) (by omega)
      refine hj ?_
      rw [Array.getElem?_eq_getElem (by omega)]
      congr 1; omega
  · obtain ⟨i, hi, e⟩ := List.getElem_of_mem hx
    rw [List.length_take, Array.length_toList] at hi
    rw [List.getElem_take, Array.getElem_toList] at e
    have hxj : x < j := by rw [← e]; exact h1 i (by omega) (by omega)
    rcases List.mem_cons.mp hy with rfl | hy
    · exact hxj
    · obtain ⟨k, hk, e2⟩ := List.getElem_of_mem hy
      rw [List.getElem_drop, Array.getElem_toList] at e2
      rw [List.length_drop, Array.length_toList] at hk
      have := h2 (p + k) (by omega) (by omega)
      omega
structure OkT (t : SetTable) (n : Nat) : Prop where
  fits : t.fits n = true
  ris : Ris t.place
  nd : t.dummies = #[]
structure OkW (t : SetTable) (n : Nat) : Prop where
  fits : t.fits n = true
  ris : Ris t.place
theorem has_empty (j : Nat) : SetTable.has #[] j = false := rfl
theorem probe_empty {t : SetTable} (hd : t.dummies = #[]) {f : Nat → Int} {h : Int} : ∀ (fuel : Nat) (p : SetTable.Probe) (j : Nat) (d : Option Nat), p.dummy = none → SetTable.probe.go t f h fuel p = some (.empty j d) → d = none ∧ t.place[SetTable.below t.place j]? ≠ some j
  | 0, p, j, d, _, e => by unfold SetTable.probe.go at e; cases e
  | fuel + 1, p, j, d, hp, e => by
    unfold SetTable.probe.go at e
    have adv : (t.advance p).dummy = none := by
      unfold SetTable.advance
      split <;> exact hp
    cases hs : t.slot p.j with
    | empty =>
      rw [hs] at e
      dsimp only at e
      have e' := Option.some.inj e
      injection e' with e1 e2
      subst e1
      refine ⟨by rw [← e2]; exact hp, fun z => ?_⟩
      unfold SetTable.slot at hs
      dsimp only at hs
      rw [z] at hs
      simp at hs
    | dummy =>
      exfalso
      unfold SetTable.slot at hs
      dsimp only at hs
      rw [hd, has_empty] at hs
      split at hs
      · cases hs
      · simp at hs
    | live i =>
      rw [hs] at e
      dsimp only at e
      split at e
      · cases e
      · exact probe_empty hd fuel _ j d adv e
theorem free_slot {t : SetTable} (hd : t.dummies = #[]) {h : Int} {j : Nat} {b : Bool} (e : t.freeSlot h = some (j, b)) : b = false ∧ t.place[SetTable.below t.place j]? ≠ some j := by
  unfold SetTable.freeSlot at e
  split at e
  · rename_i j' d e'
    obtain ⟨rfl, h2⟩ := probe_empty hd _ _ j' d rfl e'
    cases e
    exact ⟨rfl, h2⟩
  · cases e
theorem range_ris (n : Nat) : Ris (Array.range n) := fun i j hi hj e => by simpa using e
theorem okT_standIn (t : SetTable) (n : Nat) : OkT (t.standIn n) n := ⟨SetTable.standIn_fits t n, range_ris n, rfl⟩
theorem okT_or {t : SetTable} {n : Nat} (hr : Ris t.place) (hd : t.dummies = #[]) : OkT (t.orStandIn n) n := by
  unfold SetTable.orStandIn
  split
  · rename_i h; exact ⟨h, hr, hd⟩
  · exact okT_standIn t n
theorem orStandIn_led (t : SetTable) (n : Nat) : (t.orStandIn n).led = t.led := by
  unfold SetTable.orStandIn
  split <;> rfl
theorem layNew_ok {t : SetTable} {es : Array (Int × Value)} (ok : OkT t es.size) (h : Int) (x : Value) : OkT (layNew t es h x).2.1 (layNew t es h x).1.size ∧ (layNew t es h x).2.1.led = t.led := by
  unfold layNew
  split
  · rename_i j b e
    obtain ⟨rfl, h2⟩ := free_slot ok.nd e
    refine ⟨okT_or (ins_ris ok.ris h2) ?_, orStandIn_led _ _⟩
    show (if SetTable.has t.dummies j = true then _ else t.dummies) = #[]
    rw [ok.nd, has_empty, if_neg (by decide)]
  · exact ⟨by simpa using okT_standIn t (es.size + 1), rfl⟩
theorem range_pairs {f : Nat → Option Nat} (m : Nat) : ((List.range m).filterMap fun j => (f j).map (j, ·)).Pairwise (fun a b => a.1 < b.1) := by
  refine List.Pairwise.filterMap _ (R := (· < ·)) (fun a b hab c hc d hd => ?_) List.pairwise_lt_range
  obtain ⟨_, _, rfl⟩ := Option.map_eq_some_iff.mp hc
  obtain ⟨_, _, rfl⟩ := Option.map_eq_some_iff.mp hd
  exact hab
theorem laid_ris {mask finger moves : Nat} {led plain : Bool} {hs : Array Int} {t : SetTable} {o : Array Nat} (e : SetTable.laid mask finger moves led plain hs = some (t, o)) : Ris t.place ∧ t.dummies = #[] ∧ t.led = led := by
  unfold SetTable.laid at e
  cases h : SetTable.layClean mask hs with
  | none => rw [h] at e; cases e
  | some owner =>
    rw [h] at e
    have e' := Option.some.inj e
    injection e' with e1 e2
    subst e1
    refine ⟨ris_list ?_, rfl, rfl⟩
    show (((List.range (mask + 1)).filterMap fun j => (owner.getD j none).map (j, ·)).map (·.1)).Pairwise (· < ·)
    exact List.pairwise_map.mpr (range_pairs (mask + 1))
theorem relayAll_ok (t : SetTable) (es : Array (Int × Value)) (wanted : Nat) : OkT (relayAll t es wanted).2.1 (relayAll t es wanted).1.size ∧ (relayAll t es wanted).2.1.led = t.led := by
  unfold relayAll
  split
  · rename_i t' order e
    obtain ⟨h1, h2, h3⟩ := laid_ris e
    dsimp only
    split
    · rename_i hc
      exact ⟨⟨(Bool.and_eq_true_iff.mp hc).2, h1, h2⟩, h3⟩
    · exact ⟨okT_standIn t es.size, rfl⟩
  · exact ⟨okT_standIn t es.size, rfl⟩
theorem okT_plain {t : SetTable} {n : Nat} (h : OkT t n) : OkT { t with plain := false } n := ⟨h.fits, h.ris, h.nd⟩
theorem okT_fresh (led : Bool) : OkT (.fresh 0 0 led) 0 := ⟨rfl, fun i j hi _ _ => absurd hi (Nat.not_lt_zero _), rfl⟩
end L2
namespace L2
open PySem PySem.Spec PyProof.Rows PySem.W
section
variable {prog : Program} {w : World} {K : Type} [DecidableEq K] (knd : KeyKind prog w K)
def Apart (e f : Int × Value) : Prop := ∀ k, knd.is k e.2 = true → knd.is k f.2 = true → False
structure KObj (o : Obj) (es : Array (Int × Value)) (ep : Nat) (t : SetTable) (S : K → Prop) : Prop where
  ex : o.ExactSet
  data : o.data = .set es ep t
  el : ElemsOf knd es.toList
  mem : ∀ k, S k ↔ ∃ e ∈ es.toList, knd.is k e.2 = true
  apart : es.toList.Pairwise (Apart knd)
  few : es.size < scanBound
  ok : OkT t es.size
  led : t.led = !w.params.followText "set-order"
def KSet (h : Heap) (a : Addr) (S : K → Prop) (n : Nat) : Prop := ∃ o es ep t, h.get? a = some o ∧ KObj knd o es ep t S ∧ es.size ≤ n
structure KIt (o : Obj) (es : Array (Int × Value)) (ep : Nat) (t : SetTable) (S : K → Prop) : Prop where
  ex : o.ExactSet
  data : o.data = .set es ep t
  el : ElemsOf knd es.toList
  mem : ∀ k, S k ↔ ∃ e ∈ es.toList, knd.is k e.2 = true
  apart : es.toList.Pairwise (Apart knd)
  few : es.size < scanBound
  ok : OkW t es.size
  led : t.led = !w.params.followText "set-order"
structure ItO (w : World) (o : Obj) (es : Array (Int × Value)) (ep : Nat) (t : SetTable) : Prop where
  ex : o.ExactSet
  data : o.data = .set es ep t
  few : es.size < scanBound
  ok : OkW t es.size
  led : t.led = !w.params.followText "set-order"
def KSetI (h : Heap) (a : Addr) (S : K → Prop) (n : Nat) : Prop := ∃ o es ep t, h.get? a = some o ∧ KIt knd o es ep t S ∧ es.size ≤ n
variable {knd} {A : Around} {E : Value → Shared → Prop} {s : Shared}
theorem KObj.it {o : Obj} {es : Array (Int × Value)} {ep : Nat} {t : SetTable} {S : K → Prop} (x : KObj knd o es ep t S) : KIt knd o es ep t S := ⟨x.ex, x.data, x.el, x.mem, x.apart, x.few, ⟨x.ok.fits, x.ok.ris⟩, x.led⟩
theorem KIt.o {o : Obj} {es : Array (Int × Value)} {ep : Nat} {t : SetTable} {S : K → Prop} (x : KIt knd o es ep t S) : ItO w o es ep t := ⟨x.ex, x.data, x.few, x.ok, x.led⟩
theorem KSet.it {h : Heap} {a : Addr} {S : K → Prop} {n : Nat} (x : KSet knd h a S n) : KSetI knd h a S n := let ⟨o, es, ep, t, ho, r, z⟩ := x; ⟨o, es, ep, t, ho, r.it, z⟩
theorem KSetI.at' {h h' : Heap} {a : Addr} {S : K → Prop} {n : Nat} (x : KSetI knd h a S n) (e : ∀ o, h.get? a = some o → h'.get? a = some o) : KSetI knd h' a S n := let ⟨o, es, ep, t, ho, r⟩ := x; ⟨o, es, ep, t, e _ ho, r⟩
theorem apart_symm {e f : Int × Value} (h : Apart knd e f) : Apart knd f e := fun k a b => h k b a
theorem KSet.at' {h h' : Heap} {a : Addr} {S : K → Prop} {n : Nat} (x : KSet knd h a S n) (e : ∀ o, h.get? a = some o → h'.get? a = some o) : KSet knd h' a S n := let ⟨o, es, ep, t, ho, r⟩ := x; ⟨o, es, ep, t, e _ ho, r⟩
theorem KObj.store {h : Heap} {a : Addr} {o : Obj} {es : Array (Int × Value)} {ep : Nat} {t : SetTable} {S : K → Prop} (x : KObj knd o es ep t S) (ho : h.get? a = some o) {es' : Array (Int × Value)} {t' : SetTable} {S' : K → Prop}
    (hel : ElemsOf knd es'.toList) (hmem : ∀ k, S' k ↔ ∃ e ∈ es'.toList, knd.is k e.2 = true) (hap : es'.toList.Pairwise (Apart knd)) (hb : es'.size < scanBound) (hok : OkT t' es'.size) (hl : t'.led = !w.params.followText "set-order") :
    (h.update a (Obj.putSet es' t')).get? a = some { o with data := .set es' (ep + 1) t' } ∧ KObj knd { o with data := .set es' (ep + 1) t' } es' (ep + 1) t' S' := by
  have hg : (h.update a (Obj.putSet es' t')).get? a = some { o with data := .set es' (ep + 1) t' } := by
    have := Heap.get?_update_self (Obj.putSet es' t') ho (by rw [putSet_of es' t' x.data]; rfl)
    rw [putSet_of es' t' x.data] at this; exact this
  exact ⟨hg, x.ex, rfl, hel, hmem, hap, hb, hok, hl⟩
theorem kset_tail {g : Bool → Sem Unit} (hg : ∀ (b : Bool) (s₁ : Shared) (Q' : Unit → Shared → Prop), Q' () s₁ → wpAny (model prog w) A (g b) Q' E s₁)
    {a : Addr} {o : Obj} {es : Array (Int × Value)} {ep : Nat} {t : SetTable} {S : K → Prop} (ho : s.heap.get? a = some o) (x : KObj knd o es ep t S)
    {es1 : Array (Int × Value)} {t2 : SetTable} {S' : K → Prop} (hel1 : ElemsOf knd es1.toList) (hmem1 : ∀ k', S' k' ↔ ∃ e ∈ es1.toList, knd.is k' e.2 = true) (hap1 : es1.toList.Pairwise (Apart knd))
    (hb1 : es1.size < scanBound) (hok2 : OkT t2 es1.size) (hl : t2.led = !w.params.followText "set-order") {wasDummy : Bool} {R : Option Bool → Shared → Prop}
    (h : ∀ h', Heap.SameBut a s.heap h' → KSet knd h' a S' es1.size → R (some true) { s with heap := h' }) :
    wpAny (model prog w) A (do
        storeSet a es1 t2
        if (!wasDummy && t2.tooFull) = true then do
            g (relayAll t2 es1 (SetTable.grown es1.size)).2.2
            storeSet a (relayAll t2 es1 (SetTable.grown es1.size)).1 (relayAll t2 es1 (SetTable.grown es1.size)).2.1
            pure (some true)
          else pure (some true)) R E s := by
  refine wpAny_bind (wpAny_storeSet_of ho x.data ?_ (fits_of_scanBound hb1))
  obtain ⟨ho1, x1⟩ := x.store ho hel1 hmem1 hap1 hb1 hok2 hl
  have hsb1 := Heap.SameBut.update s.heap a (Obj.putSet es1 t2)
  split
  · have hp := relayAll_perm t2 es1 (SetTable.grown es1.size)
    have hfr := relayAll_ok t2 es1 (SetTable.grown es1.size)
    generalize hRl : relayAll t2 es1 (SetTable.grown es1.size) = Rl at hp hfr ⊢
    obtain ⟨es2, t3, gave2⟩ := Rl
    dsimp only at hp hfr ⊢
    have hel2 : ElemsOf knd es2.toList := hel1.perm hp
    have hmem2 : ∀ k', S' k' ↔ ∃ e ∈ es2.toList, knd.is k' e.2 = true := fun k' => (hmem1 k').trans ⟨fun ⟨e, he, q⟩ => ⟨e, hp.mem_iff.mpr he, q⟩, fun ⟨e, he, q⟩ => ⟨e, hp.mem_iff.mp he, q⟩⟩
    have hsz : es2.size = es1.size := by rw [← Array.length_toList, hp.length_eq, Array.length_toList]
    have hb2 : es2.size < scanBound := by rw [hsz]; exact hb1
    have hap2 : es2.toList.Pairwise (Apart knd) := (hp.pairwise_iff (fun {x y} h => apart_symm h)).mpr hap1
    refine wpAny_bind (hg _ _ _ ?_)
    refine wpAny_bind (wpAny_storeSet_of ho1 rfl ?_ (fits_of_scanBound hb2))
    obtain ⟨ho2, x2⟩ := x1.store ho1 hel2 hmem2 hap2 hb2 hfr.1 (hfr.2.trans hl)
    exact wpAny_pure (h _ (hsb1.trans (Heap.SameBut.update _ a _)) ⟨_, _, _, _, ho2, x2, Nat.le_of_eq hsz⟩)
  · exact wpAny_pure (h _ hsb1 ⟨_, _, _, _, ho1, x1, Nat.le_refl _⟩)
theorem kset_add {a : Addr} {S : K → Prop} {n : Nat} {k : K} {x : Value} {Q : Bool → Shared → Prop} (hkey : knd.is k x = true) (hsc : x.scannable = true) (hS : KSet knd s.heap a S n)
    (hroom : n + 1 < scanBound)
    (h : ∀ b h', Heap.SameBut a s.heap h' → KSet knd h' a (fun k' => S k' ∨ k' = k) (n + 1) → Q b { s with heap := h' }) :
    wpAny (model prog w) A (setAddHashed a x (knd.hash k)) Q E s := by
  obtain ⟨o, es, ep, t, ho, X, hn⟩ := hS
  have hb1 : es.size + 1 < scanBound := by omega
  unfold setAddHashed setAddHashedIn
  refine wpAny_holding (wpAny_bind (wpAny_setState_of ho X.data X.ok.fits ?_))
  dsimp only
  rw [byScan_of hsc X.few X.el]
  simp only [↓reduceIte]
  unfold setAddByScan
  refine wpAny_bind ?_
  refine wpAny_bind (wpAny_rule ?_)
  refine wpAny_bind (wpAny_setScan_of hkey ho X.data X.ok.fits X.el ?_)
  cases hr : List.findIdx? (fun e => knd.is k e.2) es.toList with
  | some j =>
    dsimp only
    obtain ⟨hj, hpj, _⟩ := List.findIdx?_eq_some_iff_getElem.mp hr
    have hSk : S k := (X.mem k).mpr ⟨es.toList[j], List.getElem_mem hj, hpj⟩
    refine wpAny_pure (wpAny_pure ?_)
    have e : s = { s with heap := s.heap } := by cases s; rfl
    have := h false s.heap (Heap.SameBut.refl a s.heap) ⟨o, es, ep, t, ho, ⟨X.ex, X.data, X.el, fun k' => by
      rw [← X.mem k']
      exact ⟨fun hk => hk.elim id (fun e => e ▸ hSk), .inl⟩, X.apart, X.few, X.ok, X.led⟩, by omega⟩
    rw [e]; exact this
  | none =>
    dsimp only
    have hno : ∀ e ∈ es.toList, knd.is k e.2 = false := fun e he => by simpa using List.findIdx?_eq_none_iff.mp hr e he
    have hgw : ∀ (b : Bool) {s₁ : Shared} {Q' : Unit → Shared → Prop}, Q' () s₁ → wpAny (model prog w) A (match b with | true => rule "set.scan.the-table-gave-way" | false => pure ()) Q' E s₁ :=
      fun b s₁ Q' hq => by cases b <;> first | exact wpAny_pure hq | exact wpAny_rule hq
    have hperm := layNew_perm t es (knd.hash k) x
    have hoks := layNew_ok X.ok (knd.hash k) x
    generalize hL : layNew t es (knd.hash k) x = L at hperm hoks ⊢
    obtain ⟨es1, t1, wasDummy, gave⟩ := L
    dsimp only at hperm hoks ⊢
    rw [Array.toList_push] at hperm
    have hel1 : ElemsOf knd es1.toList := (X.el.push hkey hsc).perm hperm
    have hmem1 : ∀ k', (S k' ∨ k' = k) ↔ ∃ e ∈ es1.toList, knd.is k' e.2 = true := fun k' => by
      rw [X.mem k']
      constructor
      · rintro (⟨e, he, hp⟩ | rfl)
        · exact ⟨e, hperm.mem_iff.mpr (List.mem_append_left _ he), hp⟩
        · exact ⟨(knd.hash k', x), hperm.mem_iff.mpr (List.mem_append_right _ (List.mem_singleton.mpr rfl)), hkey⟩
      · rintro ⟨e, he, hp⟩
        rcases List.mem_append.mp (hperm.mem_iff.mp he) with he | he
        · exact .inl ⟨e, he, hp⟩
        · rw [List.mem_singleton] at he; subst he
          exact .inr (knd.inj x k' k hp hkey)
    have hap1 : es1.toList.Pairwise (Apart knd) := (hperm.pairwise_iff (fun {x y} h => apart_symm h)).mpr (List.pairwise_append.mpr ⟨X.apart, List.pairwise_singleton _ _, fun e he f hf k' h1 h2 => by
      rw [List.mem_singleton] at hf; subst hf
      have : k' = k := knd.inj x k' k h2 hkey
      subst this
      rw [hno e he] at h1; cases h1⟩)
    have hsz1 : es1.size = es.size + 1 := by rw [← Array.length_toList, hperm.length_eq, List.length_append, Array.length_toList]; rfl
    have hb1' : es1.size < scanBound := by omega
    refine wpAny_bind (hgw _ ?_)
    have hend : ∀ h', Heap.SameBut a s.heap h' → KSet knd h' a (fun k' => S k' ∨ k' = k) es1.size → Q true { s with heap := h' } := by
      intro h' hsb ⟨o', es', ep', t', ho', X', hn'⟩
      exact h true h' hsb ⟨o', es', ep', t', ho', X', by omega⟩
    split
    · refine wpAny_bind ?_
      rw [hashByValue_scannable 8 hsc]
      refine wpAny_pure ?_
      refine kset_tail ?_ ho X hel1 hmem1 hap1 hb1' ?_ ?_ ?_
      · intro b s₁ Q' hq; cases b <;> first | exact wpAny_pure hq | exact wpAny_rule hq
      · split
        · exact hoks.1
        · exact okT_plain hoks.1
      · split
        · exact hoks.2.trans X.led
        · exact hoks.2.trans X.led
      · intro h' hsb hS'; dsimp only; exact wpAny_pure (hend h' hsb hS')
    · refine wpAny_bind (wpAny_pure ?_)
      simp only [↓reduceIte]
      refine kset_tail ?_ ho X hel1 hmem1 hap1 hb1' hoks.1 (hoks.2.trans X.led) ?_
      · intro b s₁ Q' hq; cases b <;> first | exact wpAny_pure hq | exact wpAny_rule hq
      · intro h' hsb hS'; dsimp only; exact wpAny_pure (hend h' hsb hS')
theorem kset_fresh {h : Heap} {a : Addr} (hg : h.get? a = some { cls := .type "set", dict := none, data := .set #[] 0 (.fresh 0 0 (!w.params.followText "set-order")) }) : KSet knd h a (fun _ => False) 0 :=
  ⟨_, #[], 0, _, hg, ⟨⟨rfl, rfl, rfl⟩, rfl, fun e he => by simp at he, fun k => by simp, by simp, by decide, okT_fresh _, rfl⟩, Nat.le_refl _⟩
end
section
variable {prog : Program} {w : World} {K : Type} [DecidableEq K] {knd : KeyKind prog w K} {A : Around} {E : Value → Shared → Prop} {s : Shared}
theorem kset_new (a : Value) {Q₁ : Value → Shared → Prop}
    (h : Q₁ (.ref s.heap.objs.size) { s with heap := s.heap.push { cls := .type "set", dict := none, data := .set #[] 0 (.fresh 0 0 (!w.params.followText "set-order")) } }) :
    codeAny (model prog w) A (.call (.builtin "set.__new__") ⟨[.type "set", a], []⟩) (wants Q₁ E) s := by
  refine codeAny_of_tree ?_
  show wpAny _ A.in1 (do checkBuiltinCall "set.__new__" ⟨[.type "set", a], []⟩; again (.builtin "set.__new__" ⟨[.type "set", a], []⟩)) _ _ s
  refine wpAny_bind (wpAny_of_eq (PySem.F.newCall_set_1 a) (wpAny_pure ⟨plainId_quiet PySem.F.plain_set_new _, codeAny_builtin PySem.F.entry_set_new ?_⟩))
  rw [Around.under_plainId PySem.F.plain_set_new _]
  unfold Builtin.«set.__new__» Builtin.Frozenset.newClass
  have hsub := sub_set_self
  obtain ⟨hp, g, d, tk, os⟩ := s
  dsimp only
  wp_walk
  refine wpAny_askSetting (wpAny_pure ?_)
  dsimp only
  simp only [newObj]
  refine wpAny_bind (wpAny_alloc (wpAny_pure ?_))
  exact wpAny_pure h
end
end L2
namespace L2
open PySem PySem.Spec PyProof.Rows PySem.W
theorem erase_perm {α : Type} {l : List α} {i : Nat} (h : i < l.length) : List.Perm (l[i] :: l.eraseIdx i) l := by
  rw [List.eraseIdx_eq_take_drop_succ]
  refine List.perm_middle.symm.trans ?_
  rw [List.getElem_cons_drop, List.take_append_drop]
theorem pick_go {α : Type} (next : Nat → Nat) : ∀ (fuel k : Nat) (left : List α) (out : Array α), left.length = fuel → List.Perm (pickOrder.go next fuel k left out).toList (out.toList ++ left)
  | 0, k, left, out, h => by
    rw [List.eq_nil_of_length_eq_zero h, List.append_nil]
    unfold pickOrder.go
    exact .rfl
  | fuel + 1, k, left, out, h => by
    unfold pickOrder.go
    have hl : next k % left.length < left.length := Nat.mod_lt _ (by omega)
    rw [List.getElem?_eq_getElem hl]
    dsimp only
    refine (pick_go next fuel (k + 1) _ _ (by rw [List.length_eraseIdx_of_lt hl]; omega)).trans ?_
    rw [Array.toList_push, List.append_assoc]
    exact List.Perm.append_left _ (erase_perm hl)
theorem pick_perm {α : Type} (next : Nat → Nat) (xs : Array α) : List.Perm (pickOrder next xs).toList xs.toList := by
  have := pick_go next xs.size 0 xs.toList #[] (by simp)
  simpa [pickOrder] using this
section
variable {prog : Program} {w : World} {K : Type} [DecidableEq K] {knd : KeyKind prog w K} {A : Around} {E : Value → Shared → Prop} {s : Shared}
theorem wp_byText {Q : Bool → Shared → Prop} (h : Q (w.params.followText "set-order") s) : wpAny (model prog w) A setsByText Q E s := by
  unfold setsByText
  exact wpAny_bind (wpAny_askSetting (wpAny_pure h))
theorem wp_choose {src : Source} {n : Nat} {Q : Nat → Shared → Prop} (hn : n ≠ 0) (h : ∀ i d, i < n → Q i { s with drawn := d }) : wpAny (model prog w) A (choose src n) Q E s := fun Γ p hΓ => by
  unfold choose
  rw [Sem.wp_choose]
  refine ⟨hn, ?_⟩
  rw [Sem.wp_pure]
  exact h _ _ (Nat.mod_lt _ (Nat.pos_of_ne_zero hn))
theorem wp_drawOrder {α : Type} : ∀ (n : Nat) (xs : List α) (s : Shared) {Q : List α → Shared → Prop}, xs.length = n → (∀ ys d, List.Perm ys xs → Q ys { s with drawn := d }) → wpAny (model prog w) A (drawOrder n xs) Q E s
  | 0, xs, s, Q, hn, h => by
    rw [List.eq_nil_of_length_eq_zero hn] at h ⊢
    unfold drawOrder
    exact wpAny_pure (h [] s.drawn .rfl)
  | n + 1, [], s, Q, hn, h => by simp at hn
  | n + 1, x :: xs, s, Q, hn, h => by
    unfold drawOrder
    refine wpAny_bind (wp_choose (by simp) fun i d hi => ?_)
    rw [List.getElem?_eq_getElem hi]
    dsimp only
    refine wpAny_bind (wp_drawOrder n _ { s with drawn := d } (by rw [List.length_eraseIdx_of_lt hi]; simpa using hn) fun ys d' hp => ?_)
    exact wpAny_pure (h _ d' ((List.Perm.cons _ hp).trans (erase_perm hi)))
theorem set_iter_entry : entryFor table "set.__iter__" = some Builtin.«frozenset.__iter__» := entryFor_alias (id' := "frozenset.__iter__") (by kernel_rfl) rfl (by decide +kernel) (by kernel_rfl)
theorem set_it_next : Slot "set_iterator" "__next__" "set_iterator.__next__" :=
  .of (owner := "set_iterator") (n := "__next__") (by rw [typeLookup_type, builtinLookup_eq_fast]; kernel_rfl) (by decide +kernel) (by decide +kernel) (by decide +kernel)
    (by first | exact .inl (by decide +kernel) | exact .inr (by decide +kernel)) (by rw [isSubtype_type]; kernel_rfl)
theorem set_it_entry : entryFor table "set_iterator.__next__" = some Builtin.«set_iterator.__next__» := entryFor_of_tree (by kernel_rfl)
theorem owner_set_it : Manifest.owners.lookup (String.ofList ['r', 'o', 't', 'a', 'r', 'e', 't', 'i', '_', 't', 'e', 's'].reverse) = some Manifest.sig_set_iterator := by kernel_rfl
theorem set_it_args (a : Value) : argsOk "set_iterator.__next__" ⟨[a], []⟩ := by
  unfold argsOk; rw [signature?_of (id := "set_iterator.__next__") (n := ['_', '_', 't', 'x', 'e', 'n', '_', '_']) (o := ['r', 'o', 't', 'a', 'r', 'e', 't', 'i', '_', 't', 'e', 's']) (by kernel_rfl) owner_set_it]; kernel_rfl
theorem set_it_iter : Slot "set_iterator" "__iter__" "set_iterator.__iter__" :=
  .of (owner := "set_iterator") (n := "__iter__") (by rw [typeLookup_type, builtinLookup_eq_fast]; kernel_rfl) (by decide +kernel) (by decide +kernel) (by decide +kernel)
    (by first | exact .inl (by decide +kernel) | exact .inr (by decide +kernel)) (by rw [isSubtype_type]; kernel_rfl)
theorem set_it_ientry : entryFor table "set_iterator.__iter__" = some Builtin.«dict_keyiterator.__iter__» := entryFor_alias (id' := "dict_keyiterator.__iter__") (by kernel_rfl) rfl (by decide +kernel) (by kernel_rfl)
theorem set_it_iargs (a : Value) : argsOk "set_iterator.__iter__" ⟨[a], []⟩ := by
  unfold argsOk; rw [signature?_of (id := "set_iterator.__iter__") (n := ['_', '_', 'r', 'e', 't', 'i', '_', '_']) (o := ['r', 'o', 't', 'a', 'r', 'e', 't', 'i', '_', 't', 'e', 's']) (by kernel_rfl) owner_set_it]; kernel_rfl
def slotAt (t : SetTable) : Nat → Nat
  | 0 => 0
  | i + 1 => (t.place[i]?).getD 0 + 1
theorem slot_below {t : SetTable} (hr : Ris t.place) {i : Nat} (hi : i ≤ t.place.size) : SetTable.below t.place (slotAt t i) = i := by
  obtain ⟨h0, h1, h2⟩ := below_spec hr (slotAt t i)
  cases i with
  | zero =>
    by_cases z : SetTable.below t.place (slotAt t 0) = 0
    · exact z
    · exfalso
      have := h1 0 (by omega) (by omega)
      exact absurd this (Nat.not_lt_zero _)
  | succ i =>
    have hs : slotAt t (i + 1) = t.place[i]'(by omega) + 1 := by
      show (t.place[i]?).getD 0 + 1 = _
      rw [Array.getElem?_eq_getElem (by omega)]; rfl
    have a : ¬ SetTable.below t.place (slotAt t (i + 1)) ≤ i := fun z => by
      have := h2 i (by omega) z
      omega
    have b : ¬ i + 1 < SetTable.below t.place (slotAt t (i + 1)) := fun z => by
      have := h1 (i + 1) (by omega) z
      have := hr i (i + 1) (by omega) (by omega) (Nat.lt_succ_self _)
      omega
    omega
def SDrawn (es : Array (Int × Value)) (t : SetTable) : Bool := !t.plain && decide (es.size > 1)
def SIt (w : World) (I a T : Addr) (o : Obj) (es : Array (Int × Value)) (ep : Nat) (t : SetTable) (ord : List (Int × Value)) (i : Nat) (h : Heap) : Prop :=
  h.get? a = some o ∧ ∃ first oI, h.get? I = some oI ∧ oI.cls = .type "set_iterator" ∧ oI.data = .fields #[first, .int i 0, .ref a, .int es.size 0, .int ep 0] ∧
    ((w.params.followText "set-order" = true ∧ (∃ sl : Nat, first = .int sl 0) ∧ ord = (pickOrder (w.params.setOrder a ep) es).toList) ∨
     (w.params.followText "set-order" = false ∧ SDrawn es t = false ∧ first = .int (slotAt t i) 0 ∧ ord = es.toList) ∨
     (w.params.followText "set-order" = false ∧ SDrawn es t = true ∧ first = .ref T ∧ ∃ oT places c, h.get? T = some oT ∧ oT.data = .seq (places.map fun (i : Nat) => rawInt i).toArray c ∧ List.Perm places (List.range es.size) ∧ ord = places.filterMap fun i => es[i]?))
theorem perm_pick {es : Array (Int × Value)} {places : List Nat} (h : List.Perm places (List.range es.size)) : List.Perm (places.filterMap fun i => es[i]?) es.toList := (h.filterMap _).trans (by rw [filterMap_getElem?_range])
theorem pyIter_set {a : Addr} {o : Obj} {es : Array (Int × Value)} {ep : Nat} {t : SetTable} (ho : s.heap.get? a = some o) (X : ItO w o es ep t) {Q : Value → Shared → Prop}
    (h : ∀ I T ord h' d, s.heap.objs.size ≤ I → s.heap.objs.size ≤ T → T ≠ I → List.Perm ord es.toList → SIt w I a T o es ep t ord 0 h' → (∀ b u, s.heap.get? b = some u → h'.get? b = some u) → Q (.ref I) { s with heap := h', drawn := d }) :
    wpAny (model prog w) A (pyIter (.ref a)) Q E s := by
  have hT : s.TypeIs (.ref a) "set" := ⟨o, ho, X.ex.1⟩
  refine wpAny_pyIter_slot hT PySem.F.slot_set_iter (wpAny_call_entry PySem.F.slot_set_iter hT set_iter_entry ?_ (PySem.F.args_set_iter_1 _))
  unfold Builtin.«frozenset.__iter__»
  refine wpAny_bind ?_
  show wpAny _ _ (pure a) _ _ s
  refine wpAny_pure ?_
  refine wpAny_bind ?_
  unfold Builtin.Frozenset.sizeOf
  refine wpAny_bind (wpAny_setEntries_of ho X.data X.ok.fits (wpAny_pure ?_))
  unfold setDrawn
  refine wpAny_bind (wpAny_bind (wpAny_setState_of ho X.data X.ok.fits ?_))
  dsimp only
  refine wpAny_bind (wp_byText ?_)
  refine wpAny_pure ?_
  show wpAny _ _ (if (!w.params.followText "set-order" && SDrawn es t) = true then _ else _) _ _ s
  by_cases hb : w.params.followText "set-order" = true
  · rw [hb]
    simp only [Bool.not_true, Bool.false_and, Bool.false_eq_true, if_false]
    refine wpAny_bind (wpAny_pure ?_)
    refine wpAny_bind (wpAny_setEpoch_of ho X.data X.ok.fits ?_)
    unfold newFields
    refine wpAny_bind (wpAny_newObj_type (wpAny_pure ⟨_, rfl, "set_iterator", _, ⟨_, Heap.get?_push_size _ rfl, rfl⟩, set_it_next.lookup, ?_⟩))
    exact h _ (s.heap.objs.size + 1) _ _ s.drawn (Nat.le_refl _) (Nat.le_succ _) (Nat.ne_of_gt (Nat.lt_succ_self _)) (pick_perm _ _) ⟨Heap.get?_push_of_some _ ho, _, _, Heap.get?_push_size _ rfl, rfl, rfl, .inl ⟨hb, ⟨0, rfl⟩, rfl⟩⟩ fun b u e => Heap.get?_push_of_some _ e
  have hb' : w.params.followText "set-order" = false := Bool.eq_false_iff.mpr hb
  rw [hb']
  cases hd : SDrawn es t with
  | false =>
    simp only [Bool.not_false, Bool.and_false, Bool.false_eq_true, if_false]
    refine wpAny_bind (wpAny_pure ?_)
    refine wpAny_bind (wpAny_setEpoch_of ho X.data X.ok.fits ?_)
    unfold newFields
    refine wpAny_bind (wpAny_newObj_type (wpAny_pure ⟨_, rfl, "set_iterator", _, ⟨_, Heap.get?_push_size _ rfl, rfl⟩, set_it_next.lookup, ?_⟩))
    exact h _ (s.heap.objs.size + 1) _ _ s.drawn (Nat.le_refl _) (Nat.le_succ _) (Nat.ne_of_gt (Nat.lt_succ_self _)) .rfl ⟨Heap.get?_push_of_some _ ho, _, _, Heap.get?_push_size _ rfl, rfl, rfl, .inr (.inl ⟨hb', hd, rfl, rfl⟩)⟩ fun b u e => Heap.get?_push_of_some _ e
  | true =>
    simp only [Bool.not_false, Bool.and_true, if_true]
    refine wpAny_bind (wp_drawOrder es.size (List.range es.size) s (by simp) fun places d hp => ?_)
    unfold newTuple
    have hl : places.length = es.size := by rw [hp.length_eq]; simp
    refine wpAny_bind (wpAny_newObj_type ?_ ?_)
    · refine wpAny_bind (wpAny_setEpoch_of (Heap.get?_push_of_some _ ho) X.data X.ok.fits ?_)
      unfold newFields
      refine wpAny_bind (wpAny_newObj_type (wpAny_pure ⟨_, rfl, "set_iterator", _, ⟨_, Heap.get?_push_size _ rfl, rfl⟩, set_it_next.lookup, ?_⟩))
      refine h _ s.heap.objs.size _ _ d (by rw [Heap.size_push]; exact Nat.le_succ _) (Nat.le_refl _) (by rw [Heap.size_push]; exact Nat.ne_of_lt (Nat.lt_succ_self _)) (perm_pick hp) ⟨Heap.get?_push_of_some _ (Heap.get?_push_of_some _ ho), _, _, Heap.get?_push_size _ rfl, rfl, rfl, .inr (.inr ⟨hb', hd, rfl, _, places, _, Heap.get?_push_of_some _ (Heap.get?_push_size _ rfl), rfl, hp, rfl⟩)⟩ fun b u e => Heap.get?_push_of_some _ (Heap.get?_push_of_some _ e)
    · have hf := X.few
      unfold scanBound at hf
      show ((places.map fun (i : Nat) => rawInt (i : Int)).toArray).size ≤ sizeLine
      rw [List.size_toArray, List.length_map, hl, sizeLine_eq]; omega
def SMode (w : World) (a : Addr) (es : Array (Int × Value)) (ep : Nat) (t : SetTable) (ord : List (Int × Value)) (i sl : Nat) : Prop :=
  (w.params.followText "set-order" = true ∧ ord = (pickOrder (w.params.setOrder a ep) es).toList) ∨ (w.params.followText "set-order" = false ∧ SDrawn es t = false ∧ sl = slotAt t i ∧ ord = es.toList)
theorem wp_setWalkT {a : Addr} {o : Obj} {es : Array (Int × Value)} {ep : Nat} {t : SetTable} (ho : s.heap.get? a = some o) (X : ItO w o es ep t) (hb : w.params.followText "set-order" = true) {Q : Array (Int × Value) → Shared → Prop}
    (h : Q (pickOrder (w.params.setOrder a ep) es) s) : wpAny (model prog w) A (setWalk a) Q E s := by
  unfold setWalk
  refine wpAny_bind (wpAny_setState_of ho X.data X.ok.fits ?_)
  dsimp only
  refine wpAny_bind (wp_byText ?_)
  rw [hb]
  simp only [if_true]
  exact wpAny_bind (wpAny_askSetting (wpAny_pure h))
theorem wp_setNext {a : Addr} {o : Obj} {es : Array (Int × Value)} {ep : Nat} {t : SetTable} {ord : List (Int × Value)} {i sl : Nat} (ho : s.heap.get? a = some o) (X : ItO w o es ep t) (hm : SMode w a es ep t ord i sl) (hil : i ≤ es.size) {Q : Option (Value × Nat) → Shared → Prop}
    (h0 : ord[i]? = none → Q none s) (h1 : ∀ e sl', ord[i]? = some e → SMode w a es ep t ord (i + 1) sl' → Q (some (e.2, sl')) s) : wpAny (model prog w) A (setNext a sl i ep) Q E s := by
  unfold setNext
  refine wpAny_bind (wpAny_setState_of ho X.data X.ok.fits ?_)
  dsimp only
  refine wpAny_bind (wp_byText ?_)
  rcases hm with ⟨hb, hord⟩ | ⟨hb, hdr, hsl, hord⟩
  · rw [hb]
    simp only [if_true, bne_self_eq_false, Bool.false_eq_true, if_false]
    refine wpAny_bind (wp_setWalkT ho X hb (wpAny_pure ?_))
    have e : (pickOrder (w.params.setOrder a ep) es)[i]? = ord[i]? := by rw [hord, Array.getElem?_toList]
    rw [e]
    cases hq : ord[i]? with
    | none => exact h0 hq
    | some x => exact h1 x sl hq (.inl ⟨hb, hord⟩)
  · rw [hb]
    simp only [Bool.false_eq_true, if_false]
    show wpAny _ _ (if SDrawn es t = true then _ else _) _ _ s
    rw [hdr]
    simp only [Bool.false_eq_true, if_false]
    have hled : t.led = true := by rw [X.led, hb]; rfl
    show wpAny _ _ ((if (!t.led && !es.isEmpty) = true then unsupported "set:maker-not-led" else pure ()) >>= _) _ _ s
    rw [hled]
    simp only [Bool.not_true, Bool.false_and, Bool.false_eq_true, if_false]
    refine wpAny_bind (wpAny_pure ?_)
    have hps : t.place.size = es.size := by
      have := X.ok.fits
      simp only [SetTable.fits, Bool.and_eq_true, beq_iff_eq] at this
      exact this.1
    rw [hsl, slot_below X.ok.ris (by omega)]
    refine wpAny_pure ?_
    have e : ord[i]? = es[i]? := by rw [hord, Array.getElem?_toList]
    by_cases z : i < es.size
    · have hz : es[i]? = some es[i] := Array.getElem?_eq_getElem z
      have hz2 : t.place[i]? = some (t.place[i]'(by omega)) := Array.getElem?_eq_getElem (by omega)
      have := h1 es[i] (t.place[i]'(by omega) + 1) (by rw [e, hz]) (.inr ⟨hb, hdr, by show _ = (t.place[i]?).getD 0 + 1; rw [hz2]; rfl, hord⟩)
      rw [hz, hz2]
      exact this
    · have hz : es[i]? = none := Array.getElem?_eq_none (by omega)
      rw [hz]
      exact h0 (by rw [e, hz])
theorem stop_set {I : Addr} {oI : Obj} {vs : Array Value} (hh : A.handled = none) (hoI : s.heap.get? I = some oI) (hd : oI.data = .fields vs) (hv : 2 < vs.size) {Q : Option Value → Shared → Prop} (hQ : ∀ h', Heap.ExtBut I s.heap h' → Q none { s with heap := h' }) :
    wpAny (model prog w) A.in1 (do
        setField (Value.ref I) 2 Value.none
        let x ← newExc (Value.type "StopIteration") []
        raiseNew x : Sem Fin)
      (fun fin s' => ∃ v, fin = Fin.done (Flow.ret v) ∧ wpAny (model prog w) A (pure (some v)) Q E s')
      (fun e s' => wpAny (model prog w) A (do
          let b ← isInstance e (Value.type "StopIteration")
          if b = true then pure none else throw e) Q E s') s := by
  refine wpAny_bind (wpAny_setField hoI hd hv ?_)
  refine wpAny_bind ?_
  simp only [newExc, newTuple]
  refine wpAny_bind (wpAny_newObj_type ?_ (by size_fits))
  refine wpAny_bind (m := firstArgMember _ _) (wpAny_of_eq (a := Value.none) (by first | rfl | (simp only [firstArgMember]; rfl)) ?_)
  refine wpAny_newObj_type ?_ (by size_fits)
  simp only [raiseNew]
  refine wpAny_bind (wpAny_handled ?_)
  rw [show A.in1.handled = none from hh]
  refine wpAny_bind (wpAny_pure (wpAny_throw ?_))
  refine wpAny_bind (wpAny_isInstance (T := "StopIteration") (b := true) ⟨_, Heap.get?_push_size _ rfl, rfl⟩ isSubtype_stop ?_)
  exact wpAny_pure (hQ _ (((Heap.SameBut.update ..).extBut.push _).push _))
theorem pick_at {es : Array (Int × Value)} : ∀ {places : List Nat} {i : Nat}, (∀ p ∈ places, p < es.size) → (places.filterMap fun j => es[j]?)[i]? = (places[i]?).bind fun j => es[j]?
  | [], i, _ => by simp
  | p :: r, i, h => by
    have hp : p < es.size := h p (by simp)
    rw [List.filterMap_cons_some (Array.getElem?_eq_getElem hp)]
    cases i with
    | zero => simp [Array.getElem?_eq_getElem hp]
    | succ i => simpa using pick_at (places := r) (i := i) fun q hq => h q (by simp [hq])
theorem pyNext_set {I a T : Addr} {o : Obj} {es : Array (Int × Value)} {ep : Nat} {t : SetTable} {ord : List (Int × Value)} {i : Nat} (hh : A.handled = none) (X : ItO w o es ep t) (haI : a ≠ I) (hTI : SDrawn es t = true → T ≠ I) (hil : i ≤ es.size) (st : SIt w I a T o es ep t ord i s.heap) {Q : Option Value → Shared → Prop}
    (h0 : ord[i]? = none → ∀ h', (∀ b u, b ≠ I → s.heap.get? b = some u → h'.get? b = some u) → Q none { s with heap := h' })
    (hQ : ∀ e h', ord[i]? = some e → SIt w I a T o es ep t ord (i + 1) h' → (∀ b u, b ≠ I → s.heap.get? b = some u → h'.get? b = some u) → Q (some e.2) { s with heap := h' }) :
    wpAny (model prog w) A (pyNext (.ref I)) Q E s := by
  obtain ⟨ho, first, oI, hoI, hc, hd, hm⟩ := st
  have hTy : s.TypeIs (.ref I) "set_iterator" := ⟨oI, hoI, hc⟩
  unfold pyNext
  refine wpAny_bind (wpAny_attempt (wpAny_callSpecial?_slot (name := Str.ofString "__next__") hTy set_it_next (wpAny_call_entry set_it_next hTy set_it_entry ?_ (set_it_args _))))
  unfold Builtin.«set_iterator.__next__»
  refine wpAny_bind (wpAny_pure ?_)
  refine wpAny_bind (wpAny_fieldsOf hoI hd ?_)
  dsimp only
  refine wpAny_bind (wpAny_setEntries_of ho X.data X.ok.fits ?_)
  simp only [bne_self_eq_false, Bool.false_eq_true, if_false]
  have key : ∀ sl : Nat, first = .int sl 0 → SMode w a es ep t ord i sl → (∀ sl' : Nat, SMode w a es ep t ord (i + 1) sl' → (w.params.followText "set-order" = true ∧ (∃ x : Nat, Value.int (sl' : Int) 0 = .int x 0) ∧ ord = (pickOrder (w.params.setOrder a ep) es).toList) ∨
     (w.params.followText "set-order" = false ∧ SDrawn es t = false ∧ Value.int (sl' : Int) 0 = .int (slotAt t (i + 1)) 0 ∧ ord = es.toList)) →
    wpAny (model prog w) A.in1 (do
        let r ← setNext a sl i ep
        match r with
        | some (x, next) => do
          setField (Value.ref I) 0 (rawInt ↑next)
          setField (Value.ref I) 1 (rawInt (↑i + 1))
          ret x
        | none => do
          setField (Value.ref I) 2 Value.none
          let x ← newExc (Value.type "StopIteration") []
          raiseNew x)
      (fun fin s' => ∃ v, fin = Fin.done (Flow.ret v) ∧ wpAny (model prog w) A (pure (some v)) Q E s')
      (fun e s' => wpAny (model prog w) A (do
          let b ← isInstance e (Value.type "StopIteration")
          if b = true then pure none else throw e) Q E s') s := fun sl hf hmo hnx => by
    subst hf
    refine wpAny_bind (wp_setNext ho X hmo hil (fun hn => ?_) (fun e sl' he hmo' => ?_))
    · exact stop_set hh hoI hd (by simp) fun h' hx => h0 hn h' fun b u hb hu => hx b u hb hu
    · dsimp only
      refine wpAny_bind (wpAny_setField hoI hd (by simp) ?_)
      have g1 := Heap.get?_update_self (Obj.mapFields (·.setIfInBounds 0 (rawInt (sl' : Int)))) hoI (Obj.isFreed_of_fields (Obj.data_mapFields hd _))
      have d1 := Obj.data_mapFields hd (·.setIfInBounds 0 (rawInt (sl' : Int)))
      refine wpAny_bind (wpAny_setField g1 d1 (by simp) ?_)
      have g2 := Heap.get?_update_self (Obj.mapFields (·.setIfInBounds 1 (rawInt ((i : Int) + 1)))) g1 (Obj.isFreed_of_fields (Obj.data_mapFields d1 _))
      refine wpAny_pure ⟨_, rfl, wpAny_pure (hQ e _ he ⟨?_, _, _, g2, (Obj.cls_mapFields ..).trans ((Obj.cls_mapFields ..).trans hc), by rw [Obj.data_mapFields d1]; rfl, (hnx sl' hmo').elim .inl fun z => .inr (.inl z)⟩ fun b u hb hu => ?_)⟩
      · exact (Heap.get?_update_other _ _ (Ne.symm haI)).trans ((Heap.get?_update_other _ _ (Ne.symm haI)).trans ho)
      · exact (Heap.get?_update_other _ _ (Ne.symm hb)).trans ((Heap.get?_update_other _ _ (Ne.symm hb)).trans hu)
  rcases hm with ⟨hb, ⟨sl, rfl⟩, hord⟩ | ⟨hb, hdr, rfl, hord⟩ | ⟨hb, hdr, rfl, oT, places, c, hT, hTd, hp, hord⟩
  · have := key sl rfl (.inl ⟨hb, hord⟩) fun sl' _ => .inl ⟨hb, ⟨sl', rfl⟩, hord⟩
    exact this
  · have := key (slotAt t i) rfl (.inr ⟨hb, hdr, rfl, hord⟩) fun sl' hm' => .inr (by
      rcases hm' with ⟨hb', _⟩ | ⟨_, _, e, _⟩
      · rw [hb] at hb'; cases hb'
      · exact ⟨hb, hdr, by rw [e], hord⟩)
    exact this
  · dsimp only
    refine wpAny_bind (wpAny_seqItems hT hTd ?_)
    dsimp only
    have hat : ((places.map fun (i : Nat) => rawInt (i : Int)).toArray)[((i : Int)).toNat]? = (places[i]?).map fun (i : Nat) => rawInt (i : Int) := by
      rw [List.getElem?_toArray, List.getElem?_map]; rfl
    have hlt : ∀ p ∈ places, p < es.size := fun p hp' => by simpa using hp.mem_iff.mp hp'
    have hoi : ord[i]? = (places[i]?).bind fun j => es[j]? := by rw [hord]; exact pick_at hlt
    cases hq : places[i]? with
    | none =>
      rw [hq] at hat hoi
      rw [hat]
      refine wpAny_bind (wpAny_setField hoI hd (by simp) ?_)
      have g1 := Heap.get?_update_self (Obj.mapFields (·.setIfInBounds 0 (rawInt 0))) hoI (Obj.isFreed_of_fields (Obj.data_mapFields hd _))
      have d1 := Obj.data_mapFields hd (·.setIfInBounds 0 (rawInt 0))
      exact stop_set (s := { s with heap := s.heap.update I (Obj.mapFields (·.setIfInBounds 0 (rawInt 0))) }) hh g1 d1 (by simp) fun h' hx => h0 hoi h' fun b u hb hu => hx b u hb ((Heap.get?_update_other _ _ (Ne.symm hb)).trans hu)
    | some p =>
      have hps : p < es.size := hlt p (List.mem_of_getElem? hq)
      rw [hq] at hat hoi
      rw [hat]
      dsimp only [Option.map, rawInt]
      have hoi' : ord[i]? = some es[p] := by rw [hoi]; exact Array.getElem?_eq_getElem hps
      have hnd : wpAny (model prog w) A.in1 (setNextDrawn a p ep) (fun x s' => x = es[p].2 ∧ s' = s) (fun e s' => False) s := by
        unfold setNextDrawn
        refine wpAny_bind (wpAny_setState_of ho X.data X.ok.fits ?_)
        dsimp only
        simp only [bne_self_eq_false, Bool.false_eq_true, if_false]
        rw [Array.getElem?_eq_getElem hps]
        exact wpAny_pure ⟨rfl, rfl⟩
      refine wpAny_bind (wpAny_mono hnd (fun x s' hx => ?_) fun _ _ z => z.elim)
      obtain ⟨rfl, rfl⟩ := hx
      refine wpAny_bind (wpAny_setField hoI hd (by simp) ?_)
      have g1 := Heap.get?_update_self (Obj.mapFields (·.setIfInBounds 1 (rawInt ((i : Int) + 1)))) hoI (Obj.isFreed_of_fields (Obj.data_mapFields hd _))
      refine wpAny_pure ⟨_, rfl, wpAny_pure (hQ es[p] _ hoi' ⟨?_, _, _, g1, (Obj.cls_mapFields ..).trans hc, by rw [Obj.data_mapFields hd]; rfl, .inr (.inr ⟨hb, hdr, rfl, oT, places, c, ?_, hTd, hp, hord⟩)⟩ fun b u hb hu => ?_)⟩
      · exact (Heap.get?_update_other _ _ (Ne.symm haI)).trans ho
      · exact (Heap.get?_update_other _ _ (Ne.symm (hTI hdr))).trans hT
      · exact (Heap.get?_update_other _ _ (Ne.symm hb)).trans hu
theorem SIt.frame {I a T : Addr} {o : Obj} {es : Array (Int × Value)} {ep : Nat} {t : SetTable} {ord : List (Int × Value)} {i : Nat} {h h' : Heap} (st : SIt w I a T o es ep t ord i h) (k : ∀ b ∈ [I, a, T], ∀ u, h.get? b = some u → h'.get? b = some u) : SIt w I a T o es ep t ord i h' := by
  obtain ⟨ho, first, oI, hoI, hc, hd, hm⟩ := st
  refine ⟨k a (by simp) _ ho, first, oI, k I (by simp) _ hoI, hc, hd, ?_⟩
  rcases hm with h1 | h1 | ⟨hb, hdr, rfl, oT, places, c, hT, r⟩
  · exact .inl h1
  · exact .inr (.inl h1)
  · exact .inr (.inr ⟨hb, hdr, rfl, oT, places, c, k T (by simp) _ hT, r⟩)
theorem Walks.set {I a T : Addr} {o : Obj} {es : Array (Int × Value)} {ep : Nat} {t : SetTable} {ord : List (Int × Value)} (hh : A.handled = none) (X : ItO w o es ep t) (haI : a ≠ I) (hTI : SDrawn es t = true → T ≠ I) (hp : List.Perm ord es.toList) :
    Walks prog w A I [I, a, T] [I] ord.length (fun i v => ∃ e, ord[i]? = some e ∧ e.2 = v) (fun i h => SIt w I a T o es ep t ord i h) where
  sub := fun b hb => by simp at hb; simp [hb]
  frame := fun i h h' st k => st.frame k
  item := fun i s Q E hi st hQ => by
    have hl : ord.length = es.size := by rw [hp.length_eq, Array.length_toList]
    refine pyNext_set hh X haI hTI (by omega) st (fun hn => ?_) (fun e h' he st' hk => hQ _ _ s.toks ⟨e, he, rfl⟩ st' fun b u hb hu => hk b u (fun z => hb (by simp [z])) hu)
    rw [List.getElem?_eq_getElem hi] at hn; cases hn
  done := fun s Q E st hQ => by
    have hl : ord.length = es.size := by rw [hp.length_eq, Array.length_toList]
    refine pyNext_set hh X haI hTI (by omega) st (fun hn h' hk => hQ _ s.toks fun b u hb hu => hk b u (fun z => hb (by simp [z])) hu) (fun e h' he _ _ => ?_)
    rw [List.getElem?_eq_none (Nat.le_refl _)] at he; cases he
  self := fun i s Q E st h => by
    obtain ⟨ho, first, oI, hoI, hc, hd, hm⟩ := st
    have hTy : s.TypeIs (.ref I) "set_iterator" := ⟨oI, hoI, hc⟩
    refine wpAny_pyIter_slot hTy set_it_iter (wpAny_call_entry set_it_iter hTy set_it_ientry ?_ (set_it_iargs _))
    show wpAny _ _ (ret (.ref I)) _ _ s
    exact wpAny_pure ⟨_, rfl, "set_iterator", _, hTy, set_it_next.lookup, h⟩
theorem hint_set {r : Addr} {Q : Bool → Shared → Prop} (hT : s.TypeIs (.ref r) "set") (h : Q false s) : wpAny (model prog w) A (Builtin.List.listLengthHint (.ref r)) Q E s := by
  unfold Builtin.List.listLengthHint
  refine wpAny_bind (wpAny_specialOf hT PySem.F.slot_set_len.lookup ?_)
  generalize hid : ("set.__len__" : String) = id0
  wp_delta
  rw [show splitId id0 = some ("set", "__len__") from by subst hid; decide +kernel]
  subst hid
  refine wpAny_bind (wpAny_isInstance (T := "set") (b := true) hT (by rw [isSubtype_type]; kernel_rfl) ?_)
  refine wpAny_ite_split (fun hab => absurd hab (by decide)) (fun _ => ?_)
  refine wpAny_ite_split (fun _ => ?_) (fun hab => absurd (by decide +kernel) hab)
  refine wpAny_bind (wpAny_typeOf hT ?_)
  exact wpAny_pure h
theorem extend_set {R : Result → Shared → Prop} {a S' : Addr} {o : Obj} {es : Array (Int × Value)} {ep : Nat} {t : SetTable} (hh : A.handled = none) (ho : s.heap.get? a = some o) (X : ItO w o es ep t) (hSa : S' ≠ a) (res : Value) (c₀ : Nat) (hS : s.heap.get? S' = some { cls := .type "list", data := .seq #[] c₀ })
    (hR : ∀ h' tk d acc' c' ord, (∀ b u, b ≠ S' → s.heap.get? b = some u → h'.get? b = some u) → h'.get? S' = some { cls := .type "list", dict := none, data := .seq acc' c', slots := #[] } → List.Perm ord es.toList → acc'.toList = ord.map (·.2) → R (.ok (.ret res)) { s with heap := h', drawn := d, toks := tk }) :
    wpAny (model prog w) A.in1 (Builtin.List.listExtendWith (.ref S') (.ref a) res)
      (fun fin s' => match fin with | .done f => R (.ok f) s' | .again c' => c'.quiet = true ∧ codeAny (model prog w) A c' R s') (fun e s' => R (.error e) s') s := by
  have hT : s.TypeIs (.ref a) "set" := ⟨o, ho, X.ex.1⟩
  unfold Builtin.List.listExtendWith
  refine wpAny_bind (wpAny_typeOf (T := "set") hT ?_)
  have h1 : Builtin.List.listSameRef (.ref S') (.ref a) = false := by simp [Builtin.List.listSameRef, hSa]
  simp only [h1, show (Value.type "set" == Value.type "list") = false by decide, show (Value.type "set" == Value.type "tuple") = false by decide, Bool.or_false, Bool.false_eq_true, if_false]
  refine wpAny_bind (pyIter_set ho X fun I T ord h1 d hI hTs hTI hp st hk => ?_)
  have hlS : S' < s.heap.objs.size := Heap.lt_size hS
  have hla : a < s.heap.objs.size := Heap.lt_size ho
  have hSf : S' ∉ [I, a, T] := by
    simp only [List.mem_cons, List.not_mem_nil, or_false, not_or]
    exact ⟨Nat.ne_of_lt (Nat.lt_of_lt_of_le hlS hI), hSa, Nat.ne_of_lt (Nat.lt_of_lt_of_le hlS hTs)⟩
  have W := Walks.set (prog := prog) (A := A.in1) (I := I) (a := a) (T := T) hh X (Nat.ne_of_lt (Nat.lt_of_lt_of_le hla hI)) (fun _ => hTI) hp
  have hn : ord.length ≤ sizeLine := by rw [hp.length_eq, Array.length_toList]; exact fits_of_scanBound X.few
  have key : ∀ (h : Heap) (c₁ tk : Nat), SIt w I a T o es ep t ord 0 h → (∀ b u, b ≠ S' → s.heap.get? b = some u → h.get? b = some u) →
      h.get? S' = some { cls := .type "list", data := .seq #[] c₁ } → codeAny (model prog w) A (.builtin "list.extend.loop" ⟨[.ref S', .ref I, res], []⟩) R { s with heap := h, drawn := d, toks := tk } := by
    intro h c₁ tk hst hk' hS₁
    refine codeAny_extend_loopS W.toS hn S' hSf res ord.length 0 _ #[] c₁ rfl (Nat.zero_le _) hst hS₁ (ItemsOf.nil _) fun s' acc' c' hm hS' hacc => ?_
    rw [Moved.eq_with hm]
    refine hR s'.heap s'.toks d acc' c' ord (fun b u hb e => hm.heap b u (fun hmem => ?_) (hk' b u hb e)) hS' hp ?_
    · rcases List.mem_cons.mp hmem with e' | hmem
      · exact hb e'
      · exact absurd (Heap.lt_size e) (by rw [List.mem_singleton.mp hmem]; exact Nat.not_lt.mpr hI)
    · refine List.ext_getElem? fun j => ?_
      by_cases hj : j < ord.length
      · have hj' : j < acc'.size := by rw [hacc.1]; exact hj
        obtain ⟨e, he, hv⟩ := hacc.2 j acc'[j] (Array.getElem?_eq_getElem hj')
        rw [Array.getElem?_toList, Array.getElem?_eq_getElem hj', List.getElem?_map, he, ← hv]; rfl
      · rw [List.getElem?_eq_none (by rw [Array.length_toList, hacc.1]; omega), List.getElem?_eq_none (by rw [List.length_map]; omega)]
  have hS₁ := hk _ _ hS
  have ho1 := hk _ _ ho
  refine wpAny_bind (wpAny_holding (hint_set (s := { s with heap := h1, drawn := d }) ⟨o, ho1, X.ex.1⟩ ?_))
  refine wpAny_ite_split (fun _ => ?_) (fun _ => wpAny_pure ⟨plainId_quiet PySem.F.plain_extend_loop _, key _ c₀ _ st (fun b u _ e => hk b u e) hS₁⟩)
  refine wpAny_bind (wpAny_rule ?_)
  refine wpAny_bind ?_
  show wpAny _ _ (updateSeq S' (·.push .none) >>= fun _ => updateSeq S' (·.pop)) _ _ _
  refine wpAny_bind (wpAny_updateSeq hS₁ rfl ?_)
  have hS₂ := Heap.get?_update_self (Obj.mapSeq (·.push Value.none)) hS₁ rfl
  refine wpAny_updateSeq (hz := by seq_fits) hS₂ rfl ?_
  have hS₃ := Heap.get?_update_self (Obj.mapSeq (·.pop)) hS₂ rfl
  refine wpAny_pure ⟨plainId_quiet PySem.F.plain_extend_loop _, key _ _ _ ?_ (fun b u hb e => ?_) hS₃⟩
  · refine st.frame fun b hb u e => ?_
    have hbS : b ≠ S' := fun h => hSf (h ▸ hb)
    exact (Heap.get?_update_other _ _ (Ne.symm hbS)).trans ((Heap.get?_update_other _ _ (Ne.symm hbS)).trans e)
  · exact (Heap.get?_update_other _ _ (Ne.symm hb)).trans ((Heap.get?_update_other _ _ (Ne.symm hb)).trans (hk b u e))
end
end L2
namespace L2
open PySem PySem.Spec PyProof.Rows PySem.W
def SetO (P : Program) (w : World) (p : Addr) (ks : List Key) : HO := .ext fun h => ∃ n, KSetI (mixKind P w) h p (fun k => k ∈ ks) n
section
variable {X : Cx}
theorem Inv.draw {pins : List (Addr × Obj)} {σ : St} {H : Hp} {s : Shared} {d : Drawn} (I : Inv X pins σ H s) : Inv X pins σ H { s with drawn := d } := ⟨I.ok, I.os, I.bare, I.base, I.loc, I.cell, I.free, I.freeC, I.pin, I.hok, I.len⟩
theorem key_val {P : Program} {w : World} {k : Key} {v : Value} (h : (mixKind P w).is k v = true) : RelV (kV k) v ∧ v.scannable = true := by
  have h' : keyIs k v = true := h
  rcases keyIs_shape h' with ⟨i, t, e1, e2⟩ | ⟨y, t, e1, e2⟩
  · rw [e1, e2]; exact ⟨⟨t, rfl⟩, rfl⟩
  · rw [e1, e2]; exact ⟨⟨t, rfl⟩, rfl⟩
theorem val_key {P : Program} {w : World} {k : Key} {v : Value} (h : RelV (kV k) v) : (mixKind P w).is k v = true := by
  show keyIs k v = true
  rcases k with i | y
  · obtain ⟨t, rfl⟩ := h
    simp [keyIs, Value.isInt]
  · obtain ⟨t, rfl⟩ := h
    simp [keyIs, Value.isStrOf]
theorem keys_of {P : Program} {w : World} : ∀ {l : List (Int × Value)}, ElemsOf (mixKind P w) l → l.Pairwise (Apart (mixKind P w)) → ∃ ms : List Key, Vals (ms.map kV) (l.map (·.2)) ∧ ms.Nodup ∧ ∀ k, k ∈ ms ↔ ∃ e ∈ l, (mixKind P w).is k e.2 = true
  | [], _, _ => ⟨[], .nil, List.nodup_nil, fun k => by simp⟩
  | e :: l, h, ha => by
    obtain ⟨ms, h1, h2, h3⟩ := keys_of h.tail (List.pairwise_cons.mp ha).2
    obtain ⟨⟨k, hk, _⟩, _⟩ := h.head
    refine ⟨k :: ms, .cons (key_val hk).1 h1, List.nodup_cons.mpr ⟨fun z => ?_, h2⟩, fun k' => ?_⟩
    · obtain ⟨f, hf, hfk⟩ := (h3 k).mp z
      exact (List.pairwise_cons.mp ha).1 f hf k hk hfk
    · rw [List.mem_cons, h3 k']
      constructor
      · rintro (rfl | ⟨f, hf, hfk⟩)
        · exact ⟨e, by simp, hk⟩
        · exact ⟨f, by simp [hf], hfk⟩
      · rintro ⟨f, hf, hfk⟩
        rcases List.mem_cons.mp hf with rfl | hf
        · exact .inl ((mixKind P w).inj _ _ _ hfk hk)
        · exact .inr ⟨f, hf, hfk⟩
theorem vals_at : ∀ {xs : List V} {vs : List Value} {i : Nat} {v : Value}, Vals xs vs → vs[i]? = some v → ∃ x, xs[i]? = some x ∧ RelV x v
  | _, _, i, v, .nil, h => by simp at h
  | _, _, 0, v, .cons r t, h => by simp at h; subst h; exact ⟨_, rfl, r⟩
  | _, _, i + 1, v, .cons r t, h => by
    obtain ⟨x, h1, h2⟩ := vals_at (i := i) t (by simpa using h)
    exact ⟨x, by simpa using h1, h2⟩
theorem collect_set {pins : List (Addr × Obj)} {s : Shared} {σ : St} {H : Hp} {p : Addr} {ks : List Key} {A : Around} {E : Value → Shared → Prop} {Q : List Value → Shared → Prop} (I : Inv X pins σ H s) (hp : H p = some (SetO X.prog X.w p ks)) (hh : A.handled = none)
    (hq : ∀ vs s' (ms : List Key), Vals (ms.map kV) vs → ms.Nodup → (∀ k, k ∈ ms ↔ k ∈ ks) → Inv X pins σ H s' → Q vs s') : wpAny (model X.prog X.w) A (collect (.ref p)) Q E s := by
  obtain ⟨⟨n, o, es, ep, t, ho, Z, hn⟩, _, _⟩ := (show ObjOk X.prog X.w H s.heap p (SetO X.prog X.w p ks) from I.hok p _ hp)
  have grow : ∀ b o, s.heap.get? b = some o → (s.heap.push (seqObj "list" #[] 0)).get? b = some o := fun b o e => Heap.get?_push_of_some _ e
  have lp : p < s.heap.objs.size := Heap.lt_size ho
  unfold collect
  refine wpAny_bind (wpAny_runValue (codeAny_builtin entry_proto_collect' ?_))
  show wpAny _ _ (do again (.builtin "list.__iadd__" ⟨[← newList [], .ref p], []⟩)) _ _ s
  refine wpAny_bind (wpAny_newList (wpAny_pure ⟨Code.quiet_builtin _ (by decide +kernel), codeAny_builtin entry_list_iadd' ?_⟩))
  show wpAny _ _ (Builtin.List.listExtendWith (.ref s.heap.objs.size) (.ref p) (.ref s.heap.objs.size)) _ _ { s with heap := s.heap.push (seqObj "list" #[] 0) }
  rw [Around.under_plainId (show plainId "list.__iadd__" = true by decide +kernel) _]
  have fin : ∀ s' : Shared, (∃ acc c ord, s'.heap.get? s.heap.objs.size = some { cls := .type "list", dict := none, data := .seq acc c, slots := #[] } ∧ List.Perm ord es.toList ∧ acc.toList = ord.map (·.2) ∧ Inv X pins σ H s') →
      wpAny (model X.prog X.w) A (do
        let o ← load s.heap.objs.size
        match o.data with
        | .seq xs _ => pure xs.toList
        | _ => unsupported "internal:collect") Q E s' := by
    rintro s' ⟨acc, c, ord, hS, hpm, e, I'⟩
    refine wpAny_bind (wpAny_load hS ?_)
    show wpAny _ _ (pure acc.toList) Q E _
    obtain ⟨ms, h1, h2, h3⟩ := keys_of (Z.el.perm hpm) ((hpm.pairwise_iff (fun {x y} h => apart_symm h)).mpr Z.apart)
    refine wpAny_pure (hq _ _ ms (by rw [e]; exact h1) h2 (fun k => ?_) I')
    rw [h3 k, Z.mem k]
    exact ⟨fun ⟨f, hf, q⟩ => ⟨f, hpm.mem_iff.mp hf, q⟩, fun ⟨f, hf, q⟩ => ⟨f, hpm.mem_iff.mpr hf, q⟩⟩
  refine wpAny_mono (extend_set (R := fun r s' => r = .ok (.ret (.ref s.heap.objs.size)) ∧ ∃ acc c ord, s'.heap.get? s.heap.objs.size = some { cls := .type "list", dict := none, data := .seq acc c, slots := #[] } ∧ List.Perm ord es.toList ∧ acc.toList = ord.map (·.2) ∧ Inv X pins σ H s')
    (s := { s with heap := s.heap.push (seqObj "list" #[] 0) }) hh (grow _ _ ho) Z.o (Nat.ne_of_gt lp) _ 0 (Heap.get?_push_size _ rfl) (fun h' tk d acc c ord hk hS hpm hacc => ?_))
    (fun fi s' hf => ?_) (fun e s' he => nomatch he.1)
  · exact ⟨rfl, acc, c, ord, hS, hpm, hacc, (I.kept (t' := tk) fun b o eb => hk b o (Nat.ne_of_lt (Heap.lt_size eb)) (grow b o eb)).draw⟩
  · cases fi with
    | done f =>
      obtain ⟨e, g⟩ := hf
      cases e
      exact fin s' g
    | again c' =>
      refine ⟨hf.1, codeAny_mono hf.2 fun r s2 ⟨e, g⟩ => ?_⟩
      subst e
      exact fin s2 g
def rSortS (P : Program) (w : World) : List V → Hp → VK → Prop := fun xs H Q => ∃ (a : Addr) (ns : List Int), xs = [.ref a] ∧ H a = some (SetO P w a (ns.map Sum.inl)) ∧ ns.length < 64 ∧ ∀ p ms, H p = none → ms.Nodup → (∀ n, n ∈ ms ↔ n ∈ ns) → Q (.ref p) (upd H p (.lst ((sortI ms).map V.int)))
theorem inl_keys : ∀ {ms : List Key} {ns : List Int}, (∀ k, k ∈ ms ↔ k ∈ ns.map Sum.inl) → ∃ l : List Int, ms = l.map Sum.inl ∧ ∀ n, n ∈ l ↔ n ∈ ns := by
  intro ms ns h
  have hx : ∀ k ∈ ms, ∃ n : Int, k = Sum.inl n := fun k hk => by
    obtain ⟨n, _, rfl⟩ := List.mem_map.mp ((h k).mp hk)
    exact ⟨n, rfl⟩
  have : ∀ ms : List Key, (∀ k ∈ ms, ∃ n : Int, k = Sum.inl n) → ∃ l : List Int, ms = l.map Sum.inl := by
    intro ms
    induction ms with
    | nil => intro _; exact ⟨[], rfl⟩
    | cons k r ih =>
      intro hx
      obtain ⟨n, rfl⟩ := hx k (by simp)
      obtain ⟨l, rfl⟩ := ih fun k hk => hx k (by simp [hk])
      exact ⟨n :: l, rfl⟩
  obtain ⟨l, rfl⟩ := this ms hx
  refine ⟨l, rfl, fun n => ?_⟩
  have := h (Sum.inl n)
  simpa using this
theorem call_sortS (hc : X.calm = true) : CallR X (.builtin "sorted") (rSortS X.prog X.w) := by
  intro pins s σ H xs us Q I r h
  obtain ⟨a, ns, rfl, ha, h64, q⟩ := h
  obtain ⟨u, rfl, ru⟩ := vals1 r
  cases ru
  refine Calls.call_function_entry kind_sorted plain_sorted entry_sorted (args_sorted1 _) ?_
  unfold Builtin.«sorted»
  refine wpAny_bind (m := checkCount "sorted" 1 1 _) (wpAny_pure ?_)
  refine wpAny_bind (collect_set I ha (I.ok.hd hc) fun vs s1 mk rvk hnd hmem I1 => ?_)
  obtain ⟨ms, rfl, hms⟩ := inl_keys hmem
  have hnd' : ms.Nodup := (List.pairwise_map.mp hnd).imp fun h z => h (by rw [z])
  have rv : Vals (ms.map V.int) vs := by rw [List.map_map] at rvk; exact rvk
  have hl := rv.length
  rw [List.length_map] at hl
  have h64' : ms.length < 64 := Nat.lt_of_le_of_lt (hnd'.length_le_of_subset fun n hn => (hms n).mp hn) h64
  refine wpAny_bind (wpAny_newList ?_ (by rw [sizeLine_eq]; omega))
  have fD : FpOk X pins H s1.heap.objs.size := I1.fpOk (Nat.le_refl _) (I1.hok.fresh (Nat.le_refl _))
  have hoL : (s1.heap.push (seqObj "list" vs.toArray 0)).get? s1.heap.objs.size = some (seqObj "list" vs.toArray 0) := Heap.get?_push_size _ rfl
  refine wpAny_bind (wpAny_holding (wpAny_call_entry slot_list_sort ⟨_, hoL, rfl⟩ entry_list_sort ?body (args_list_sort _)))
  case body =>
    refine list_sort_tree (s := { s1 with heap := s1.heap.push (seqObj "list" vs.toArray 0) }) hoL (ints_are rv) (by omega) fun out ns' hI hp hr => ⟨_, rfl, ?_⟩
    have e : ns' = sortI ms := eq_sortI hp hr
    subst e
    obtain ⟨c, hat⟩ := sortedHeap_at (out := out) hoL
    refine wpAny_pure ⟨_, rfl, .ref s1.heap.objs.size, upd H s1.heap.objs.size (.lst ((sortI ms).map V.int)), ?_, rfl, q _ ms fD.1 hnd' hms⟩
    have I3 : Inv X pins σ H { s1 with heap := sortedHeap (s1.heap.push (seqObj "list" vs.toArray 0)) s1.heap.objs.size vs out } := I1.kept (t' := s1.toks) fun b o e => by
      have hb : b ≠ s1.heap.objs.size := Nat.ne_of_lt (Heap.lt_size e)
      rw [sortedHeap_old hb (by rw [Heap.size_push]; exact Nat.lt_succ_of_lt (Heap.lt_size e))]
      exact Heap.get?_push_of_some _ e
    refine I3.track fD ⟨?_, out.toList, c, are_ints hI, ?_⟩
    · rw [List.length_map, (sortI_perm ms).length_eq, sizeLine_eq]; omega
    · simpa [seqObj] using hat
theorem k_sortS (P : Program) (w : World) (hc : X.calm = true) (hp : X.prog = P := by rfl) (hw : X.w = w := by rfl) : CallR X (.builtin "sorted") (rSortS P w) := by subst hp; subst hw; exact call_sortS hc
end
theorem sortI_set {ms ns : List Int} (hd : ms.Nodup) (h : ∀ n, n ∈ ms ↔ n ∈ ns) (hr : ns.Pairwise (· < ·)) : sortI ms = ns := by
  refine (eq_sortI (ns := ms) ?_ (hr.imp fun h => Int.le_of_lt h)).symm
  exact ((List.perm_ext_iff_of_nodup (hr.imp fun h => Int.ne_of_lt h) hd).mpr fun n => (h n).symm)
end L2
namespace L2
open PySem PySem.Spec PyProof.Rows PySem.W
theorem for_it {J : It} {n : Nat} {g : TG} {tb : TS} {D : Ends} {σ : St} {H : Hp} (Pv : Nat → St → Hp → Prop) (h0 : Pv 0 σ H)
    (hs : ∀ i σ H, i < n → Pv i σ H → J.go i H ∧ ∀ x H', J.yld i H x H' → g x σ H' fun σ2 H2 => tb { D with nx := Pv (i + 1), ct := Pv (i + 1), bk := D.nx } σ2 H2) (hd : ∀ σ H, Pv n σ H → J.stop n H ∧ D.nx σ H) :
    ∃ W : Nat → Nat → St → Hp → Prop, (∃ m, W 0 m σ H) ∧ ∀ i m σ H, W i m σ H →
      (J.stop i H ∧ D.nx σ H) ∨ (J.go i H ∧ ∃ N : St → Hp → Prop, (∀ σ' H', N σ' H' → ∃ m', m' < m ∧ W (i + 1) m' σ' H') ∧ ∀ x H', J.yld i H x H' → g x σ H' fun σ2 H2 => tb { D with nx := N, ct := N, bk := D.nx } σ2 H2) := by
  refine ⟨fun i m σ H => m = n - i ∧ i ≤ n ∧ Pv i σ H, ⟨n, by simp, Nat.zero_le _, h0⟩, ?_⟩
  rintro i m σ H ⟨rfl, hi, p⟩
  by_cases z : i < n
  · obtain ⟨g1, g2⟩ := hs i σ H z p
    exact .inr ⟨g1, Pv (i + 1), fun σ' H' q => ⟨n - (i + 1), by omega, rfl, z, q⟩, g2⟩
  · have e : i = n := by omega
    subst e
    exact .inl (hd σ H p)
end L2
namespace L2
open PySem PySem.Spec PyProof.Rows PySem.W
abbrev HL := List (Str × HA)
def fpH (l : HL) : List Addr := l.flatMap fun x => x.2.fp
structure SA where
  p : Addr
  hd : Addr
  st : Addr
def SA.own (a : SA) : List Addr := [a.p, a.hd, a.st]
def SA.fp (a : SA) (l : HL) : List Addr := a.own ++ fpH l
end L2
namespace L2
open PySem PySem.Spec PyProof.Rows PySem.W
abbrev NM := Str × Msg
def n3 (n : Str) : Prop := n = "s" ∨ n = "t" ∨ n = "uu"
end L2
namespace L2
open PySem PySem.Spec PyProof.Rows PySem.W
structure SOrd (n : Nat) (lt : Nat → Nat → Bool) : Prop where
  tri : ∀ i j, i < n → j < n → i ≠ j → lt i j = !lt j i
  tr : ∀ i j k, i < n → j < n → k < n → lt i j = true → lt j k = true → lt i k = true
def Pm (n : Nat) (p : Array Nat) : Prop := p.toList.Perm (List.range n)
theorem Pm.size {n : Nat} {p : Array Nat} (h : Pm n p) : p.size = n := by
  have := List.Perm.length_eq h
  rwa [Array.length_toList, List.length_range] at this
theorem Pm.get {n : Nat} {p : Array Nat} (h : Pm n p) {i : Nat} (hi : i < n) : p[i]? = some (p.getD i 0) := by
  have hs := h.size
  rw [Array.getD_eq_getD_getElem?, Array.getElem?_eq_getElem (by omega)]; rfl
theorem Pm.lt {n : Nat} {p : Array Nat} (h : Pm n p) {i : Nat} (hi : i < n) : p.getD i 0 < n := by
  have e := h.get hi
  have : p.getD i 0 ∈ p.toList := by
    rw [← Array.getElem?_toList] at e
    exact List.mem_of_getElem? e
  exact List.mem_range.mp ((List.Perm.mem_iff h).mp this)
theorem Pm.ne {n : Nat} {p : Array Nat} (h : Pm n p) {i j : Nat} (hi : i < n) (hj : j < n) (hij : i ≠ j) : p.getD i 0 ≠ p.getD j 0 := by
  have hs := h.size
  have hn : p.toList.Nodup := (List.Perm.nodup_iff h).mpr List.nodup_range
  intro e
  have e1 := h.get hi
  have e2 := h.get hj
  rw [← Array.getElem?_toList] at e1 e2
  rw [← e] at e2
  exact hij ((List.getElem?_inj (by rw [Array.length_toList]; omega) hn).mp (e1.trans e2.symm))
def AscT (lt : Nat → Nat → Bool) (p : Array Nat) (b : Nat) : Prop := ∀ i j, i < j → j < b → lt (p.getD i 0) (p.getD j 0) = true
def DescT (lt : Nat → Nat → Bool) (p : Array Nat) (b : Nat) : Prop := ∀ i j, i < j → j < b → lt (p.getD j 0) (p.getD i 0) = true
section
variable {cmp : Nat → Nat → (Bool → Shared → Prop) → Shared → Prop} {lt : Nat → Nat → Bool} {n : Nat} {s : Shared}
theorem AscT.more {p : Array Nat} (S : SOrd n lt) (hp : Pm n p) {k : Nat} (h : AscT lt p k) (hk : 1 ≤ k) (hn : k < n) (hl : lt (p.getD (k - 1) 0) (p.getD k 0) = true) : AscT lt p (k + 1) := by
  intro i j hij hj
  by_cases e : j = k
  · subst e
    by_cases e2 : i = j - 1
    · subst e2; exact hl
    · exact S.tr _ _ _ (hp.lt (by omega)) (hp.lt (by omega)) (hp.lt hn) (h i (j - 1) (by omega) (by omega)) hl
  · exact h i j hij (by omega)
theorem asc_wp2 {p : Array Nat} {G : Nat → Shared → Prop} (S : SOrd n lt) (hp : Pm n p) (hc : ∀ i j, i < n → j < n → i ≠ j → ∀ C, C (lt i j) s → cmp i j C s) : ∀ (f k : Nat), 1 ≤ k → k + f = n → AscT lt p k →
    (∀ r, k ≤ r → r ≤ n → AscT lt p r → (r < n → lt (p.getD r 0) (p.getD (r - 1) 0) = true) → G r s) → (kas_asc p f k).kasWp cmp G s
  | 0, k, hk, e, ha, h => h k (Nat.le_refl _) (by omega) ha fun z => by omega
  | f + 1, k, hk, e, ha, h => by
    show cmp (p.getD k 0) (p.getD (k - 1) 0) (fun c s' => (if c = true then KasT.ret k else kas_asc p f (k + 1)).kasWp cmp G s') s
    refine hc _ _ (hp.lt (by omega)) (hp.lt (by omega)) (hp.ne (by omega) (by omega) (by omega)) _ ?_
    cases hl : lt (p.getD k 0) (p.getD (k - 1) 0) with
    | true =>
      rw [if_pos rfl]
      exact h k (Nat.le_refl _) (by omega) ha fun _ => hl
    | false =>
      rw [if_neg Bool.false_ne_true]
      have hl2 : lt (p.getD (k - 1) 0) (p.getD k 0) = true := by rw [S.tri _ _ (hp.lt (by omega)) (hp.lt (by omega)) (hp.ne (by omega) (by omega) (by omega)), hl]; rfl
      exact asc_wp2 S hp hc f (k + 1) (by omega) (by omega) (ha.more S hp hk (by omega) hl2) fun r h1 h2 => h r (by omega) h2
theorem desc_wp2 {p : Array Nat} {G : Array Nat × Nat × Nat → Shared → Prop} (S : SOrd n lt) (hp : Pm n p) (hc : ∀ i j, i < n → j < n → i ≠ j → ∀ C, C (lt i j) s → cmp i j C s) : ∀ (f k : Nat), 2 ≤ k → k + f = n → DescT lt p k →
    (∀ r, k ≤ r → r ≤ n → DescT lt p r → G (p, r, 0) s) → (kas_desc f p k 0).kasWp cmp G s
  | 0, k, hk, e, ha, h => h k (Nat.le_refl _) (by omega) ha
  | f + 1, k, hk, e, ha, h => by
    unfold kas_desc
    unfold KasT.kasWp
    refine hc _ _ (hp.lt (by omega)) (hp.lt (by omega)) (hp.ne (by omega) (by omega) (by omega)) _ ?_
    dsimp only
    cases hl : lt (p.getD k 0) (p.getD (k - 1) 0) with
    | true =>
      rw [if_pos rfl, if_neg (Nat.lt_irrefl 0)]
      refine desc_wp2 S hp hc f (k + 1) (by omega) (by omega) (fun i j hij hj => ?_) fun r h1 h2 => h r (by omega) h2
      by_cases e1 : j = k
      · subst e1
        by_cases e2 : i = j - 1
        · subst e2; exact hl
        · exact S.tr _ _ _ (hp.lt (by omega)) (hp.lt (by omega)) (hp.lt (by omega)) hl (ha i (j - 1) (by omega) (by omega))
      · exact ha i j hij (by omega)
    | false =>
      rw [if_neg Bool.false_ne_true]
      unfold KasT.kasWp
      refine hc _ _ (hp.lt (by omega)) (hp.lt (by omega)) (hp.ne (by omega) (by omega) (by omega)) _ ?_
      have hl2 : lt (p.getD (k - 1) 0) (p.getD k 0) = true := by rw [S.tri _ _ (hp.lt (by omega)) (hp.lt (by omega)) (hp.ne (by omega) (by omega) (by omega)), hl]; rfl
      dsimp only
      rw [hl2, if_pos rfl]
      exact h k (Nat.le_refl _) (by omega) ha
theorem pm_rev {p : Array Nat} (hp : Pm n p) (i j : Nat) : Pm n (kas_rev p i j) := (Array.perm_iff_toList_perm.mp (mirror_perm p i j _)).trans hp
theorem rev_get {p : Array Nat} (hp : Pm n p) {r k : Nat} (hr : r ≤ n) : (kas_rev p 0 r).getD k 0 = if k < r then p.getD (r - 1 - k) 0 else p.getD k 0 := by
  have hs := hp.size
  unfold kas_rev
  rw [Array.getD_eq_getD_getElem?, getElem?_mirror_all (by omega)]
  by_cases h : k < r
  · rw [if_pos ⟨Nat.zero_le _, h⟩, if_pos h, Nat.zero_add, ← Array.getD_eq_getD_getElem?]
  · rw [if_neg (fun z => h z.2), if_neg h, ← Array.getD_eq_getD_getElem?]
theorem count_wp2 {G : Nat × Array Nat → Shared → Prop} {p : Array Nat} (S : SOrd n lt) (h1 : 1 ≤ n) (hp : Pm n p) (hc : ∀ i j, i < n → j < n → i ≠ j → ∀ C, C (lt i j) s → cmp i j C s)
    (h : ∀ r p', Pm n p' → 1 ≤ r → r ≤ n → AscT lt p' r → G (r, p') s) : (kas_count n p).kasWp cmp G s := by
  unfold kas_count
  rw [KasT.kasWp_bind]
  refine asc_wp2 S hp hc (n - 1) 1 (Nat.le_refl _) (by omega) (fun i j hij hj => by omega) fun r r1 r2 ha hd => ?_
  by_cases e : r = n
  · subst e
    rw [if_pos (by simp)]
    exact h r p hp r1 (Nat.le_refl _) ha
  · rw [if_neg (by simp [e])]
    by_cases e1 : 1 < r
    · rw [if_pos e1]
      unfold KasT.kasWp
      refine hc _ _ (hp.lt (by omega)) (hp.lt (by omega)) (hp.ne (by omega) (by omega) (by omega)) _ ?_
      dsimp only
      rw [ha 0 (r - 1) (by omega) (by omega), if_pos rfl]
      exact h r p hp r1 r2 ha
    · rw [if_neg e1]
      obtain rfl : r = 1 := by omega
      unfold kas_descPart
      rw [KasT.kasWp_bind]
      refine desc_wp2 S hp hc (n - (1 + 1)) (1 + 1) (by omega) (by omega) (fun i j hij hj => ?_) fun m m1 m2 hm => ?_
      · obtain rfl : i = 0 := by omega
        obtain rfl : j = 1 := by omega
        exact hd (by omega)
      · dsimp only
        rw [if_neg (Nat.lt_irrefl 0)]
        unfold kas_tail3
        rw [KasT.kasWp_bind]
        refine asc_wp2 S (pm_rev hp 0 m) hc (n - m) m (by omega) (by omega) (fun i j hij hj => ?_) fun r r1 r2 ha _ => ?_
        · rw [rev_get hp m2, rev_get hp m2, if_pos (by omega), if_pos hj]
          exact hm _ _ (by omega) (by omega)
        · exact h r _ (pm_rev hp 0 m) (by omega) r2 ha
theorem place_wp2 {G : Nat → Shared → Prop} {p : Array Nat} (S : SOrd n lt) (hp : Pm n p) (hc : ∀ i j, i < n → j < n → i ≠ j → ∀ C, C (lt i j) s → cmp i j C s) {k : Nat} (hk : k < n) (ha : AscT lt p k) : ∀ (f l r : Nat), l ≤ r → r ≤ k → r - l ≤ f →
    (∀ i, i < l → lt (p.getD i 0) (p.getD k 0) = true) → (∀ i, r ≤ i → i < k → lt (p.getD k 0) (p.getD i 0) = true) →
    (∀ m, m ≤ k → (∀ i, i < m → lt (p.getD i 0) (p.getD k 0) = true) → (∀ i, m ≤ i → i < k → lt (p.getD k 0) (p.getD i 0) = true) → G m s) → (kas_place p k f l r).kasWp cmp G s
  | 0, l, r, h1, h2, h3, a1, a2, h => by
    obtain rfl : l = r := by omega
    exact h l h2 a1 a2
  | f + 1, l, r, h1, h2, h3, a1, a2, h => by
    unfold kas_place
    by_cases e : l ≥ r
    · rw [if_pos e]
      obtain rfl : l = r := by omega
      exact h l h2 a1 a2
    · rw [if_neg e]
      unfold KasT.kasWp
      refine hc _ _ (hp.lt hk) (hp.lt (by omega)) (hp.ne hk (by omega) (by omega)) _ ?_
      dsimp only
      cases hl : lt (p.getD k 0) (p.getD ((l + r) / 2) 0) with
      | true =>
        rw [if_pos rfl]
        refine place_wp2 S hp hc hk ha f l ((l + r) / 2) (by omega) (by omega) (by omega) a1 (fun i i1 i2 => ?_) h
        by_cases e2 : i = (l + r) / 2
        · rw [e2]; exact hl
        · exact S.tr _ _ _ (hp.lt hk) (hp.lt (by omega)) (hp.lt (by omega)) hl (ha _ i (by omega) i2)
      | false =>
        rw [if_neg Bool.false_ne_true]
        have hl2 : lt (p.getD ((l + r) / 2) 0) (p.getD k 0) = true := by rw [S.tri _ _ (hp.lt (by omega)) (hp.lt hk) (hp.ne (by omega) hk (by omega)), hl]; rfl
        refine place_wp2 S hp hc hk ha f ((l + r) / 2 + 1) r (by omega) h2 (by omega) (fun i i1 => ?_) a2 h
        by_cases e2 : i = (l + r) / 2
        · rw [e2]; exact hl2
        · exact S.tr _ _ _ (hp.lt (by omega)) (hp.lt (by omega)) (hp.lt hk) (ha i _ (by omega) (by omega)) hl2
theorem bin_wp2 {G : Array Nat → Shared → Prop} (S : SOrd n lt) (hc : ∀ i j, i < n → j < n → i ≠ j → ∀ C, C (lt i j) s → cmp i j C s) (h : ∀ p', Pm n p' → AscT lt p' n → G p' s) : ∀ (f : Nat) (p : Array Nat) (k : Nat), Pm n p → k + f = n → AscT lt p k → (kas_bin f p k).kasWp cmp G s
  | 0, p, k, hp, e, ha => by
    obtain rfl : k = n := by omega
    exact h p hp ha
  | f + 1, p, k, hp, e, ha => by
    have hs := hp.size
    unfold kas_bin
    rw [KasT.kasWp_bind]
    refine place_wp2 S hp hc (by omega) ha k 0 k (Nat.zero_le _) (Nat.le_refl _) (by omega) (fun i hi => by omega) (fun i h1 h2 => by omega) fun m m1 a1 a2 => ?_
    refine bin_wp2 S hc h f _ (k + 1) ((Array.perm_iff_toList_perm.mp (bubble_perm p k (k - m))).trans hp) (by omega) ?_
    have g : ∀ i, (bubble p k (k - m)).getD i 0 = if i = m then p.getD k 0 else if m < i ∧ i ≤ k then p.getD (i - 1) 0 else p.getD i 0 := fun i => by
      rw [Array.getD_eq_getD_getElem?, getElem?_bubble (by omega) (k - m) (by omega), show k - (k - m) = m by omega]
      by_cases z : i = m
      · rw [if_pos z, if_pos z, ← Array.getD_eq_getD_getElem?]
      · rw [if_neg z, if_neg z]
        by_cases z2 : m < i ∧ i ≤ k
        · rw [if_pos z2, if_pos z2, ← Array.getD_eq_getD_getElem?]
        · rw [if_neg z2, if_neg z2, ← Array.getD_eq_getD_getElem?]
    intro i j hij hj
    rw [g, g]
    by_cases i1 : i = m
    · rw [if_pos i1, if_neg (by omega), if_pos ⟨by omega, by omega⟩]
      exact a2 _ (by omega) (by omega)
    · rw [if_neg i1]
      by_cases i2 : m < i
      · rw [if_pos ⟨i2, by omega⟩, if_neg (by omega), if_pos ⟨by omega, by omega⟩]
        exact ha _ _ (by omega) (by omega)
      · rw [if_neg (fun z => i2 z.1)]
        by_cases j1 : j = m
        · rw [if_pos j1]
          exact a1 i (by omega)
        · rw [if_neg j1]
          by_cases j2 : m < j
          · rw [if_pos ⟨j2, by omega⟩]
            exact ha _ _ (by omega) (by omega)
          · rw [if_neg (fun z => j2 z.1)]
            exact ha _ _ hij (by omega)
theorem sort_wp2 {G : Array Nat → Shared → Prop} (S : SOrd n lt) (h1 : 1 ≤ n) (hc : ∀ i j, i < n → j < n → i ≠ j → ∀ C, C (lt i j) s → cmp i j C s) (h : ∀ p', Pm n p' → AscT lt p' n → G p' s) : (kas_sort n).kasWp cmp G s := by
  unfold kas_sort
  rw [KasT.kasWp_bind]
  refine count_wp2 S h1 (by unfold Pm; simp) hc fun r p' hp r1 r2 ha => ?_
  dsimp only
  by_cases e : r < n
  · rw [if_pos e, show max r 1 = r by omega]
    exact bin_wp2 S hc h (n - r) p' r hp (by omega) ha
  · rw [if_neg e]
    obtain rfl : r = n := by omega
    exact h p' hp ha
end
end L2
namespace L2
open PySem PySem.Spec PyProof.Rows PySem.W
def ltK : Key → Key → Bool
  | .inl a, .inl b => decide (a < b)
  | .inr a, .inr b => decide (a.cps.toList < b.cps.toList)
  | _, _ => false
def OneKind (kz : List Key) : Prop := (∀ k ∈ kz, ∃ i, k = Sum.inl i) ∨ ∀ k ∈ kz, ∃ t, k = Sum.inr t
def KeyAll (H : Hp) (xs : List V) (kz : List Key) : Prop := kz.length = xs.length ∧ ∀ (i : Nat) x k, xs[i]? = some x → kz[i]? = some k → ∃ a r, x = .ref a ∧ H a = some (.tup (kV k :: r))
theorem str_ext {a b : Str} (h : a.cps.toList = b.cps.toList) : a = b := by
  have e2 : a.cps = b.cps := Array.toList_inj.mp h
  cases a; cases b; simp only at e2; subst e2; rfl
theorem kord {kz : List Key} (hk : OneKind kz) (hn : kz.Nodup) : SOrd kz.length (fun i j => ltK (kz.getD i (.inl 0)) (kz.getD j (.inl 0))) := by
  have gm : ∀ i, i < kz.length → kz.getD i (.inl 0) ∈ kz := fun i hi => by
    have : kz.getD i (.inl 0) = kz[i] := by simp [List.getD, hi]
    rw [this]; exact List.getElem_mem hi
  have gn : ∀ i j, i < kz.length → j < kz.length → i ≠ j → kz.getD i (.inl 0) ≠ kz.getD j (.inl 0) := fun i j hi hj hij e => by
    have e1 : kz[i]? = some (kz.getD i (.inl 0)) := by simp [List.getD, hi]
    have e2 : kz[j]? = some (kz.getD j (.inl 0)) := by simp [List.getD, hj]
    rw [← e] at e2
    exact hij ((List.getElem?_inj hi hn).mp (e1.trans e2.symm))
  constructor
  · intro i j hi hj hij
    have hne := gn i j hi hj hij
    have m1 := gm i hi
    have m2 := gm j hj
    generalize kz.getD i (.inl 0) = a at hne m1 ⊢
    generalize kz.getD j (.inl 0) = b at hne m2 ⊢
    rcases hk with hk | hk
    · obtain ⟨x, rfl⟩ := hk a m1
      obtain ⟨y, rfl⟩ := hk b m2
      have : x ≠ y := fun z => hne (by rw [z])
      show decide (x < y) = !decide (y < x)
      by_cases z : x < y
      · rw [decide_eq_true z, decide_eq_false (by omega)]; rfl
      · rw [decide_eq_false z, decide_eq_true (by omega)]; rfl
    · obtain ⟨x, rfl⟩ := hk a m1
      obtain ⟨y, rfl⟩ := hk b m2
      have hxy : x ≠ y := fun z => hne (by rw [z])
      show decide (x.cps.toList < y.cps.toList) = !decide (y.cps.toList < x.cps.toList)
      by_cases z : x.cps.toList < y.cps.toList
      · rw [decide_eq_true z, decide_eq_false (fun w => List.lt_irrefl _ (List.lt_trans z w))]; rfl
      · rw [decide_eq_false z]
        by_cases z2 : y.cps.toList < x.cps.toList
        · rw [decide_eq_true z2]; rfl
        · exact absurd (str_ext (List.le_antisymm (List.not_lt.mp z2) (List.not_lt.mp z))) hxy
  · intro i j k hi hj hk' h1 h2
    have m1 := gm i hi
    have m2 := gm j hj
    have m3 := gm k hk'
    generalize kz.getD i (.inl 0) = a at m1 h1 ⊢
    generalize kz.getD j (.inl 0) = b at m2 h1 h2
    generalize kz.getD k (.inl 0) = c at m3 h2 ⊢
    rcases hk with hk | hk
    · obtain ⟨x, rfl⟩ := hk a m1
      obtain ⟨y, rfl⟩ := hk b m2
      obtain ⟨z, rfl⟩ := hk c m3
      have h1' : x < y := of_decide_eq_true h1
      have h2' : y < z := of_decide_eq_true h2
      exact decide_eq_true (show x < z by omega)
    · obtain ⟨x, rfl⟩ := hk a m1
      obtain ⟨y, rfl⟩ := hk b m2
      obtain ⟨z, rfl⟩ := hk c m3
      have h1' : x.cps.toList < y.cps.toList := of_decide_eq_true h1
      have h2' : y.cps.toList < z.cps.toList := of_decide_eq_true h2
      exact decide_eq_true (show x.cps.toList < z.cps.toList from List.lt_trans h1' h2')
def FirstAt (h : Heap) (vs : List Value) (kz : List Key) : Prop := kz.length = vs.length ∧ ∀ (i : Nat) v k, vs[i]? = some v → kz[i]? = some k → ∃ a o xs n u, v = .ref a ∧ h.get? a = some o ∧ o.cls = .type "tuple" ∧ o.data = .seq xs n ∧ xs[0]? = some u ∧ RelV (kV k) u
section
variable {X : Cx} {pins : List (Addr × Obj)} {σ : St} {H : Hp} {s : Shared} {A : Around} {E : Value → Shared → Prop} {a : Addr} {vs : List Value} {P : PySem.Fin → Shared → Prop}
theorem first_tups {h : Heap} : ∀ {vs : List Value} {kz : List Key}, FirstAt h vs kz → ∃ fs, KatTups h vs fs ∧ fs.length = vs.length ∧ ∀ v ∈ fs, ∃ k ∈ kz, RelV (kV k) v
  | [], [], _ => ⟨[], trivial, rfl, fun _ h => nomatch h⟩
  | [], _ :: _, e => by have := e.1; simp at this
  | _ :: _, [], e => by have := e.1; simp at this
  | v :: vs, k :: ks, e => by
    obtain ⟨fs, h1, h2, h3⟩ := first_tups (vs := vs) (kz := ks) ⟨by have := e.1; simpa using this, fun i v' k' a1 a2 => e.2 (i + 1) v' k' (by simpa using a1) (by simpa using a2)⟩
    obtain ⟨a, o, xs, n, u, rfl, ho, hc, hd, hx, ru⟩ := e.2 0 v k rfl rfl
    refine ⟨u :: fs, ⟨⟨a, o, xs, n, rfl, ho, hc, hd, hx⟩, h1⟩, by simp [h2], fun w hw => ?_⟩
    rcases List.mem_cons.mp hw with q | q
    · subst q; exact ⟨k, List.mem_cons_self, ru⟩
    · obtain ⟨k', m, r⟩ := h3 w q
      exact ⟨k', List.mem_cons_of_mem _ m, r⟩
theorem lt_tupK {x y : Addr} {ox oy : Obj} {xs ys : Array Value} {n k : Nat} {i j : Key} {u v : Value} {Q : Bool → Shared → Prop} (hx : s.heap.get? x = some ox) (dx : ox.data = .seq xs n) (hy : s.heap.get? y = some oy) (dy : oy.data = .seq ys k) (fx : xs[0]? = some u) (fy : ys[0]? = some v)
    (ru : RelV (kV i) u) (rv : RelV (kV j) v) (hk : (∃ a b, i = Sum.inl a ∧ j = Sum.inl b) ∨ ∃ a b, i = Sum.inr a ∧ j = Sum.inr b)
    (hij : i ≠ j) (h : Q (ltK i j) s) : wpAny (model X.prog X.w) A (keyLt' (tuples' true) (.ref x) (.ref y)) Q E s := by
  refine kat_lt hx dx hy dy ?_
  obtain ⟨xr, ex⟩ : ∃ r, xs.toList = u :: r := by
    cases q : xs.toList with
    | nil => rw [← Array.getElem?_toList, q] at fx; cases fx
    | cons z r => rw [← Array.getElem?_toList, q] at fx; cases fx; exact ⟨r, rfl⟩
  obtain ⟨yr, ey⟩ : ∃ r, ys.toList = v :: r := by
    cases q : ys.toList with
    | nil => rw [← Array.getElem?_toList, q] at fy; cases fy
    | cons z r => rw [← Array.getElem?_toList, q] at fy; cases fy; exact ⟨r, rfl⟩
  rw [ex, ey]
  rcases hk with ⟨a, b, rfl, rfl⟩ | ⟨a, b, rfl, rfl⟩
  · obtain ⟨t, rfl⟩ := ru
    obtain ⟨t', rfl⟩ := rv
    show KatLex X.prog X.w A true _ Q ((Value.int a t, Value.int b t') :: xr.zip yr) 0 s
    refine kat_cons (SeqAt.EqAt.int_int a t b t' X.prog X.w _ _ ?_)
    have e : (a == b) = false := beq_eq_false_iff_ne.mpr fun z => hij (by rw [z])
    rw [e]
    exact kat_no (oneLt_int h)
  · obtain ⟨t, rfl⟩ := ru
    obtain ⟨t', rfl⟩ := rv
    show KatLex X.prog X.w A true _ Q ((Value.str a t, Value.str b t') :: xr.zip yr) 0 s
    refine kat_cons (SeqAt.EqAt.str_str a t b t' X.prog X.w _ _ ?_)
    have e : (a == b) = false := beq_eq_false_iff_ne.mpr fun z => hij (by rw [z])
    rw [e]
    exact kat_no (oneLt_str h)
theorem so_tupK {n : Nat} {kz : List Key} (I : Inv X pins σ H s) (ho : s.heap.get? a = some (seqObj "list" vs.toArray n)) (fa : FpOk X pins H a) (h64 : vs.length < 64) (hok : OneKind kz) (hnd : kz.Nodup) (first : ∀ s', Inv X pins σ H s' → FirstAt s'.heap vs kz)
    (h : ∀ (s' : Shared) (c : Nat) (is : List Nat), Inv X pins σ H s' → is.Perm (List.range vs.length) → (is.map fun i => kz.getD i (.inl 0)).Pairwise (fun x y => ltK x y = true) → s'.heap.get? a = some (seqObj "list" (is.map fun i => vs.getD i Value.none).toArray c) → P (.done (.ret .none)) s') : wpAny (model X.prog X.w) A (Builtin.«list.sort» ⟨[.ref a], []⟩) P E s := by
  obtain ⟨e1, ho1⟩ : ∃ e1, (s.heap.update a (Obj.mapSeq fun _ => (#[] : Array Value))).get? a = some (seqObj "list" #[] e1) := ⟨_, get?_update_seq ho fun _ => #[]⟩
  have I1 := I.upd1 (t' := s.toks) (f := fun _ => (#[] : Array Value)) fa
  have I2 : Inv X pins σ H { s with heap := (s.heap.update a (Obj.mapSeq fun _ => (#[] : Array Value))).push (seqObj "tuple" vs.toArray 0) } := I1.kept (t' := s.toks) fun b o e => Heap.get?_push_of_some _ e
  have I3 : Inv X pins σ H { s with heap := ((s.heap.update a (Obj.mapSeq fun _ => (#[] : Array Value))).push (seqObj "tuple" vs.toArray 0)).push (seqObj "list" #[] 0) } := I2.kept (t' := s.toks) fun b o e => Heap.get?_push_of_some _ e
  have ho3 : (((s.heap.update a (Obj.mapSeq fun _ => (#[] : Array Value))).push (seqObj "tuple" vs.toArray 0)).push (seqObj "list" #[] 0)).get? a = some (seqObj "list" #[] e1) := Heap.get?_push_of_some _ (Heap.get?_push_of_some _ ho1)
  rw [list_sort_plain]
  refine wpAny_bind (listItems_at ho rfl ?_)
  refine wpAny_bind (listUpdate_at ho rfl ?_ (by rw [List.size_toArray, sizeLine_eq]; omega) (Nat.zero_le _))
  refine wpAny_bind (seqEpoch_at ho1 rfl ?_)
  refine wpAny_bind (wpAny_newTuple ?_ (by show vs.length ≤ _; rw [sizeLine_eq]; omega))
  refine wpAny_bind (wpAny_newList ?_ (Nat.zero_le _))
  refine wpAny_holding ?_
  show wpAny (model X.prog X.w) A _ P E { s with heap := ((s.heap.update a (Obj.mapSeq fun _ => (#[] : Array Value))).push (seqObj "tuple" vs.toArray 0)).push (seqObj "list" #[] 0) }
  dsimp only
  have fin : ∀ (st : SortSt) (is : List Nat), (arrOf st).map (·.2) = (is.map fun i => vs.getD i Value.none).toArray → is.Perm (List.range vs.length) → (is.map fun i => kz.getD i (.inl 0)).Pairwise (fun x y => ltK x y = true) → failedOf st = none → wpAny (model X.prog X.w) A (do
      let sorted := (arrOf st).map (·.2)
      let touched := (← seqEpoch a) != e1
      Builtin.List.listUpdate (.ref a) fun _ => sorted
      if let some e := failedOf st then rule "list.sort.comparison-raised"; throw e
      if touched then rule "list.sort.modified"; raiseError "ValueError" "list modified during sort"
      ret .none) P E { s with heap := ((s.heap.update a (Obj.mapSeq fun _ => (#[] : Array Value))).push (seqObj "tuple" vs.toArray 0)).push (seqObj "list" #[] 0) } := by
    intro st is hst hpm hpw hf
    dsimp only
    rw [hst]
    obtain ⟨c2, hc2⟩ : ∃ c2, ((((s.heap.update a (Obj.mapSeq fun _ => (#[] : Array Value))).push (seqObj "tuple" vs.toArray 0)).push (seqObj "list" #[] 0)).update a (Obj.mapSeq fun _ => (is.map fun i => vs.getD i Value.none).toArray)).get? a = some (seqObj "list" (is.map fun i => vs.getD i Value.none).toArray c2) := ⟨_, get?_update_seq ho3 fun _ => (is.map fun i => vs.getD i Value.none).toArray⟩
    have hil := hpm.length_eq
    rw [List.length_range] at hil
    refine wpAny_bind (seqEpoch_at ho3 rfl ?_)
    refine wpAny_bind (listUpdate_at ho3 rfl ?_ (Nat.zero_le _) (by rw [List.size_toArray, List.length_map, sizeLine_eq]; omega))
    rw [hf]
    simp only [bne_self_eq_false, Bool.false_eq_true, if_false]
    exact wpAny_pure (h _ c2 is (I3.upd1 (t' := s.toks) fa) hpm hpw hc2)
  have hf3 := first _ I3
  by_cases h2 : vs.toArray.size < 2
  · rw [if_pos h2, if_pos h2]
    refine wpAny_bind (wpAny_pure ?_)
    rw [StateT.run_pure]
    refine wpAny_bind (wpAny_pure ?_)
    refine fin (SortSt.mk' general' (vs.toArray.zip vs.toArray) #[] 7 none) (List.range vs.length) ?_ (List.Perm.refl _) ?_ rfl
    · rw [getD_range]
      show (vs.toArray.zip vs.toArray).map (·.2) = vs.toArray
      apply Array.toList_inj.mp
      simp [List.map_snd_zip]
    · rw [List.size_toArray] at h2
      have hl1 : ((List.range vs.length).map fun i => kz.getD i (.inl 0)).length < 2 := by rw [List.length_map, List.length_range]; exact h2
      generalize ((List.range vs.length).map fun i => kz.getD i (.inl 0)) = l at hl1
      match l, hl1 with
      | [], _ => exact .nil
      | [_], _ => exact List.pairwise_singleton _ _
      | _ :: _ :: _, z => exact absurd z (by simp)
  · rw [if_neg h2, if_neg h2]
    rw [List.size_toArray] at h2
    obtain ⟨fs, ht, hfl, hfi⟩ := first_tups hf3
    have hkz := hf3.1
    obtain ⟨T, hT, hTe, hTn⟩ : ∃ T : Value, (∀ v ∈ fs, Looks (model X.prog X.w) ((((s.heap.update a (Obj.mapSeq fun _ => (#[] : Array Value))).push (seqObj "tuple" vs.toArray 0)).push (seqObj "list" #[] 0))) (typeOf v) T) ∧ (T == T) = true ∧ (T != Value.type "tuple") = true := by
      rcases hok with hk | hk
      · refine ⟨.type "int", fun v hv => ?_, by decide, by decide⟩
        obtain ⟨k, hm, r⟩ := hfi v hv
        obtain ⟨i, rfl⟩ := hk k hm
        obtain ⟨t, rfl⟩ := r
        exact Looks.of_pure rfl
      · refine ⟨.type "str", fun v hv => ?_, by decide, by decide⟩
        obtain ⟨k, hm, r⟩ := hfi v hv
        obtain ⟨i, rfl⟩ := hk k hm
        obtain ⟨t, rfl⟩ := r
        exact Looks.of_pure rfl
    refine wpAny_bind (kat_kind (T := T) ht (by omega) hT hTe ?_)
    rw [hTn]
    show wpAny _ _ _ _ _ _
    refine wpAny_bind (wpAny_mono (kat_run (κ := tuples' true) (ks := vs) (vs := vs) (Q := fun st' s' => (∃ is : List Nat, (arrOf st').map (·.2) = (is.map fun i => vs.getD i Value.none).toArray ∧ is.Perm (List.range vs.length) ∧ (is.map fun i => kz.getD i (.inl 0)).Pairwise (fun x y => ltK x y = true)) ∧ failedOf st' = none ∧ s' = { s with heap := ((s.heap.update a (Obj.mapSeq fun _ => (#[] : Array Value))).push (seqObj "tuple" vs.toArray 0)).push (seqObj "list" #[] 0) })
      (G := fun p s' => (Pm vs.length p ∧ AscT (fun i j => ltK (kz.getD i (.inl 0)) (kz.getD j (.inl 0))) p vs.length) ∧ s' = { s with heap := ((s.heap.update a (Obj.mapSeq fun _ => (#[] : Array Value))).push (seqObj "tuple" vs.toArray 0)).push (seqObj "list" #[] 0) }) rfl (by omega) h64 (fun p st' s' _ har hf hg => ?_) ?_) ?_ fun _ _ e => e)
    · obtain ⟨⟨hpm, hasc⟩, rfl⟩ := hg
      refine ⟨⟨p.toList, kat_snds rfl har, hpm, ?_⟩, hf, rfl⟩
      rw [List.pairwise_map, List.pairwise_iff_getElem]
      intro i j hi hj hij
      rw [Array.length_toList] at hi hj
      have hs := hpm.size
      have e1 : p.toList[i] = p.getD i 0 := by simp [Array.getD, hi]
      have e2 : p.toList[j] = p.getD j 0 := by simp [Array.getD, hj]
      rw [e1, e2]
      exact hasc i j hij (by omega)
    · refine sort_wp2 (lt := fun i j => ltK (kz.getD i (.inl 0)) (kz.getD j (.inl 0))) (by rw [← hkz]; exact kord hok hnd) (by omega) (fun i j hi hj hij C hC => ?_) fun p' hp ha => ⟨⟨hp, ha⟩, rfl⟩
      have ek : ∀ i, i < vs.length → kz[i]? = some (kz.getD i (.inl 0)) := fun i hi => by simp [List.getD, show i < kz.length by omega]
      obtain ⟨a1, o1, xs1, n1, u1, e1', g1, c1, d1, f1, r1⟩ := hf3.2 i vs[i] _ (List.getElem?_eq_getElem hi) (ek i hi)
      obtain ⟨a2, o2, xs2, n2, u2, e2', g2, c2, d2, f2, r2⟩ := hf3.2 j vs[j] _ (List.getElem?_eq_getElem hj) (ek j hj)
      show wpAny (model X.prog X.w) A (keyLt' (tuples' true) (vs.getD i Value.none) (vs.getD j Value.none)) C (fun _ _ => False) _
      have z1 : vs.getD i Value.none = .ref a1 := by simp [List.getD, List.getElem?_eq_getElem hi, e1']
      have z2 : vs.getD j Value.none = .ref a2 := by simp [List.getD, List.getElem?_eq_getElem hj, e2']
      rw [z1, z2]
      have m1 : kz.getD i (.inl 0) ∈ kz := List.mem_of_getElem? (ek i hi)
      have m2 : kz.getD j (.inl 0) ∈ kz := List.mem_of_getElem? (ek j hj)
      refine lt_tupK g1 d1 g2 d2 f1 f2 r1 r2 ?_ (fun z => hij ((List.getElem?_inj (by omega) hnd).mp ((ek i hi).trans (by rw [z]; exact (ek j hj).symm)))) hC
      rcases hok with hk | hk
      · obtain ⟨x, ex⟩ := hk _ m1
        obtain ⟨y, ey⟩ := hk _ m2
        exact .inl ⟨x, y, ex, ey⟩
      · obtain ⟨x, ex⟩ := hk _ m1
        obtain ⟨y, ey⟩ := hk _ m2
        exact .inr ⟨x, y, ex, ey⟩
    · rintro ⟨⟨⟩, st'⟩ s' ⟨⟨is, h1, h2, h3⟩, h4, rfl⟩
      exact fin st' is h1 h2 h3 h4
theorem first_of {xs : List V} {kz : List Key} (rv : Vals xs vs) (hn : KeyAll H xs kz) (I : Inv X pins σ H s) : FirstAt s.heap vs kz := by
  refine ⟨by rw [hn.1]; exact rv.length, fun i v k hv hk => ?_⟩
  obtain ⟨x, hx, rx⟩ := rv.back hv
  obtain ⟨a, r, rfl, ha⟩ := hn.2 i x k hx hk
  cases (show v = Value.ref a from rx)
  obtain ⟨hz, its, rt, o, e, c, n, d⟩ := (show ObjOk X.prog X.w H s.heap a (.tup (kV k :: r)) from I.hok a _ ha)
  cases rt with
  | cons r1 t1 => exact ⟨a, o, _, n, _, rfl, e, c, d, by simp, r1⟩
end
section
variable {X : Cx}
theorem vals_pick {xs : List V} {vs : List Value} (rv : Vals xs vs) {n : Nat} (hn : n = vs.length) : ∀ (is : List Nat), (∀ i ∈ is, i < n) → Vals (is.map fun i => xs.getD i .non) (is.map fun i => vs.getD i Value.none)
  | [], _ => .nil
  | i :: r, h => by
    subst hn
    have hi : i < vs.length := h i List.mem_cons_self
    obtain ⟨x, hx, rx⟩ := rv.back (List.getElem?_eq_getElem hi)
    have e1 : xs.getD i .non = x := by simp [List.getD, hx]
    have e2 : vs.getD i Value.none = vs[i] := by simp [List.getD, hi]
    rw [List.map_cons, List.map_cons, e1, e2]
    exact .cons rx (vals_pick rv rfl r fun j hj => h j (List.mem_cons_of_mem _ hj))
end
end L2
namespace L2
open PySem PySem.Spec PyProof.Rows PySem.W
theorem Ms.pick {H : Hp} {xs : List V} {ms : List Msg} (h : Ms H xs ms) : ∀ (is : List Nat), (∀ i ∈ is, i < ms.length) → ∃ ns : List Msg, Ms H (is.map fun i => xs.getD i .non) ns ∧ ns.map some = is.map fun i => ms[i]?
  | [], _ => ⟨[], Ms.nil, rfl⟩
  | i :: r, hi => by
    obtain ⟨ns, h1, h2⟩ := h.pick r fun j hj => hi j (List.mem_cons_of_mem _ hj)
    have hil := hi i List.mem_cons_self
    obtain ⟨c, e, hc⟩ := h.get hil
    have e1 : xs.getD i .non = .ref c := by simp [List.getD, e]
    refine ⟨ms[i] :: ns, ?_, by rw [List.map_cons, List.map_cons, h2, List.getElem?_eq_getElem hil]⟩
    rw [List.map_cons, e1]
    exact (Ms.one hc).append h1
theorem range_get {α : Type} (l : List α) : (List.range l.length).map (fun i => l[i]?) = l.map some := by
  refine List.ext_getElem (by simp) fun i h1 h2 => ?_
  simp at h1
  simp [h1]
theorem some_perm {α : Type} {a b : List α} (h : (a.map some).Perm (b.map some)) : a.Perm b := by
  have := h.filterMap id
  simpa [List.filterMap_map] using this
theorem rise_uniq : ∀ {a b : List Msg}, a.Perm b → a.Pairwise (fun x y => x.n < y.n) → b.Pairwise (fun x y => x.n < y.n) → a = b
  | [], b, h, _, _ => (List.nil_perm.mp h).symm ▸ rfl
  | x :: r, [], h, _, _ => by have := h.length_eq; simp at this
  | x :: r, y :: t, h, ha, hb => by
    have hx : x ∈ y :: t := h.mem_iff.mp List.mem_cons_self
    have hy : y ∈ x :: r := h.mem_iff.mpr List.mem_cons_self
    have e : x = y := by
      rcases List.mem_cons.mp hx with z | z
      · exact z
      rcases List.mem_cons.mp hy with w | w
      · exact w.symm
      have := (List.pairwise_cons.mp ha).1 y w
      have := (List.pairwise_cons.mp hb).1 x z
      omega
    subst e
    rw [rise_uniq (List.Perm.cons_inv h) (List.pairwise_cons.mp ha).2 (List.pairwise_cons.mp hb).2]
end L2
namespace L2
open PySem PySem.Spec PyProof.Rows PySem.W
abbrev LL := List (Str × LA)
end L2
namespace L2
open PySem PySem.Spec PyProof.Rows PySem.W Builtin.Str
section
variable {X : Cx}
def nT (n : Int) : Str := Str.ofString (toString n)
end
end L2
namespace L2
open PySem PySem.Spec PyProof.Rows PySem.W Builtin.Str
def GMap (H : Hp) (vs : List V) : Nat → List V → Hp → Prop := fun i ys H2 => Same H H2 ∧ ys = vs.take i
section
variable {K : PySem.W.Frag} {a : Addr} {xs vs : List V} {g : TG} {tc : TT} {te : TE} {τ : St} {H : Hp}
theorem GMap.zero : GMap H vs 0 [] H := ⟨Same.refl H, by simp⟩
theorem GMap.step (ha : ∀ H', Same H H' → SqL K H' a xs) (hl : vs.length = xs.length)
    (hs : ∀ (i : Nat) x v H3 (R : VK) (N : Hp → Prop), xs[i]? = some x → vs[i]? = some v → Same H H3 → (∀ H4, Same H H4 → R v H4) → g x τ H3 fun σ4 H4 => tc σ4 H4 fun b H5 => if b = true then te σ4 H5 R else N H5) :
    ∀ i ys H2, i < xs.length → GMap H vs i ys H2 → (Itl K a).go i H2 ∧ ∀ x H3, (Itl K a).yld i H2 x H3 → g x τ H3 fun σ4 H4 => tc σ4 H4 fun b H5 => if b = true then te σ4 H5 fun y H6 => GMap H vs (i + 1) (ys ++ [y]) H6 else GMap H vs (i + 1) ys H5 := by
  rintro i ys H2 hi ⟨s2, rfl⟩
  have ec : xs[i]? = some xs[i] := List.getElem?_eq_getElem hi
  have ev : vs[i]? = some (vs[i]'(by omega)) := List.getElem?_eq_getElem (by omega)
  refine ⟨⟨xs, xs[i], ha _ s2, ec⟩, ?_⟩
  rintro x H3 ⟨rfl, hx⟩
  have hx' := hx _ (ha _ s2)
  rw [ec] at hx'
  obtain rfl := Option.some.inj hx'
  refine hs i _ _ _ _ _ ec ev s2 fun H4 s4 => ⟨s4, ?_⟩
  rw [List.take_add_one, ev]; rfl
theorem GMap.done (ha : ∀ H', Same H H' → SqL K H' a xs) (hl : vs.length = xs.length) {ys : List V} {H2 : Hp} (h : GMap H vs xs.length ys H2) : (Itl K a).stop xs.length H2 ∧ Same H H2 ∧ ys = vs := by
  obtain ⟨s2, rfl⟩ := h
  rw [List.take_of_length_le (by omega)]
  exact ⟨⟨xs, ha _ s2, Nat.le_refl _⟩, s2, rfl⟩
end
end L2
namespace L2
open PySem PySem.Spec PyProof.Rows PySem.W
structure CalleeX (P : Program) (w : World) (K : PySem.W.Frag) (mg : Str → Option Value) (base : Heap) (k : Nat) (x : Str) (ps : List Str) (sp : Sp) : Prop where
  ex : ∃ f fd, FnOk P w K mg base (CXF P w) k f fd ps sp ∧ mg x = some (.ref f) ∧ PySem.W.keepIn K (.ref f) = true ∧ Binds K fd ps []
section
variable {X : Cx} {k : Nat} {x : Str} {ps : List Str} {sp : Sp} {e : Expr} {es : List Expr} {t : TA} {p pos : Pos} {E : XK} {σ0 : St}
theorem as_fnX (C : CalleeX X.prog X.w X.K X.mg X.base k x ps sp) (hr : Room k X.A) (hx : Passes (CXF X.prog X.w) X E) (ha : PAt X e es t) (hg : Gl X x := by rfl) (hdb : (x == ("__debug__" : Str)) = false := by decide) :
    PE X (.Call (.Name x p) (e :: es) [] pos) (tCall sp [] E t) := by
  obtain ⟨f, fd, F, hm, hk, hb⟩ := C.ex
  exact pe_call F hr hg hm hk hb .nil hx ha.all.pa hdb (ha.all.he ha.tl) (by rw [ha.tl]; exact back_any _ _ _)
end
theorem leaves_onF {M : Model} {A : Around} {E : Value → Shared → Prop} {s : Shared} {base : Heap} {env : Env} {outer : List Env} {L e : Addr} {cls a0 fl : Value} {Q : Unit → Shared → Prop}
    (hfr : A.frames = some (env :: outer)) (hf : env.frame = some L) (f1 : base.StaysIn s.heap) (f2 : base.get? e = none) (f3 : s.heap.FunFrames base (env :: outer)) (ht : s.heap.TracedAtW base e cls a0 fl)
    (hQ : ∀ h', Heap.FlyingW base outer e cls a0 h' → s.heap.UpToSlots h' → Q () { s with heap := h' }) : wpAny M A (leaving env (.ref e)) Q E s := by
  obtain ⟨oe, vs, T, oT, ts, he, ⟨hcls, h0⟩, hd, h1, hnT, hTe, hT, hdT, h3⟩ := id ht
  by_cases hb : (fl == rawInt L) = true
  · have e1 : fl = rawInt L := eq_of_beq hb
    subst e1
    unfold leaving
    refine wpAny_bind (wpAny_noteFrame_againW hf ht ?_)
    exact wpAny_landsW (l := env :: outer) (L := L) ⟨f1, f2, f3, ht⟩ fun h' fly sm => hQ h' ⟨fly.1, fly.2.1, fly.2.2.1.2.2, fly.2.2.2⟩ sm
  · subst hcls
    unfold leaving noteFrame
    simp only [hf]
    refine wpAny_bind (wpAny_bind (wpAny_field he hd h1 ?_))
    rw [if_pos (show (Value.ref T != Value.none) = true from by simp)]
    refine wpAny_bind (wpAny_field hT hdT h3 ?_)
    rw [if_neg hb]
    refine wpAny_bind (wpAny_setField hT hdT (Array.getElem?_eq_some_iff.mp h3).1 ?_)
    have other : ∀ b, b ≠ T → (s.heap.update T (Obj.mapFields (·.setIfInBounds 3 Value.none))).get? b = s.heap.get? b := fun b hb => Heap.get?_update_other _ _ (Ne.symm hb)
    have noRecord : ∀ b o, s.heap.get? b = some o → (∀ vs, o.data ≠ .fields vs) → b ≠ T := fun b o hb hnf q => by
      rw [q, hT] at hb; injection hb with hb; subst hb; exact hnf ts hdT
    refine wpAny_newEntryW hfr (f3.of_keeps fun b o hb hnf => ⟨o, (other b (noRecord b o hb hnf)).trans hb, rfl⟩) hf ((other e (Ne.symm hTe)).trans he)
      (fun b o hbo => (other b fun q => by rw [q, hnT] at hbo; cases hbo).trans (f1 b o hbo)) f2 hd (Array.getElem?_eq_some_iff.mp h1).1 h0
      fun h' ⟨x1, x2, x3, x4⟩ => hQ h' ⟨x1, f2, x2.2.2, x3⟩ fun b o hb hnf => x4 b o ((other b (noRecord b o hb hnf)).trans hb) hnf
def PassesF (X : Cx) (E : XK) : Prop := ∀ (pins : List (Addr × Obj)) (σ : St) (H : Hp) (s : Shared) (a : Addr) (cls : Value) (s' : Shared) (B : Heap) (a0 fl : Value) (Ls : List Addr), Inv X pins σ H s → s'.os = s.os → AllBare s'.gens → B.StaysIn s'.heap → B.get? a = none → s'.heap.FunFrames B X.stack → s'.heap.TracedAtW B a cls a0 fl →
  (∀ b o, s.heap.get? b = some o → b ∉ frs X.stack → b ∉ Ls → B.get? b = some o) → (∀ L ∈ Ls, X.s₀.heap.get? L = none ∧ H L = none) → s.heap.UpToSlots s'.heap → s.heap.get? a = none → H a = none → E cls none H → X.xe (.ref a) s'
theorem passF_on {P : Program} {w : World} {K : PySem.W.Frag} {mg : Str → Option Value} {base : Heap} {N : List Str} {qual : Str} {scope : Scope} {f : Addr} {cd : Value} {A : Around} {outer : List Env} {s : Shared} {H : Hp} {E : XK} :
    PassesF (cxOf (CXF P w) P w K mg base N qual scope f cd A outer s H E) E := by
  intro pins σ H1 s1 a cls s2 B a0 fl Ls I os bare b1 b2 b3 b4 cov hL sm han ha hE
  refine leaves_onF (env := envOfC qual scope s.heap.objs.size f cd) (outer := outer) I.ok.frames rfl b1 b2 b3 b4 fun h' fl2 sm2 => ?_
  refine ⟨a, cls, H1, rfl, os.trans I.os, bare, ⟨B, a0, s1.heap, s.heap.objs.size :: Ls, fl2, I.base, I.hok, fun b o ho hb hL2 => ?_, fun L z => ?_, sm.trans sm2, han⟩, ha, hE⟩
  · refine cov b o ho (fun hm => ?_) fun z => hL2 (List.mem_cons_of_mem _ z)
    have hm' : b ∈ s.heap.objs.size :: frs outer := hm
    rcases List.mem_cons.mp hm' with z | z
    · exact hL2 (by rw [z]; exact List.mem_cons_self)
    · exact hb z
  · rcases List.mem_cons.mp z with z | z
    · rw [z]; exact ⟨Heap.get?_none_of_le (Nat.le_refl _), I.free⟩
    · exact hL L z
theorem funF {h h' B B' : Heap} : ∀ {l : List Env}, (∀ b o, b ∈ frs l → h.get? b = some o → (∀ vs, o.data ≠ .fields vs) → h'.get? b = some o) → (∀ b, B.get? b = none → B'.get? b = none) → h.FunFrames B l → h'.FunFrames B' l
  | [], _, _, _ => trivial
  | env :: r, k, kb, hl => by
    obtain ⟨hk, ⟨L, o, hf, hn, ho, hd⟩, hr⟩ := hl
    refine ⟨hk, ⟨L, o, hf, kb L hn, k L o ?_ ho hd, hd⟩, funF (fun b o hb => k b o ?_) kb hr⟩
    · exact List.mem_filterMap.mpr ⟨env, List.mem_cons_self, hf⟩
    · obtain ⟨e, he, hfe⟩ := List.mem_filterMap.mp hb
      exact List.mem_filterMap.mpr ⟨e, List.mem_cons_of_mem _ he, hfe⟩
def Cx.blkX (X : Cx) (E : XK) (scope : Scope) (N' : List Str) (C : Addr) (s₂ : Shared) (H₂ : Hp) (ex : List Addr) : Cx :=
  { X.blk scope N' C s₂ H₂ ex with xe := fun e s' => ∃ pins0 σ0 H0 s0, Inv (X.blk scope N' C s₂ H₂ ex) pins0 σ0 H0 s0 ∧ CXF X.prog X.w X.stack H0 s0 E e s' }
section
variable {X : Cx} {E : XK} {scope : Scope} {N' : List Str} {ix : List (Option Nat)} {C D : Addr} {s₂ : Shared} {H₂ : Hp} {ex fp : List Addr} {pins : List (Addr × Obj)} {σ : St} {H : Hp} {s : Shared}
theorem Inv.toX (I : Inv (X.blk scope N' C s₂ H₂ ex) pins σ H s) : Inv (X.blkX E scope N' C s₂ H₂ ex) pins σ H s :=
  ⟨⟨I.ok.mod, I.ok.kind, I.ok.glob, I.ok.blt, I.ok.above, I.ok.inj, I.ok.has, I.ok.cab, I.ok.hd, I.ok.frames, I.ok.stk, I.ok.exf, I.ok.bs, I.ok.bsz, I.ok.noex, I.ok.exfs, I.ok.funs, I.ok.frf⟩, I.os, I.bare, I.base, I.loc, I.cell, I.free, I.freeC, I.pin, I.hok, I.len⟩
theorem Inv.unX (I : Inv (X.blkX E scope N' C s₂ H₂ ex) pins σ H s) : Inv (X.blk scope N' C s₂ H₂ ex) pins σ H s :=
  ⟨⟨I.ok.mod, I.ok.kind, I.ok.glob, I.ok.blt, I.ok.above, I.ok.inj, I.ok.has, I.ok.cab, I.ok.hd, I.ok.frames, I.ok.stk, I.ok.exf, I.ok.bs, I.ok.bsz, I.ok.noex, I.ok.exfs, I.ok.funs, I.ok.frf⟩, I.os, I.bare, I.base, I.loc, I.cell, I.free, I.freeC, I.pin, I.hok, I.len⟩
theorem pass_blk : Passes (CXF X.prog X.w) (X.blkX E scope N' C s₂ H₂ ex) E := fun pins σ H s e s' I h => ⟨pins, σ, H, s, I.unX, h⟩
theorem blk_err {use : Option (Value → Sem Unit)} {QQ : Value → Shared → Prop} {acc : Value} {s' : Shared} {e : Value} (I : Inv X pins σ H₂ s₂) (S : CompScope X scope N' ix) (hD : s₂.heap.objs.size ≤ D) (hDC : D < C) (hf : ∀ b ∈ fp, FpOk X pins H₂ b)
    (hF : PassesF X E) (hst : X.stack = X.env :: X.outer) (hfr : X.env.frame = some X.env.locals) (hex : X.ex = []) (h : (X.blkX E scope N' C s₂ H₂ (D :: fp)).xe e s') :
    notedBy (model X.prog X.w) X.A (compEnvC scope (clOf X.env.cells scope.names []) C X.env) (fun x s'' => compPost (model X.prog X.w) X.A X.xe use QQ acc C (.error x) s'') e s' := by
  obtain ⟨pins0, σ0, H0, s0, I0, a, cls, H', rfl, os, bare, ⟨B, a0, hr, Ls, fl, un, hok, cov, hL, sm, han⟩, ha, hE⟩ := h
  have hCs : s₂.heap.objs.size ≤ C := Nat.le_of_lt (Nat.lt_of_le_of_lt hD hDC)
  obtain ⟨m, hn, _⟩ := id I0.loc
  obtain ⟨oC, es, ep, hoC, hdC, rC⟩ := id hn
  have hbase : Un (frs X.stack) (D :: fp) H₂ H0 s₂.heap s0.heap := I0.base
  have hH0C : H0 C = none := I0.free
  have hCfr : C ∉ frs X.stack := fun hm => by
    obtain ⟨_, o, ho, _⟩ := I.stack.mem hm
    exact absurd (Nat.lt_of_lt_of_le (Heap.lt_size ho) hCs) (Nat.lt_irrefl _)
  have hrC : hr.get? C = some oC := un.keep C oC hoC hH0C hCfr (by simp)
  have hH'C : H' C = none := un.free C oC hoC hH0C (by simp)
  have hBC : B.get? C = some oC := cov C oC hrC hCfr fun z => by
    have q := (hL C z).1
    have hoC' : s0.heap.get? C = some oC := hoC
    rw [hoC'] at q; cases q
  have haC : a ≠ C := fun z => by rw [z, hrC] at han; cases han
  show wpAny _ X.A (noteFrame (.ref a) X.env) _ _ s'
  refine wpAny_looks_onW (env := X.env) (outer := X.outer) (by rw [I.ok.frames, hst]) hfr (by rw [← hst]; exact fl) fun h4 held4 sm4 => ?_
  obtain ⟨k1, k2, k3, k4⟩ := held4
  have smX : hr.UpToSlots h4 := sm.trans sm4
  obtain ⟨oe, vs, T, oT, ts, he, hcls, hd, h1, hnT, hTe, hT, hdT, h3⟩ := k4
  have hTC : T ≠ C := fun z => by rw [z, hBC] at hnT; cases hnT
  have nC : ∀ b o, s₂.heap.get? b = some o → b ≠ C := fun b o e => Nat.ne_of_lt (Nat.lt_of_lt_of_le (Heap.lt_size e) hCs)
  have nx : ∀ b o, s₂.heap.get? b = some o → b ∉ fp → b ∉ D :: fp := fun b o e hb z => by
    rcases List.mem_cons.mp z with q | q
    · exact Nat.ne_of_lt (Nat.lt_of_lt_of_le (Heap.lt_size e) hD) q
    · exact hb q
  have key : ∃ m, h4.Ns C m ∧ ∀ h', Heap.SameBut C h4 h' → ∀ cenv : Env, cenv.locals = C → wpAny (model X.prog X.w) X.A (PySem.passOn "comprehension.variables-let-go" (.ref a) cenv : Sem Value) (fun _ _ => False) X.xe { s' with heap := h' } := by
    refine ⟨m, smX.ns ⟨oC, es, ep, hrC, hdC, rC⟩, fun h5 sb cenv hc => ?_⟩
    have he5 : h5.get? a = some oe := (sb.2 a haC).trans he
    have hT5 : h5.get? T = some oT := (sb.2 T hTC).trans hT
    unfold PySem.passOn
    refine wpAny_bind (wpAny_field he5 hd h1 ?_)
    rw [if_neg (show ¬ ((Value.ref T == Value.none) = true) from by simp)]
    refine wpAny_bind ?_
    unfold setFlight
    refine wpAny_bind (wpAny_field he5 hd h1 ?_)
    rw [if_pos (show (Value.ref T != Value.none) = true from by simp)]
    refine wpAny_setField hT5 hdT (Array.getElem?_eq_some_iff.mp h3).1 ?_
    generalize (cenv.frame.elim Value.none fun f => rawInt f) = vf
    refine wpAny_throw ?_
    have oth : ∀ b, b ≠ T → (h5.update T (Obj.mapFields (·.setIfInBounds 3 vf))).get? b = h5.get? b := fun b hb => Heap.get?_update_other _ _ (Ne.symm hb)
    have hself := Heap.get?_update_self (Obj.mapFields (·.setIfInBounds 3 vf)) hT5 (Obj.isFreed_of_fields (Obj.data_mapFields hdT _))
    have hI : Inv X pins σ H' { s' with heap := hideAll hr [C] } := by
      refine I.call' (ch := fp) (s' := { s' with heap := hideAll hr [C] }) (os.trans I0.os) ⟨fun b o e n hb hx => ?_, fun b o e n hb hx => ?_, fun b o e n hx => ?_, fun b o e hx => ?_, fun b xs e => ?_, fun b o u e => ?_, fun b ps e => ?_⟩ (fun b u e => ?_) bare (fun b hb => ⟨(hf b hb).2.2.2.1, (hf b hb).2.1, (hf b hb).2.2.2.2.1, (hf b hb).2.2.2.2.2⟩)
      · exact hideAll_get _ (un.keep b o (hbase.keep b o e n hb (nx b o e hx)) (hbase.free b o e n (nx b o e hx)) hb (by simp)) (by simpa using nC b o e)
      · obtain ⟨sl, q⟩ := hbase.slot b o e n hb (nx b o e hx)
        obtain ⟨sl2, q2⟩ := un.slot b _ q (hbase.free b o e n (nx b o e hx)) hb (by simp)
        exact ⟨sl2, hideAll_get _ q2 (by simpa using nC b o e)⟩
      · obtain ⟨o', q⟩ := hbase.there b o e (nx b o e hx)
        exact un.free b o' q (hbase.free b o e n (nx b o e hx)) (by simp)
      · obtain ⟨o', q⟩ := hbase.there b o e (nx b o e hx)
        obtain ⟨o2, q2⟩ := un.there b o' q (by simp)
        exact ⟨o2, hideAll_get _ q2 (by simpa using nC b o e)⟩
      · exact un.tups b xs (hbase.tups b xs e)
      · exact un.frzs b o u (hbase.frzs b o u e)
      · obtain ⟨m1, q1⟩ := hbase.tbls b ps e
        obtain ⟨m2, q2⟩ := un.tbls b _ q1
        exact ⟨m1 ++ m2, by rw [← Array.append_assoc]; exact q2⟩
      · refine (hok b u e).stay (fun c v hc q => hideAll_get _ q ?_) (fun _ q => q) fun _ _ q => q
        rw [List.mem_singleton]
        intro hcC
        rcases hc with z | z
        · rw [← z, hcC, hH'C] at e; cases e
        · rw [hcC, hH'C] at z; cases z
    have bC : ∀ {h : Heap} {b : Addr} {o : Obj}, (hideAll h [C]).get? b = some o → b ≠ C := fun {h b o} q z => by
      rw [hideAll_none (l := [C]) (h := h) (b := b) (by simp [z])] at q; cases q
    refine hF pins σ H' _ a cls _ (hideAll B [C]) a0 vf Ls hI rfl bare (fun b o hb => ?_) ?_ ?_ ⟨oe, vs, T, _, _, ?_, hcls, hd, h1, ?_, hTe, hself, Obj.data_mapFields hdT _, ?_⟩ (fun b o hb hfr2 hls => hideAll_get _ (cov b o (of_hideAll _ hb) hfr2 hls) (by simpa using bC hb)) (fun L z => ⟨?_, (hL L z).2⟩) (fun b o hb hnf => ?_) ?_ ha hE
    · have hb' := of_hideAll _ hb
      have bT : b ≠ T := fun z => by rw [z, hnT] at hb'; cases hb'
      exact (oth b bT).trans ((sb.2 b (bC hb)).trans (k1 b o hb'))
    · cases q : (hideAll B [C]).get? a with
      | none => rfl
      | some o => have := of_hideAll _ q; rw [k2] at this; cases this
    · rw [hst] at hCfr ⊢
      refine funF (fun b o hb ho hnf => ?_) (fun b hb => ?_) k3
      · have bT : b ≠ T := fun z => by
          rw [z, hT] at ho
          injection ho with ho
          subst ho
          exact hnf ts hdT
        have bc : b ≠ C := fun z => hCfr (by rw [← z]; exact hb)
        exact (oth b bT).trans ((sb.2 b bc).trans ho)
      · cases q : (hideAll B [C]).get? b with
        | none => rfl
        | some o => have := of_hideAll _ q; rw [hb] at this; cases this
    · exact (oth a (Ne.symm hTe)).trans he5
    · cases q : (hideAll B [C]).get? T with
      | none => rfl
      | some o => have := of_hideAll _ q; rw [hnT] at this; cases this
    · have := (Array.getElem?_eq_some_iff.mp h3).1
      simp [this]
    · cases q : X.s₀.heap.get? L with
      | none => rfl
      | some o =>
        exfalso
        obtain ⟨o1, q1⟩ := I.base.there L o q (by rw [hex]; simp)
        by_cases hfp : L ∈ fp
        · rcases (hf L hfp).2.2.2.1 with z | z
          · rw [hex] at z; cases z
          · exact absurd (Nat.lt_of_lt_of_le (Heap.lt_size q) z) (Nat.lt_irrefl _)
        · obtain ⟨o2, q2⟩ := hbase.there L o1 q1 (nx L o1 q1 hfp)
          rw [(hL L z).1] at q2; cases q2
    · have hb' := of_hideAll _ hb
      obtain ⟨sl, q⟩ := smX b o hb' hnf
      have bT : b ≠ T := fun z => by
        rw [z, hT] at q
        injection q with q
        rw [q] at hdT
        exact hnf ts hdT
      exact ⟨sl, (oth b bT).trans ((sb.2 b (bC hb)).trans q)⟩
    · cases q : (hideAll hr [C]).get? a with
      | none => rfl
      | some o => have := of_hideAll _ q; rw [han] at this; cases this
  cases use <;> exact key
end
section
variable {X : Cx} {elt iter tg : Expr} {ifs : List Expr} {scope : Scope} {pos : Pos} {N' : List Str} {ix : List (Option Nat)} {own : List Nat} {wi : TI} {g : TG} {tc : TT} {te : TE}
theorem comp_coreX {E : XK} {use : Option (Value → Sem Unit)} {QQ : Value → Shared → Prop} (hcalm : X.calm = true) (S : CompScope X scope N' ix) (hown : ∀ k ∈ own, ix[k]? = some none) (hi : PI X tg iter wi)
    (hg : ∀ C s₂ H₂ ex, PG (X.blk scope N' C s₂ H₂ ex) tg g) (hgo : TgOwn g own) (hc : ∀ C s₂ H₂ ex, PIfs (X.blk scope N' C s₂ H₂ ex) ifs tc) (he : ∀ C s₂ H₂ ex, PE (X.blkX E scope N' C s₂ H₂ ex) elt te) (hF : PassesF X E) (hst : X.stack = X.env :: X.outer) (hfr : X.env.frame = some X.env.locals) (hex : X.ex = [])
    (hs : ∀ x, foldedSetIterable iter X.env x = pure x) {pins : List (Addr × Obj)} {s : Shared} {σ : St} {H : Hp} {Q : VK} (I : Inv X pins σ H s) (h : tComp wi ix g tc te σ H Q)
    (hend : ∀ (s2 : Shared) (H2 : Hp) (fp : List Addr) (C D : Addr) (s4 : Shared) (H' : Hp) (ys : List V) (its : List Value) (k : Nat) (pins' : List (Addr × Obj)) (σ' : St), Inv X pins σ H2 s2 → s2.heap.objs.size ≤ D → D < C → (∀ b ∈ fp, FpOk X pins H2 b) →
      Inv (X.blk scope N' C s2 H2 (D :: fp)) pins' σ' H' s4 → H' D = none → ys.length ≤ sizeLine → Vals ys its → s4.heap.get? D = some { cls := .type "list", data := .seq its.toArray k } → Q (.ref D) (upd H' D (.lst ys)) →
      compPost (model X.prog X.w) X.A X.xe use QQ (.ref D) C (.ok .next) s4) (p' : Pos) :
    wpAny (model X.prog X.w) X.A (comprehension (.ListComp elt [⟨tg, iter, ifs, 0⟩] scope pos) scope X.env p' (newList []) false (eval iter X.env) use) QQ X.xe s := by
  refine wpAny_comprehension_free (use := use) (cl := clOf X.env.cells scope.names []) rfl hs (closureFor_of (blk_free I S)) S.kind S.own ?_
  refine thn (hi pins s σ H _ I h) fun v s1 h1 => thn h1 fun itv s2 h2 => ?_
  obtain ⟨it, fp, tn, J, H2, e, I2, T, st2, f2, n, Pv, hn, p0, turn, fin⟩ := h2
  subst e
  refine wpAny_newObj_type (wpAny_newFunctionEnv S.cell (by intro y hy; simp at hy) (fun h₁ hns₁ hsb₁ => ?_) S.kind)
  dsimp only at hns₁ hsb₁ ⊢
  generalize hH2 : s2.heap.push { cls := .type "list", dict := none, data := .seq ([] : List Value).toArray } = G2 at hns₁ hsb₁ ⊢
  have hC : G2.objs.size = s2.heap.objs.size + 1 := by rw [← hH2, Heap.size_push]
  have hDC : s2.heap.objs.size < G2.objs.size := by rw [hC]; exact Nat.lt_succ_self _
  have hCle : s2.heap.objs.size ≤ G2.objs.size := Nat.le_of_lt hDC
  have old : ∀ b o, s2.heap.get? b = some o → h₁.get? b = some o := fun b o e => hsb₁.extBut b o (Nat.ne_of_lt (Nat.lt_trans (Heap.lt_size e) hDC)) (Heap.get?_push_of_some _ (hH2 ▸ Heap.get?_push_of_some _ e))
  have hacc : h₁.get? s2.heap.objs.size = some { cls := .type "list", data := .seq #[] } := hsb₁.extBut _ _ (Nat.ne_of_lt hDC) (Heap.get?_push_of_some _ (hH2 ▸ Heap.get?_push_size _ rfl))
  have hDn : H2 s2.heap.objs.size = none := I2.hok.fresh (Nat.le_refl _)
  have fD : ∀ b ∈ s2.heap.objs.size :: fp, FpOk X pins H2 b := fun b hb => by
    rcases List.mem_cons.mp hb with q | q
    · rw [q]; exact I2.fpOk (Nat.le_refl _) hDn
    · exact f2 b q
  have lfp : ∀ b ∈ fp, b < s2.heap.objs.size := fun b hb => by
    obtain ⟨o, ho, _⟩ := T.obj 0 _ st2 b hb
    exact Heap.lt_size ho
  have lD : ∀ b ∈ s2.heap.objs.size :: fp, b < G2.objs.size := fun b hb => by
    rcases List.mem_cons.mp hb with q | q
    · rw [q]; exact hDC
    · exact Nat.lt_trans (lfp b q) hDC
  have I3 : Inv (X.blk scope N' G2.objs.size s2 H2 (s2.heap.objs.size :: fp)) [] (takes ix σ) H2 { s2 with heap := h₁, toks := s2.toks + ([] : List (Str × Value)).length } := blk_inv I2 S hCle fD lD old hns₁
  have st3 : tn 0 h₁ := T.keep 0 _ _ st2 fun b hb o e => old b o e
  have noxE : ∀ {α : Type} {t : Sem α} {Q' : α → Shared → Prop} {E' : Value → Shared → Prop} {s' : Shared}, wpAny (model X.prog X.w) X.A t Q' (fun _ _ => False) s' → wpAny (model X.prog X.w) X.A t Q' E' s' := fun w => wpAny_mono w (fun _ _ q => q) fun _ _ z => False.elim z
  have fpB : ∀ {H' : Hp} {pins' : List (Addr × Obj)}, (∀ b ∈ s2.heap.objs.size :: fp, H' b = none) → pins' = [] → ∀ b ∈ s2.heap.objs.size :: fp, FpOk (X.blk scope N' G2.objs.size s2 H2 (s2.heap.objs.size :: fp)) pins' H' b := by
    intro H' pins' hn' hp b hb
    subst hp
    have ok := I3.ok
    exact ⟨hn' b hb, (ok.exf b hb).1, ok.exfs b hb, .inl hb, (ok.exf b hb).2, fun p hp => nomatch hp⟩
  have loop : ∀ s3 : Shared, s3 = { s2 with heap := h₁, toks := s2.toks + ([] : List (Str × Value)).length } →
      codeAny (model X.prog X.w) X.A (.compLoop (.ListComp elt [⟨tg, iter, ifs, 0⟩] scope pos) 0 (.ref it) (.ref s2.heap.objs.size) (compEnvC scope (clOf X.env.cells scope.names []) G2.objs.size X.env))
        (compPost (model X.prog X.w) X.A X.xe use QQ (.ref s2.heap.objs.size) G2.objs.size) s3 := by
    rintro s3 rfl
    refine codeAny_loop rfl (fun mm s' => ∃ i ys its k H', mm = n - i ∧ i ≤ n ∧ ys.length ≤ i ∧ Inv (X.blk scope N' G2.objs.size s2 H2 (s2.heap.objs.size :: fp)) [] (takes ix σ) H' s' ∧ tn i s'.heap ∧
        (∀ b ∈ s2.heap.objs.size :: fp, H' b = none) ∧ Vals ys its ∧ s'.heap.get? s2.heap.objs.size = some { cls := .type "list", data := .seq its.toArray k } ∧ Pv i ys H') ?_ n
      ⟨0, [], [], _, H2, rfl, Nat.zero_le _, Nat.le_refl _, I3, st3, fun b hb => (fD b hb).1, .nil, hacc, p0⟩
    rintro mm s' ⟨i, ys, its, k, H', rfl, hin, hyl, I', st', fr', rv, hob, pv⟩
    show wpAny _ X.A ((compTurn (.ListComp elt [⟨tg, iter, ifs, 0⟩] scope pos) 0 (.ref it) (.ref s2.heap.objs.size) (compEnvC scope (clOf X.env.cells scope.names []) G2.objs.size X.env)).onRaise (fun x => do noteFrame x (compEnvC scope (clOf X.env.cells scope.names []) G2.objs.size X.env); theTreesLotGoes x)) _ _ s'
    refine wpAny_noted ?_
    rw [compTurn_list]
    refine wpAny_bind (wpAny_standAt (wpAny_bind ?_))
    have fpT : ∀ b ∈ fp, FpOk (X.blk scope N' G2.objs.size s2 H2 (s2.heap.objs.size :: fp)) [] H' b := fun b hb => fpB fr' rfl b (List.mem_cons_of_mem _ hb)
    by_cases hlt : i < n
    · obtain ⟨go, step⟩ := turn i ys H' hlt pv
      refine noxE (thn (T.item (X.blk scope N' G2.objs.size s2 H2 (s2.heap.objs.size :: fp)) rfl rfl rfl hcalm i [(s2.heap.objs.size, ({ cls := .type "list", data := .seq its.toArray k } : Obj))] s' _ H' (fun _ _ => False) (I'.pins_of fun p hp => ?_) (fun b hb => ?_) st' go) fun r s4 ⟨u, hr, h4⟩ => ?_)
      · obtain rfl := List.mem_singleton.mp hp
        refine ⟨hob, fr' _ List.mem_cons_self, Nat.ne_of_lt hDC, ?_, fun v z => ?_⟩
        · exact I3.ok.exfs _ List.mem_cons_self
        · have z' : Data.seq _ _ = Data.cell v := z
          cases z'
      · obtain ⟨f0, f1, f2', f3, f4, f5⟩ := fpT b hb
        refine ⟨f0, f1, f2', f3, f4, fun p hp => ?_⟩
        obtain rfl := List.mem_singleton.mp hp
        exact Nat.ne_of_gt (lfp b hb)
      · subst hr
        refine wpAny_bind (noxE (thn h4 fun _ s5 ⟨x, H5, I5, r5, y5, st5, fr5⟩ => ?_))
        have D5 := I5.pin (s2.heap.objs.size, ({ cls := .type "list", data := .seq its.toArray k } : Obj)) (by simp [Cx.blk])
        have fr5' : ∀ b ∈ s2.heap.objs.size :: fp, H5 b = none := fun b hb => by
          rcases List.mem_cons.mp hb with q | q
          · rw [q]; exact D5.2.1
          · exact fr5 b q
        have I5' : Inv (X.blk scope N' G2.objs.size s2 H2 (s2.heap.objs.size :: fp)) ([] ++ pinsAt (s2.heap.objs.size :: fp) s5.heap) (takes ix σ) H5 s5 :=
          (I5.pins_of (pins' := []) fun p hp => nomatch hp).pinned (fpB fr5' rfl) fun b hb => by
            rcases List.mem_cons.mp hb with q | q
            · subst q
              exact ⟨_, D5.1, D5.2.2.2.2⟩
            · exact T.obj _ _ st5 b q
        refine wpAny_bind (noxE (thn (hg _ _ _ _ _ s5 _ H5 x u _ I5' r5 (hgo _ _ _ _ (step x H5 y5))) fun _ s6 ⟨σ6, H6, I6, q6, l6, k6⟩ => ?_))
        refine wpAny_bind (noxE (thn (hc _ _ _ _ _ s6 σ6 H6 _ I6 q6) fun ok s7 ⟨H7, I7, q7⟩ => ?_))
        have back : ∀ {H8 : Hp} {s8 : Shared}, Inv (X.blk scope N' G2.objs.size s2 H2 (s2.heap.objs.size :: fp)) ([] ++ pinsAt (s2.heap.objs.size :: fp) s5.heap) σ6 H8 s8 →
            Inv (X.blk scope N' G2.objs.size s2 H2 (s2.heap.objs.size :: fp)) [] (takes ix σ) H8 s8 ∧ tn (i + 1) s8.heap ∧ (∀ b ∈ s2.heap.objs.size :: fp, H8 b = none) ∧ s8.heap.get? s2.heap.objs.size = some { cls := .type "list", data := .seq its.toArray k } := by
          intro H8 s8 I8
          have hp : ∀ b ∈ s2.heap.objs.size :: fp, ∀ o, s5.heap.get? b = some o → s8.heap.get? b = some o ∧ H8 b = none := fun b hb o e =>
            let z := I8.pin (b, o) (List.mem_append_right _ (List.mem_append_right _ (mem_pinsAt hb e)))
            ⟨z.1, z.2.1⟩
          refine ⟨(I8.pins_of (pins' := []) fun p hp => nomatch hp).weak (by rw [l6]) (fun j v ej => ?_), T.keep _ _ _ st5 (fun b hb o e => (hp b (List.mem_cons_of_mem _ hb) o e).1), fun b hb => ?_, (hp _ List.mem_cons_self _ D5.1).1⟩
          · by_cases hj : j ∈ own
            · exfalso
              have e1 : (ix[j]?).map (fun o => o.bind fun j => (σ[j]?).join) = some (some v) := by rw [← List.getElem?_map]; exact ej
              rw [hown j hj] at e1
              cases e1
            · rw [k6 j hj]; exact ej
          · rcases List.mem_cons.mp hb with q | q
            · rw [q]; exact (hp _ List.mem_cons_self _ D5.1).2
            · obtain ⟨o, ho, _⟩ := T.obj _ _ st5 b q
              exact (hp b hb o ho).2
        cases ok with
        | false =>
          have q7' : Pv (i + 1) ys H7 := by simpa using q7
          obtain ⟨b1, b2, b3, b4⟩ := back I7
          exact wpAny_pure ⟨rfl, n - (i + 1), by omega, i + 1, ys, its, k, H7, rfl, hlt, Nat.le_succ_of_le hyl, b1, b2, b3, rv, b4, q7'⟩
        | true =>
          have q7' : te σ6 H7 fun y H6 => Pv (i + 1) (ys ++ [y]) H6 := by simpa using q7
          refine wpAny_bind (wpAny_bind (wpAny_mono (he _ _ _ _ _ s7 σ6 H7 _ I7.toX q7') (fun z s8 ⟨y, H8, I8', r8, q8⟩ => ?_) (fun e9 s9 h9 => blk_err I2 S (Nat.le_refl _) hDC f2 hF hst hfr hex h9)))
          have I8 := I8'.unX
          obtain ⟨b1, b2, b3, b4⟩ := back I8
          have hsz : its.toArray.size ≤ sizeLine := by rw [List.size_toArray, ← rv.length]; omega
          refine wpAny_bind (append_at (hsz := hsz) b4 fun h9 hs9 hD9 => ?_)
          · refine wpAny_pure (wpAny_pure ⟨rfl, n - (i + 1), by omega, i + 1, ys ++ [y], its ++ [z], k + 1, H8, rfl, hlt, ?_, ?_, ?_, b3, ?_, ?_, q8⟩)
            · rw [List.length_append, List.length_singleton]; exact Nat.succ_le_succ hyl
            · have fd := fpB b3 rfl _ List.mem_cons_self
              exact b1.turned (t' := s8.toks) (fun b o hb e => hs9.extBut b o hb e) fd.1 fd.2.1 fd.2.2.2.1 fd.2.2.2.2.1 fd.2.2.2.2.2
            · exact T.keep _ _ _ b2 fun b hb o e => hs9.extBut b o (Nat.ne_of_lt (lfp b hb)) e
            · exact rv.append (.cons r8 .nil)
            · rw [hD9]; simp
    · have hieq : i = n := by omega
      subst hieq
      obtain ⟨stop, qf⟩ := fin ys H' pv
      refine noxE (thn (T.done (X.blk scope N' G2.objs.size s2 H2 (s2.heap.objs.size :: fp)) rfl rfl rfl hcalm i [(s2.heap.objs.size, ({ cls := .type "list", data := .seq its.toArray k } : Obj))] s' _ H' (fun _ _ => False) (I'.pins_of fun p hp => ?_) (fun b hb => ?_) st' stop) fun r s4 ⟨hr, I4⟩ => ?_)
      · obtain rfl := List.mem_singleton.mp hp
        refine ⟨hob, fr' _ List.mem_cons_self, Nat.ne_of_lt hDC, ?_, fun v z => ?_⟩
        · exact I3.ok.exfs _ List.mem_cons_self
        · have z' : Data.seq _ _ = Data.cell v := z
          cases z'
      · obtain ⟨f0, f1, f2', f3, f4, f5⟩ := fpT b hb
        refine ⟨f0, f1, f2', f3, f4, fun p hp => ?_⟩
        obtain rfl := List.mem_singleton.mp hp
        exact Nat.ne_of_gt (lfp b hb)
      · subst hr
        have D4 := I4.pin (s2.heap.objs.size, ({ cls := .type "list", data := .seq its.toArray k } : Obj)) (by simp [Cx.blk])
        refine wpAny_pure ?_
        exact hend s2 H2 fp _ _ s4 H' ys its k _ _ I2 (Nat.le_refl _) hDC f2 I4 D4.2.1 (Nat.le_trans hyl hn) rv D4.1 (qf _ D4.2.1)
  refine codeAny_compStart_list (loop _ rfl) (T.self X.A 0 _ _ _ st3 (loop _ rfl))
theorem pe_compX {E : XK} (hcalm : X.calm = true) (S : CompScope X scope N' ix) (hown : ∀ k ∈ own, ix[k]? = some none) (hi : PI X tg iter wi)
    (hg : ∀ C s₂ H₂ ex, PG (X.blk scope N' C s₂ H₂ ex) tg g) (hgo : TgOwn g own) (hc : ∀ C s₂ H₂ ex, PIfs (X.blk scope N' C s₂ H₂ ex) ifs tc) (he : ∀ C s₂ H₂ ex, PE (X.blkX E scope N' C s₂ H₂ ex) elt te) (hF : PassesF X E) (hst : X.stack = X.env :: X.outer := by rfl) (hfr : X.env.frame = some X.env.locals := by rfl) (hex : X.ex = [] := by rfl)
    (hs : ∀ x, foldedSetIterable iter X.env x = pure x := by intro _; rfl) :
    PE X (.ListComp elt [⟨tg, iter, ifs, 0⟩] scope pos) (tComp wi ix g tc te) := by
  intro pins s σ H Q I h
  rw [eval_ListComp]
  refine comp_coreX (use := none) hcalm S hown hi hg hgo hc he hF hst hfr hex hs I h (fun s2 H2 fp C D s4 H' ys its k pins' σ' I2 hD hDC f2 I4 hDn hl rv ho q => ?_) _
  obtain ⟨m4, hn4, _⟩ := id I4.loc
  exact ⟨m4, hn4, fun h' hs' => ⟨.ref D, upd H' D (.lst ys), blk_back I2 hD hDC f2 I4 hs' hDn hl rv ho, rfl, q⟩⟩
end
end L2
namespace L2
open PySem PySem.Spec PySem.Calls PyProof.Rows PySem.W
def tDSetD (td ty tx : TE) : TE := fun σ H Q => td σ H fun x H1 => ∃ a, x = .ref a ∧ IsD H1 a ∧ ty σ H1 fun y H2 => tx σ H2 fun z H3 => ∃ kvs k, H3 a = some (.dK kvs) ∧ y = kV k ∧ kvs.length < sizeLine ∧
  (∀ v, valV kvs k = some v → Q v H3) ∧ (valV kvs k = none → Q z (upd H3 a (.dK (putK kvs k z))))
section
variable {X : Cx} {o e f : Expr} {apos cpos : Pos} {td ty tx : TE}
theorem pe_dsetd (ho : PE X o td) (he : PE X e ty) (hf : PE X f tx) (m : M2 X o "setdefault" apos e f cpos) : PE X (.Call (.Attribute o "setdefault" apos) [e, f] [] cpos) (tDSetD td ty tx) := by
  intro pins s σ H Q I h
  refine wpAny_Call_method m.base m.few m.line PySem.F.plainAttrs_dict PySem.F.slot_dict_setdefault PySem.F.type_dict_setdefault (thn (ho pins s σ H _ I h) fun u s1 ⟨x, H1, I1, rx, a, ex, d, q1⟩ => ?_)
  subst ex
  obtain rfl : u = Value.ref a := rx
  obtain ⟨t1, t2, _⟩ := isD_at I1 d
  refine ⟨t1, t2, ?_⟩
  rw [m.trees]
  refine Calls.callWith_builtin rfl (Calls.evalArgs_plain (Calls.spliced_cons (thn (he pins s1 σ H1 _ I1 q1) fun iv s2 ⟨y, H2, I2, ry, q2⟩ =>
    Calls.spliced_cons (thn (hf pins s2 σ H2 _ I2 q2) fun fv s3 ⟨z, H3, I3, rz, kvs, k, ea, ey, hl, q3, q4⟩ => Calls.spliced_nil ?_))))
  subst ey
  obtain ⟨hz, hd, vs, rel, dd⟩ := dk_of I3.hok ea
  refine call_meetsIn PySem.F.slot_dict_setdefault dd.typeIs PySem.F.entry_dict_setdefault (PySem.F.args_dict_setdefault_3 _ _ _) (kt_meets_setdefault (mixKind X.prog X.w) a (kV_is ry) hd fv)
    ⟨vs, dd, by rw [← rel.length]; exact hz, fun w' hw => ?_, fun hn h' dd' hs => ?_⟩
  · have hv := rel.val k
    rw [hw] at hv
    cases l : valV kvs k with
    | none => rw [l] at hv; exact absurd hv (by intro z; cases z)
    | some v =>
      rw [l] at hv
      exact ⟨v, H3, I3.tok _, hv, q3 v l⟩
  · have hv := rel.val k
    rw [hn] at hv
    cases l : valV kvs k with
    | some v => rw [l] at hv; exact absurd hv (by intro z; cases z)
    | none =>
      have he : ∃ q, h'.get? a = some q := let ⟨q, _, _, hq, _⟩ := dd'; ⟨q, hq⟩
      have hl' : (putK kvs k z).length ≤ sizeLine := by have := length_putK kvs k z; omega
      exact ⟨z, _, d_write I3 (by rw [ea]; exact True.intro) hs he (dk_new hl' hd (rel.put k rz) dd'), rz, q4 l⟩
end
def orb (M : Nat) : Nat → Nat → Nat
  | 0, i => i
  | n + 1, i => orb M n ((i * 5 + 1) % M)
theorem orb8 : ∀ i, i < 8 → ∀ j, j < 8 → ∃ n, n < 8 ∧ orb 8 n i = j := by decide +kernel
theorem orb16 : ∀ i, i < 16 → ∀ j, j < 16 → ∃ n, n < 16 ∧ orb 16 n i = j := by decide +kernel
theorem orb32 : ∀ i, i < 32 → ∀ j, j < 32 → ∃ n, n < 32 ∧ orb 32 n i = j := by decide +kernel
def Mk3 (mask : Nat) : Prop := mask = 7 ∨ mask = 15 ∨ mask = 31
theorem orb_all {mask : Nat} (hm : Mk3 mask) {i j : Nat} (hi : i ≤ mask) (hj : j ≤ mask) : ∃ n, n ≤ mask ∧ orb (mask + 1) n i = j := by
  rcases hm with rfl | rfl | rfl
  · obtain ⟨n, h1, h2⟩ := orb8 i (by omega) j (by omega); exact ⟨n, by omega, h2⟩
  · obtain ⟨n, h1, h2⟩ := orb16 i (by omega) j (by omega); exact ⟨n, by omega, h2⟩
  · obtain ⟨n, h1, h2⟩ := orb32 i (by omega) j (by omega); exact ⟨n, by omega, h2⟩
def Fre (owner : Array (Option Nat)) (j : Nat) : Prop := owner.getD j (some 0) = none
theorem run_le {mask i : Nat} (h : i ≤ mask) : i ≤ SetTable.runEnd mask i ∧ SetTable.runEnd mask i ≤ mask := by
  unfold SetTable.runEnd; split <;> omega
theorem free_here {mask : Nat} {owner : Array (Option Nat)} {fuel i p : Nat} (hi : i ≤ mask) (h : Fre owner i) : ∃ j, SetTable.layClean.free mask owner (fuel + 1) i p = some j ∧ j ≤ mask ∧ Fre owner j := by
  unfold SetTable.layClean.free
  have hr := run_le hi
  cases hf : (List.range (SetTable.runEnd mask i + 1 - i)).find? (fun k => (owner.getD (i + k) (some 0)).isNone) with
  | none =>
    exfalso
    have := List.find?_eq_none.mp hf 0 (List.mem_range.mpr (by omega))
    unfold Fre at h
    rw [Nat.add_zero, h] at this
    exact this rfl
  | some k =>
    have h1 := List.find?_some hf
    have h2 := List.mem_range.mp (List.mem_of_find?_eq_some hf)
    exact ⟨i + k, rfl, by omega, Option.isNone_iff_eq_none.mp h1⟩
theorem free_next {mask : Nat} {owner : Array (Option Nat)} {fuel i p : Nat} (hi : i ≤ mask) (h : ∃ j, SetTable.layClean.free mask owner fuel (SetTable.leap mask i p).1 (SetTable.leap mask i p).2 = some j ∧ j ≤ mask ∧ Fre owner j) :
    ∃ j, SetTable.layClean.free mask owner (fuel + 1) i p = some j ∧ j ≤ mask ∧ Fre owner j := by
  unfold SetTable.layClean.free
  have hr := run_le hi
  cases hf : (List.range (SetTable.runEnd mask i + 1 - i)).find? (fun k => (owner.getD (i + k) (some 0)).isNone) with
  | none => exact h
  | some k =>
    have h1 := List.find?_some hf
    have h2 := List.mem_range.mp (List.mem_of_find?_eq_some hf)
    exact ⟨i + k, rfl, by omega, Option.isNone_iff_eq_none.mp h1⟩
theorem leap_le {mask i p : Nat} : (SetTable.leap mask i p).1 ≤ mask := by
  have : (SetTable.leap mask i p).1 = (i * 5 + 1 + p / 32) % (mask + 1) := rfl
  rw [this]
  have := Nat.mod_lt (i * 5 + 1 + p / 32) (show 0 < mask + 1 by omega)
  omega
theorem free_orb {mask : Nat} {owner : Array (Option Nat)} : ∀ (n fuel i : Nat), n < fuel → i ≤ mask → Fre owner (orb (mask + 1) n i) → ∃ j, SetTable.layClean.free mask owner fuel i 0 = some j ∧ j ≤ mask ∧ Fre owner j
  | 0, fuel + 1, i, _, hi, h => free_here hi h
  | n + 1, fuel + 1, i, hf, hi, h => by
    refine free_next hi ?_
    have e : SetTable.leap mask i 0 = ((i * 5 + 1) % (mask + 1), 0) := by unfold SetTable.leap; simp
    rw [e]
    have := leap_le (mask := mask) (i := i) (p := 0)
    rw [e] at this
    exact free_orb n fuel _ (by omega) this h
theorem free_pert {mask : Nat} (hm : Mk3 mask) {owner : Array (Option Nat)} {j0 : Nat} (hj : j0 ≤ mask) (h : Fre owner j0) : ∀ (q fuel i p : Nat), p < 32 ^ q → q + mask < fuel → i ≤ mask → ∃ j, SetTable.layClean.free mask owner fuel i p = some j ∧ j ≤ mask ∧ Fre owner j
  | 0, fuel, i, p, hp, hf, hi => by
    have : p = 0 := by simpa using hp
    subst this
    obtain ⟨n, hn, e⟩ := orb_all hm hi hj
    exact free_orb n fuel i (by omega) hi (by rw [e]; exact h)
  | q + 1, 0, i, p, hp, hf, hi => by omega
  | q + 1, fuel + 1, i, p, hp, hf, hi => by
    refine free_next hi ?_
    have e : (SetTable.leap mask i p).2 = p / 32 := rfl
    rw [e]
    refine free_pert hm hj h q fuel _ _ ?_ (by omega) leap_le
    rw [Nat.pow_succ] at hp
    exact Nat.div_lt_of_lt_mul (by rw [Nat.mul_comm]; exact hp)
theorem bits_lt (h : Int) : SetTable.bits h < 32 ^ 13 := by
  unfold SetTable.bits
  have h1 := Int.emod_lt_of_pos h (show (0 : Int) < 2 ^ 64 by decide)
  have h0 := Int.emod_nonneg h (show ((2 : Int) ^ 64) ≠ 0 by decide)
  have : (32 : Nat) ^ 13 = 36893488147419103232 := by decide
  omega
theorem free_some {mask : Nat} (hm : Mk3 mask) {owner : Array (Option Nat)} {j0 : Nat} (hj : j0 ≤ mask) (hf : Fre owner j0) (h : Int) :
    ∃ j, SetTable.layClean.free mask owner (SetTable.turns mask) (SetTable.bits h % (mask + 1)) (SetTable.bits h) = some j ∧ j ≤ mask ∧ Fre owner j := by
  refine free_pert hm hj hf 13 _ _ _ (bits_lt h) (by unfold SetTable.turns; omega) ?_
  have := Nat.mod_lt (SetTable.bits h) (show 0 < mask + 1 by omega)
  omega
def Own (mask : Nat) (owner : Array (Option Nat)) (k : Nat) : Prop := owner.size = mask + 1 ∧ (owner.toList.filterMap id).Perm (List.range k)
theorem all_some : ∀ {l : List (Option Nat)}, (∀ x ∈ l, x ≠ none) → (l.filterMap id).length = l.length
  | [], _ => rfl
  | none :: _, h => absurd rfl (h none List.mem_cons_self)
  | some a :: l, h => by
    have := all_some (l := l) fun x hx => h x (List.mem_cons_of_mem _ hx)
    simp [this]
theorem own_free {mask k : Nat} {owner : Array (Option Nat)} (h : Own mask owner k) (hk : k ≤ mask) : ∃ j, j ≤ mask ∧ Fre owner j := by
  refine Classical.byContradiction fun hn => ?_
  have ha : ∀ x ∈ owner.toList, x ≠ none := fun x hx e => by
    obtain ⟨j, hj, he⟩ := List.mem_iff_getElem.mp hx
    refine hn ⟨j, ?_, ?_⟩
    · have := h.1; rw [Array.length_toList] at hj; omega
    · unfold Fre
      rw [Array.length_toList] at hj
      rw [Array.getD_eq_getD_getElem?, Array.getElem?_eq_getElem hj, Option.getD_some]
      rw [Array.getElem_toList] at he
      rw [he, e]
  have h1 := all_some ha
  rw [h.2.length_eq, List.length_range, Array.length_toList, h.1] at h1
  omega
theorem set_perm : ∀ {l : List (Option Nat)} {j k : Nat}, l[j]? = some none → ((l.set j (some k)).filterMap id).Perm (k :: l.filterMap id)
  | [], j, k, h => by simp at h
  | a :: l, 0, k, h => by
    have : a = none := by simpa using h
    subst this
    simp
  | a :: l, j + 1, k, h => by
    have ih := set_perm (l := l) (j := j) (k := k) (by simpa using h)
    cases a with
    | none => simpa using ih
    | some b =>
      simp only [List.set_cons_succ, List.filterMap_cons, id]
      exact (List.Perm.cons b ih).trans (List.Perm.swap _ _ _)
theorem own_put {mask k j : Nat} {owner : Array (Option Nat)} (h : Own mask owner k) (hj : j ≤ mask) (hf : Fre owner j) : Own mask (owner.setIfInBounds j (some k)) (k + 1) := by
  have hs := h.1
  refine ⟨by rw [Array.size_setIfInBounds]; exact hs, ?_⟩
  have hjl : j < owner.size := by omega
  have e : (owner.setIfInBounds j (some k)).toList = owner.toList.set j (some k) := by simp
  rw [e]
  have hn : owner.toList[j]? = some none := by
    unfold Fre at hf
    rw [Array.getD_eq_getD_getElem?, Array.getElem?_eq_getElem hjl, Option.getD_some] at hf
    rw [Array.getElem?_toList, Array.getElem?_eq_getElem hjl, hf]
  refine (set_perm hn).trans ((List.Perm.cons k h.2).trans ?_)
  rw [List.range_succ]
  exact (List.perm_append_comm (l₁ := [k]) (l₂ := List.range k))
theorem own_new (mask : Nat) : Own mask (Array.replicate (mask + 1) none) 0 := by
  refine ⟨by simp, ?_⟩
  have : ∀ n : Nat, (List.replicate n (none : Option Nat)).filterMap id = [] := fun n => by induction n with | zero => rfl | succ n ih => rw [List.replicate_succ]; simpa using ih
  rw [Array.toList_replicate, this]
  exact .rfl
def layStep (mask : Nat) (acc : Option (Array (Option Nat) × Nat)) (h : Int) : Option (Array (Option Nat) × Nat) := do
    let (owner, k) ← acc
    let j ← SetTable.layClean.free mask owner (SetTable.turns mask) (SetTable.bits h % (mask + 1)) (SetTable.bits h)
    pure (owner.setIfInBounds j (some k), k + 1)
theorem lay_fold {mask : Nat} (hm : Mk3 mask) : ∀ (hs : List Int) (owner : Array (Option Nat)) (k : Nat), Own mask owner k → k + hs.length ≤ mask → ∃ owner', hs.foldl (layStep mask) (some (owner, k)) = some (owner', k + hs.length) ∧ Own mask owner' (k + hs.length)
  | [], owner, k, h, _ => ⟨owner, rfl, h⟩
  | x :: hs, owner, k, h, hl => by
    rw [List.length_cons] at hl
    obtain ⟨j0, hj0, hf0⟩ := own_free h (by omega)
    obtain ⟨j, e, hj, hf⟩ := free_some hm hj0 hf0 x
    obtain ⟨o', e', h'⟩ := lay_fold hm hs _ (k + 1) (own_put h hj hf) (by omega)
    refine ⟨o', ?_, by rw [List.length_cons, show k + (hs.length + 1) = k + 1 + hs.length by omega]; exact h'⟩
    rw [List.foldl_cons, List.length_cons, show k + (hs.length + 1) = k + 1 + hs.length by omega, ← e']
    congr 1
    unfold layStep
    show (SetTable.layClean.free mask owner (SetTable.turns mask) (SetTable.bits x % (mask + 1)) (SetTable.bits x)).bind _ = _
    rw [e]; rfl
theorem laid_ok {mask : Nat} (hm : Mk3 mask) (finger moves : Nat) (led plain : Bool) {hashes : Array Int} (hn : hashes.size ≤ mask) :
    ∃ t order, SetTable.laid mask finger moves led plain hashes = some (t, order) ∧ t.mask = mask ∧ t.led = led ∧ t.dummies = #[] ∧ Ris t.place ∧ t.place.size = hashes.size ∧ order.toList.Perm (List.range hashes.size) := by
  obtain ⟨o, e, h1, h2⟩ := lay_fold hm hashes.toList _ 0 (own_new mask) (by rw [Array.length_toList]; omega)
  rw [Nat.zero_add, Array.length_toList] at e h2
  have ec : SetTable.layClean mask hashes = some o := by
    unfold SetTable.layClean
    rw [← Array.foldl_toList]
    show (hashes.toList.foldl (layStep mask) (some (Array.replicate (mask + 1) none, 0))).map (·.1) = _
    rw [e]; rfl
  have el : ((List.range (mask + 1)).filterMap fun j => (o.getD j none).map (j, ·)).map (·.2) = o.toList.filterMap id := by
    rw [List.map_filterMap]
    have hr : o.toList = (List.range (mask + 1)).map fun j => o.getD j none := by
      refine List.ext_getElem (by rw [Array.length_toList, h1]; simp) fun i hi hi' => ?_
      rw [Array.length_toList] at hi
      rw [List.getElem_map, List.getElem_range, Array.getD_eq_getD_getElem?, Array.getElem?_eq_getElem hi, Option.getD_some, Array.getElem_toList]
    rw [hr, List.filterMap_map]
    congr 1
    funext j
    simp only [Function.comp]
    cases o.getD j none <;> rfl
  have hs1 : ((List.range (mask + 1)).filterMap fun j => (o.getD j none).map (j, ·)).length = hashes.size := by
    have := congrArg List.length el
    rw [List.length_map, h2.length_eq, List.length_range] at this
    exact this
  have hp : (((List.range (mask + 1)).filterMap fun j => (o.getD j none).map (j, ·)).map (·.1)).Pairwise (· < ·) := by
    rw [List.map_filterMap]
    refine List.Pairwise.filterMap _ (R := (· < ·)) ?_ List.pairwise_lt_range
    intro a a' haa b hb b' hb'
    cases ha : o.getD a none with
    | none => rw [ha] at hb; simp at hb
    | some x =>
      cases ha' : o.getD a' none with
      | none => rw [ha'] at hb'; simp at hb'
      | some y =>
        rw [ha] at hb; rw [ha'] at hb'
        simp at hb hb'
        subst hb; subst hb'
        exact haa
  refine ⟨{ mask, place := (((List.range (mask + 1)).filterMap fun j => (o.getD j none).map (j, ·)).map (·.1)).toArray, dummies := #[], finger, led, moves, plain },
    (((List.range (mask + 1)).filterMap fun j => (o.getD j none).map (j, ·)).map (·.2)).toArray, ?_, rfl, rfl, rfl, ris_list ?_, ?_, ?_⟩
  · unfold SetTable.laid
    rw [ec]; rfl
  · exact hp
  · show (((List.range (mask + 1)).filterMap fun j => (o.getD j none).map (j, ·)).map (·.1)).toArray.size = _
    rw [List.size_toArray, List.length_map, hs1]
  · show ((((List.range (mask + 1)).filterMap fun j => (o.getD j none).map (j, ·)).map (·.2)).toArray).toList.Perm _
    rw [el]
    exact h2
end L2
namespace L2
open PySem PySem.Spec PySem.Calls PyProof.Rows PySem.W
theorem erase_list {α : Type} (xs : Array α) (p : Nat) : (SetTable.eraseAt xs p).toList = xs.toList.eraseIdx p := by
  unfold SetTable.eraseAt
  rw [List.eraseIdx_eq_take_drop_succ]
  simp [Array.toList_extract]
  by_cases h : p + 1 ≤ xs.size
  · rw [show xs.size - (p + 1) = (xs.toList.drop (p + 1)).length by simp, List.take_length]
  · have : xs.toList.drop (p + 1) = [] := List.drop_eq_nil_of_le (by simp; omega)
    rw [this]; simp
theorem erase_size {α : Type} {xs : Array α} {p : Nat} (h : p < xs.size) : (SetTable.eraseAt xs p).size = xs.size - 1 := by
  rw [← Array.length_toList, erase_list, List.length_eraseIdx_of_lt (by simpa using h), Array.length_toList]
theorem erase_ris {xs : Array Nat} (h : Ris xs) (p : Nat) : Ris (SetTable.eraseAt xs p) := by
  refine ris_list ?_
  rw [erase_list]
  exact (list_ris h).sublist (List.eraseIdx_sublist _ _)
theorem insert_size {α : Type} (xs : Array α) (p : Nat) (x : α) (h : p ≤ xs.size) : (SetTable.insertAt xs p x).size = xs.size + 1 := by
  rw [← Array.length_toList, SetTable.toList_insertAt]
  simp; omega
theorem below_le (xs : Array Nat) (j : Nat) : SetTable.below xs j ≤ xs.size := by
  have key : ∀ (fuel lo hi : Nat), lo ≤ hi → hi ≤ xs.size → SetTable.below.go xs j fuel lo hi ≤ xs.size := by
    intro fuel
    induction fuel with
    | zero => intro lo hi h1 h2; unfold SetTable.below.go; omega
    | succ n ih =>
      intro lo hi h1 h2
      unfold SetTable.below.go
      split
      · dsimp only
        split
        · exact ih _ _ (by omega) h2
        · exact ih _ _ (by omega) (by omega)
      · omega
  exact key _ _ _ (Nat.zero_le _) (Nat.le_refl _)
section
variable {prog : Program} {w : World} {K : Type} [DecidableEq K] {knd : KeyKind prog w K} {A : Around} {E : Value → Shared → Prop} {s : Shared}
theorem kit_find {a : Addr} {o : Obj} {es : Array (Int × Value)} {ep : Nat} {t : SetTable} {S : K → Prop} {k : K} {x : Value} {Q : Option Nat → Shared → Prop} (ho : s.heap.get? a = some o) (X : KIt knd o es ep t S) (hkey : knd.is k x = true) (hsc : x.scannable = true)
    (h0 : ¬ S k → Q none s) (h1 : ∀ (j : Nat) (hj : j < es.toList.length), knd.is k es.toList[j].2 = true → S k → Q (some j) s) : wpAny (model prog w) A (setFind a x (knd.hash k)) Q E s := by
  unfold setFind setFindIn
  refine wpAny_bind (wpAny_setState_of ho X.data X.ok.fits ?_)
  dsimp only
  rw [byScan_of hsc X.few X.el]
  simp only [↓reduceIte]
  refine wpAny_bind (wpAny_rule ?_)
  refine wpAny_bind (wpAny_setScan_of hkey ho X.data X.ok.fits X.el ?_)
  cases hr : List.findIdx? (fun e => knd.is k e.2) es.toList with
  | none =>
    dsimp only
    refine wpAny_pure (h0 fun z => ?_)
    obtain ⟨e, he, hpe⟩ := (X.mem k).mp z
    have := List.findIdx?_eq_none_iff.mp hr e he
    rw [hpe] at this; exact Bool.noConfusion this
  | some j =>
    dsimp only
    obtain ⟨hj, hpj, _⟩ := List.findIdx?_eq_some_iff_getElem.mp hr
    rw [Nat.zero_add]
    exact wpAny_pure (h1 j hj hpj ((X.mem k).mpr ⟨es.toList[j], List.getElem_mem hj, hpj⟩))
def DSet (knd : KeyKind prog w K) (h : Heap) (a : Addr) (S : K → Prop) (d : Nat) : Prop := ∃ o es ep t, h.get? a = some o ∧ KIt knd o es ep t S ∧ t.dummies.size ≤ d ∧ 7 ≤ t.mask
theorem KIt.store {h : Heap} {a : Addr} {o : Obj} {es : Array (Int × Value)} {ep : Nat} {t : SetTable} {S : K → Prop} (x : KIt knd o es ep t S) (ho : h.get? a = some o) {es' : Array (Int × Value)} {t' : SetTable} {S' : K → Prop}
    (hel : ElemsOf knd es'.toList) (hmem : ∀ k, S' k ↔ ∃ e ∈ es'.toList, knd.is k e.2 = true) (hap : es'.toList.Pairwise (Apart knd)) (hb : es'.size < scanBound) (hok : OkW t' es'.size) (hl : t'.led = !w.params.followText "set-order") :
    (h.update a (Obj.putSet es' t')).get? a = some { o with data := .set es' (ep + 1) t' } ∧ KIt knd { o with data := .set es' (ep + 1) t' } es' (ep + 1) t' S' := by
  have hg : (h.update a (Obj.putSet es' t')).get? a = some { o with data := .set es' (ep + 1) t' } := by
    have := Heap.get?_update_self (Obj.putSet es' t') ho (by rw [putSet_of es' t' x.data]; rfl)
    rw [putSet_of es' t' x.data] at this; exact this
  exact ⟨hg, x.ex, rfl, hel, hmem, hap, hb, hok, hl⟩
theorem kit_discard {a : Addr} {S : K → Prop} {d : Nat} {k : K} {x : Value} {Q : Bool → Shared → Prop} (hD : DSet knd s.heap a S d) (hkey : knd.is k x = true) (hsc : x.scannable = true)
    (h : ∀ b h', Heap.SameBut a s.heap h' → DSet knd h' a (fun k' => S k' ∧ k' ≠ k) (d + 1) → Q b { s with heap := h' }) : wpAny (model prog w) A (setDiscardHashed a x (knd.hash k)) Q E s := by
  obtain ⟨o, es, ep, t, ho, X, hd, hm⟩ := hD
  unfold setDiscardHashed
  refine wpAny_bind (kit_find ho X hkey hsc (fun hn => ?_) (fun j hj hpj hS => ?_))
  · refine wpAny_pure ?_
    have e : s = { s with heap := s.heap } := by cases s; rfl
    have := h false s.heap (Heap.SameBut.refl a s.heap) ⟨o, es, ep, t, ho, ⟨X.ex, X.data, X.el, fun k' => by
      rw [← X.mem k']
      exact ⟨fun z => z.1, fun z => ⟨z, fun e => hn (e ▸ z)⟩⟩, X.apart, X.few, X.ok, X.led⟩, by omega, hm⟩
    rw [e]; exact this
  · dsimp only
    refine wpAny_bind (wpAny_setState_of ho X.data X.ok.fits ?_)
    dsimp only
    have hjs : j < es.size := by simpa using hj
    have hfit := X.ok.fits
    simp only [SetTable.fits, Bool.and_eq_true, beq_iff_eq, decide_eq_true_eq] at hfit
    have hpl : t.place[j]? = some (t.place[j]'(by omega)) := Array.getElem?_eq_getElem (by omega)
    have edr : t.drop j = { t with place := SetTable.eraseAt t.place j, dummies := SetTable.insertAt t.dummies (SetTable.below t.dummies (t.place[j]'(by omega))) (t.place[j]'(by omega)) } := by
      unfold SetTable.drop; rw [hpl]
    have hsz : (SetTable.eraseAt es j).size = es.size - 1 := erase_size hjs
    have hds : (t.drop j).dummies.size = t.dummies.size + 1 := by rw [edr]; exact insert_size _ _ _ (below_le _ _)
    have hps : (t.drop j).place.size = t.place.size - 1 := by rw [edr]; exact erase_size (by omega)
    have hmk : (t.drop j).mask = t.mask := by rw [edr]
    have hfl : (t.drop j).fill = t.fill := by unfold SetTable.fill; rw [hds, hps]; omega
    have hsub : (SetTable.eraseAt es j).toList.Sublist es.toList := by rw [erase_list]; exact List.eraseIdx_sublist _ _
    have hel' : ElemsOf knd (SetTable.eraseAt es j).toList := fun e he => X.el e (hsub.subset he)
    have hb' : (SetTable.eraseAt es j).size < scanBound := by have := X.few; omega
    have hmem' : ∀ k', (S k' ∧ k' ≠ k) ↔ ∃ e ∈ (SetTable.eraseAt es j).toList, knd.is k' e.2 = true := fun k' => by
      rw [erase_list]
      have hp := erase_perm hj
      have hap := (hp.pairwise_iff (fun {x y} h => apart_symm h)).mpr X.apart
      rw [X.mem k']
      constructor
      · rintro ⟨⟨e, he, hq⟩, hne⟩
        rcases List.mem_cons.mp (hp.mem_iff.mpr he) with rfl | he'
        · exact absurd (knd.inj _ _ _ hq hpj) hne
        · exact ⟨e, he', hq⟩
      · rintro ⟨e, he, hq⟩
        refine ⟨⟨e, hp.mem_iff.mp (List.mem_cons_of_mem _ he), hq⟩, fun z => ?_⟩
        subst z
        exact (List.pairwise_cons.mp hap).1 e he k' hpj hq
    refine wpAny_bind (wpAny_storeSet_of ho X.data ?_ (fits_of_scanBound hb'))
    obtain ⟨ho1, X1⟩ := X.store ho hel' hmem' (X.apart.sublist hsub) hb' ⟨by
      simp only [SetTable.fits, Bool.and_eq_true, beq_iff_eq, decide_eq_true_eq]
      rw [hps, hfl, hmk, hsz]
      exact ⟨by omega, hfit.2⟩, by rw [edr]; exact erase_ris X.ok.ris j⟩ (by rw [edr]; exact X.led)
    exact wpAny_bind (wpAny_point (wpAny_pure (h true _ (Heap.SameBut.update _ a _) ⟨_, _, _, _, ho1, X1, by rw [hds]; omega, by rw [hmk]; exact hm⟩)))
theorem wp_quiet {sets : List Addr} {Q : Bool → Shared → Prop} (h : ∀ a ∈ sets, ∃ o es ep t, s.heap.get? a = some o ∧ o.data = .set es ep t ∧ t.fits es.size = true ∧ ∀ e ∈ es.toList, e.2.scannable = true) (q : Q true s) : wpAny (model prog w) A (setsQuiet sets) Q E s := by
  unfold setsQuiet
  refine wpAny_bind (wpAny_forIn_list _ (fun rest b s' => b.1 = none ∧ s' = s ∧ ∀ a ∈ rest, a ∈ sets) (fun b s' => b.1 = none ∧ s' = s) ?turn ?fin _ _ ⟨rfl, rfl, fun a h => h⟩ |> fun z => wpAny_mono z ?post (fun _ _ h => h))
  case turn =>
    rintro a rest b s' ⟨hb, rfl, hm⟩
    obtain ⟨o, es, ep, t, ho, hd, hf, hsc⟩ := h a (hm a List.mem_cons_self)
    refine wpAny_bind (wpAny_setEntries_of ho hd hf ?_)
    refine wpAny_bind (MeetsSeq2.wpAny_forIn_array _ (fun rest b s'' => b.1 = none ∧ s'' = s' ∧ ∀ e ∈ rest, e ∈ es.toList) (fun b s'' => b.1 = none ∧ s'' = s') ?turn2 ?fin2 _ _ ⟨rfl, rfl, fun e h => h⟩ |> fun z => wpAny_mono z ?post2 (fun _ _ h => h))
    case turn2 =>
      rintro ⟨hh, x⟩ rest2 b2 s2 ⟨hb2, rfl, hm2⟩
      have hx := hsc _ (hm2 _ List.mem_cons_self)
      cases x <;> first | exact wpAny_pure ⟨rfl, rfl, fun e he => hm2 e (List.mem_cons_of_mem _ he)⟩ | cases hx
    case fin2 => rintro b2 s2 ⟨hb2, rfl, _⟩; exact ⟨hb2, rfl⟩
    case post2 =>
      rintro ⟨b1, b2⟩ s2 ⟨hb2, rfl⟩
      dsimp only at hb2
      subst hb2
      exact wpAny_pure ⟨rfl, rfl, fun a ha => hm a (List.mem_cons_of_mem _ ha)⟩
  case fin => rintro b s' ⟨hb, rfl, _⟩; exact ⟨hb, rfl⟩
  case post =>
    rintro ⟨b1, b2⟩ s' ⟨hb, rfl⟩
    dsimp only at hb
    subst hb
    exact wpAny_pure q
end
end L2
namespace L2
open PySem PySem.Spec PySem.Calls PyProof.Rows PySem.W
theorem sab16 {n : Nat} (h : 5 ≤ n) (h2 : n ≤ 7) : SetTable.sizeAbove (n * 2) = 16 := by
  have : n = 5 ∨ n = 6 ∨ n = 7 := by omega
  rcases this with rfl | rfl | rfl <;> decide +kernel
theorem sab32 {n : Nat} (h : 8 ≤ n) (h2 : n ≤ 11) : SetTable.sizeAbove (n * 2) = 32 := by
  have : n = 8 ∨ n = 9 ∨ n = 10 ∨ n = 11 := by omega
  rcases this with rfl | rfl | rfl | rfl <;> decide +kernel
section
variable {prog : Program} {w : World} {K : Type} [DecidableEq K] {knd : KeyKind prog w K} {A : Around} {E : Value → Shared → Prop} {s : Shared}
theorem wp_walk_led {a : Addr} {o : Obj} {es : Array (Int × Value)} {ep : Nat} {t : SetTable} {S : K → Prop} {Q : Array (Int × Value) → Shared → Prop} (ho : s.heap.get? a = some o) (X : KIt knd o es ep t S) (hc : w.params.followText "set-order" = true ∨ t.plain = true ∨ es.size ≤ 1)
    (q : ∀ ord : Array (Int × Value), ord.toList.Perm es.toList → Q ord s) : wpAny (model prog w) A (setWalk a) Q E s := by
  by_cases hb : w.params.followText "set-order" = true
  · exact wp_setWalkT ho X.o hb (q _ (pick_perm _ _))
  have hb' : w.params.followText "set-order" = false := Bool.eq_false_iff.mpr hb
  unfold setWalk
  refine wpAny_bind (wpAny_setState_of ho X.data X.ok.fits ?_)
  dsimp only
  refine wpAny_bind (wp_byText ?_)
  rw [hb']
  simp only [Bool.false_eq_true, if_false]
  have hd : SDrawn es t = false := by
    unfold SDrawn
    rcases hc with z | z | z
    · exact absurd z hb
    · rw [z]; rfl
    · rw [decide_eq_false (by omega)]; simp
  show wpAny _ _ (if SDrawn es t = true then _ else _) _ _ s
  rw [hd]
  simp only [Bool.false_eq_true, if_false]
  have hled : t.led = true := by rw [X.led, hb']; rfl
  show wpAny _ _ ((if (!t.led && decide (es.size > 1)) = true then unsupported "set:maker-not-led" else pure ()) >>= _) _ _ s
  rw [hled]
  simp only [Bool.not_true, Bool.false_and, Bool.false_eq_true, if_false]
  exact wpAny_bind (wpAny_pure (wpAny_pure (q es .rfl)))
theorem KIt.q {a : Addr} {h : Heap} {o : Obj} {es : Array (Int × Value)} {ep : Nat} {t : SetTable} {S : K → Prop} (ho : h.get? a = some o) (X : KIt knd o es ep t S) : ∃ o es ep t, h.get? a = some o ∧ o.data = .set es ep t ∧ t.fits es.size = true ∧ ∀ e ∈ es.toList, e.2.scannable = true :=
  ⟨o, es, ep, t, ho, X.data, X.ok.fits, fun e he => (X.el e he).2⟩
theorem wp_unseen0 {a : Addr} {o : Obj} {es : Array (Int × Value)} {ep : Nat} {t : SetTable} {S : K → Prop} {others : List Addr} {Q : Array (Int × Value) → Shared → Prop} (ho : s.heap.get? a = some o) (X : KIt knd o es ep t S)
    (hs : ∀ b ∈ others, ∃ o es ep t, s.heap.get? b = some o ∧ o.data = .set es ep t ∧ t.fits es.size = true ∧ ∀ e ∈ es.toList, e.2.scannable = true)
    (q : ∀ ord : Array (Int × Value), ord.toList.Perm es.toList → Q ord s) : wpAny (model prog w) A (setWalkUnseen a others none) Q E s := by
  unfold setWalkUnseen
  refine wpAny_bind (wpAny_setState_of ho X.data X.ok.fits ?_)
  dsimp only
  refine wpAny_bind (wp_byText ?_)
  have hled := X.led
  split
  · next hc =>
    refine wp_walk_led ho X ?_ fun ord hp => q ord hp
    simp only [Bool.or_eq_true, Bool.and_eq_true, decide_eq_true_eq] at hc
    rcases hc with (z | z) | z
    · exact .inl z
    · exact .inr (.inl z.2)
    · exact .inr (.inr z)
  · refine wpAny_bind (wp_quiet (fun b hb => ?_) ?_)
    · rcases List.mem_cons.mp hb with rfl | hb
      · exact KIt.q ho X
      · exact hs b hb
    · simp only [Bool.not_true, Bool.false_eq_true, if_false]
      exact wpAny_bind (wpAny_rule (wpAny_pure (q es .rfl)))
theorem wp_unseen1 {a f : Addr} {o : Obj} {es : Array (Int × Value)} {ep : Nat} {t : SetTable} {S S' : K → Prop} {n' : Nat} {others : List Addr} {Q : Array (Int × Value) → Shared → Prop} (ho : s.heap.get? a = some o) (X : KIt knd o es ep t S)
    (hs : ∀ b ∈ others, ∃ o es ep t, s.heap.get? b = some o ∧ o.data = .set es ep t ∧ t.fits es.size = true ∧ ∀ e ∈ es.toList, e.2.scannable = true) (hf : KSet knd s.heap f S' n')
    (q : ∀ (ord : Array (Int × Value)) h', ord.toList.Perm es.toList → Heap.SameBut f s.heap h' → KSet knd h' f S' n' → Q ord { s with heap := h' }) : wpAny (model prog w) A (setWalkUnseen a others (some f)) Q E s := by
  have es0 : s = { s with heap := s.heap } := by cases s; rfl
  have q0 : ∀ ord : Array (Int × Value), ord.toList.Perm es.toList → Q ord s := fun ord hp => by
    have := q ord s.heap hp (Heap.SameBut.refl f s.heap) hf
    rw [es0]; exact this
  unfold setWalkUnseen
  refine wpAny_bind (wpAny_setState_of ho X.data X.ok.fits ?_)
  dsimp only
  refine wpAny_bind (wp_byText ?_)
  have hled := X.led
  split
  · next hc =>
    refine wp_walk_led ho X ?_ fun ord hp => q0 ord hp
    simp only [Bool.or_eq_true, Bool.and_eq_true, decide_eq_true_eq] at hc
    rcases hc with (z | z) | z
    · exact .inl z
    · exact .inr (.inl z.2)
    · exact .inr (.inr z)
  · refine wpAny_bind (wp_quiet (fun b hb => ?_) ?_)
    · rcases List.mem_cons.mp hb with rfl | hb
      · exact KIt.q ho X
      · exact hs b hb
    · simp only [Bool.not_true, Bool.false_eq_true, if_false]
      refine wpAny_bind (wpAny_rule ?_)
      obtain ⟨of, ef, epf, tf, hof, Xf, hnf⟩ := hf
      refine wpAny_bind (wpAny_setState_of hof Xf.data Xf.ok.fits ?_)
      dsimp only
      split
      · refine wpAny_bind (wpAny_storeSet_of hof Xf.data ?_ (fits_of_scanBound Xf.few))
        obtain ⟨ho1, X1⟩ := Xf.store hof (S' := S') (t' := { tf with led := tf.led && t.led, plain := tf.plain && t.plain }) Xf.el Xf.mem Xf.apart Xf.few ⟨Xf.ok.fits, Xf.ok.ris, Xf.ok.nd⟩ (by show (tf.led && t.led) = _; rw [Xf.led, hled]; simp)
        exact wpAny_pure (q es _ .rfl (Heap.SameBut.update _ f _) ⟨_, _, _, _, ho1, X1, hnf⟩)
      · exact wpAny_pure (q0 es .rfl)
end
end L2
namespace L2
open PySem PySem.Spec PySem.Calls PyProof.Rows PySem.W
section
variable {prog : Program} {w : World} {K : Type} [DecidableEq K] {knd : KeyKind prog w K} {A : Around} {E : Value → Shared → Prop} {s : Shared}
structure Emp (w : World) (o : Obj) (ep : Nat) (t : SetTable) : Prop where
  ex : o.ExactSet
  data : o.data = .set #[] ep t
  m3 : Mk3 t.mask
  pl : t.place = #[]
  nd : t.dummies = #[]
  led : t.led = !w.params.followText "set-order"
theorem Emp.fits {o : Obj} {ep : Nat} {t : SetTable} (h : Emp w o ep t) : t.fits (#[] : Array (Int × Value)).size = true := by
  unfold SetTable.fits SetTable.fill
  rw [h.pl, h.nd]; simp
theorem Emp.kset {o : Obj} {ep : Nat} {t : SetTable} (h : Emp w o ep t) : KObj knd o #[] ep t (fun _ => False) :=
  ⟨h.ex, h.data, fun e he => by simp at he, fun k => by simp, by simp, by decide, ⟨h.fits, by rw [h.pl]; exact fun i j hi _ _ => absurd hi (Nat.not_lt_zero _), h.nd⟩, h.led⟩
theorem wp_reorder {es : Array (Int × Value)} {t : SetTable} {order : Array Nat} (hp : order.toList.Perm (List.range es.size)) : (order.filterMap (es[·]?)).size = es.size ∧ (order.filterMap (es[·]?)).toList.Perm es.toList := by
  have h : (order.filterMap (es[·]?)).toList.Perm es.toList := by
    rw [Array.toList_filterMap]
    exact perm_pick hp
  exact ⟨by rw [← Array.length_toList, h.length_eq, Array.length_toList], h⟩
theorem wp_room {r : Addr} {o : Obj} {ep n : Nat} {t : SetTable} {Q : Unit → Shared → Prop} (ho : s.heap.get? r = some o) (X : Emp w o ep t) (h7 : t.mask = 7) (hn : n ≤ 11)
    (q : ∀ h' o' ep' t', Heap.SameBut r s.heap h' → h'.get? r = some o' → Emp w o' ep' t' → n ≤ t'.mask → Q () { s with heap := h' }) : wpAny (model prog w) A (setRoomFor r n) Q E s := by
  have hfill : t.fill = 0 := by unfold SetTable.fill; rw [X.pl, X.nd]; rfl
  have hps : t.place.size = 0 := by rw [X.pl]; rfl
  unfold setRoomFor
  refine wpAny_bind (wpAny_setState_of ho X.data X.fits ?_)
  dsimp only
  have er : t.roomFor n = if n * 5 ≥ 21 then some (n * 2) else none := by
    unfold SetTable.roomFor
    rw [hfill, hps, h7]
    simp
  rw [er]
  by_cases h5 : n * 5 ≥ 21
  · rw [if_pos h5]
    dsimp only
    unfold setRelay
    refine wpAny_bind (wpAny_setState_of ho X.data X.fits ?_)
    dsimp only
    have hsa : (SetTable.sizeAbove (n * 2) = 16 ∧ n ≤ 15) ∨ (SetTable.sizeAbove (n * 2) = 32 ∧ n ≤ 31) := by
      by_cases h8 : n ≤ 7
      · exact .inl ⟨sab16 (by omega) h8, by omega⟩
      · exact .inr ⟨sab32 (by omega) hn, by omega⟩
    have hle : ¬ SetTable.sizeAbove (n * 2) > sizeLine := by rw [sizeLine_eq]; omega
    rw [if_neg hle]
    have hm3 : Mk3 (SetTable.sizeAbove (n * 2) - 1) := by
      unfold Mk3
      rcases hsa with ⟨z, _⟩ | ⟨z, _⟩ <;> rw [z] <;> simp
    obtain ⟨t2, order, el, e1, e2, e3, e4, e5, e6⟩ := laid_ok hm3 t.finger (t.movedTo (SetTable.sizeAbove (n * 2) - 1)) t.led t.plain (hashes := (#[] : Array (Int × Value)).map (·.1)) (by simp)
    have erl : t.relaid ((#[] : Array (Int × Value)).map (·.1)) (n * 2) = some (t2, order) := el
    rw [erl]
    have ho0 : order = #[] := by
      have := e6.length_eq
      rw [List.length_range] at this
      rw [← Array.length_toList] at this
      simp at this
      exact this
    subst ho0
    refine wpAny_bind ?_
    show wpAny _ _ (pure ((#[] : Array (Int × Value)), t2)) _ _ s
    refine wpAny_pure ?_
    dsimp only
    refine wpAny_storeSet_of ho X.data ?_ (Nat.zero_le _)
    have hg : (s.heap.update r (Obj.putSet #[] t2)).get? r = some { o with data := .set #[] (ep + 1) t2 } := by
      have := Heap.get?_update_self (Obj.putSet #[] t2) ho (by rw [putSet_of #[] t2 X.data]; rfl)
      rw [putSet_of #[] t2 X.data] at this; exact this
    refine q _ _ _ t2 (Heap.SameBut.update _ r _) hg ⟨X.ex, rfl, by rw [e1]; exact hm3, ?_, e3, by rw [e2]; exact X.led⟩ ?_
    · have : t2.place.size = 0 := by rw [e5]; simp
      exact Array.eq_empty_of_size_eq_zero this
    · rw [e1]; omega
  · rw [if_neg h5]
    dsimp only
    refine wpAny_pure ?_
    have := q s.heap o ep t (Heap.SameBut.refl r s.heap) ho X (by rw [h7]; omega)
    have es0 : s = { s with heap := s.heap } := by cases s; rfl
    rw [es0]; exact this
theorem wp_merge {r a : Addr} {o oa : Obj} {ep epa : Nat} {t ta : SetTable} {ea : Array (Int × Value)} {S : K → Prop} {Q : Unit → Shared → Prop} (ho : s.heap.get? r = some o) (X : Emp w o ep t) (h7 : t.mask = 7) (hoa : s.heap.get? a = some oa) (Xa : KIt knd oa ea epa ta S) (hne : r ≠ a) (hn : ea.size ≤ 11) (h0 : ea.isEmpty = false)
    (q : ∀ h', Heap.SameBut r s.heap h' → DSet knd h' r S 0 → Q () { s with heap := h' }) : wpAny (model prog w) A (setMerge r a) Q E s := by
  unfold setMerge
  rw [if_neg (by simpa using hne)]
  refine wpAny_bind (wpAny_setState_of hoa Xa.data Xa.ok.fits ?_)
  dsimp only
  rw [h0]
  simp only [Bool.false_eq_true, if_false]
  refine wpAny_bind (wp_room ho X h7 hn fun h1 o1 ep1 t1 sb1 ho1 X1 hm1 => ?_)
  refine wpAny_bind (wpAny_setState_of ho1 X1.data X1.fits ?_)
  dsimp only
  have hfill : t1.fill = 0 := by unfold SetTable.fill; rw [X1.pl, X1.nd]; rfl
  have hk1 := X1.kset (knd := knd) |>.it
  have hl : (t1.led && ta.led) = !w.params.followText "set-order" := by rw [X1.led, Xa.led]; simp
  have h7m : 7 ≤ t1.mask := by rcases X1.m3 with z | z | z <;> omega
  unfold SetTable.road
  rw [hfill]
  simp only [bne_self_eq_false, Bool.false_eq_true, if_false]
  by_cases hr : (t1.mask == ta.mask && ta.dummies.isEmpty) = true
  · rw [if_pos hr]
    dsimp only
    simp only [Bool.and_eq_true, beq_iff_eq] at hr
    refine wpAny_storeSet_of ho1 X1.data ?_ (fits_of_scanBound Xa.few)
    obtain ⟨ho2, X2⟩ := hk1.store ho1 (S' := S) (t' := { ta with finger := t1.finger, led := t1.led && ta.led, moves := t1.moves, plain := t1.plain && ta.plain }) Xa.el Xa.mem Xa.apart Xa.few ⟨Xa.ok.fits, Xa.ok.ris⟩ hl
    exact q _ (sb1.trans (Heap.SameBut.update _ r _)) ⟨_, _, _, _, ho2, X2, by
      show ta.dummies.size ≤ 0
      have := hr.2
      rw [Array.isEmpty_iff_size_eq_zero] at this
      omega, by show 7 ≤ ta.mask; rw [← hr.1]; exact h7m⟩
  · rw [if_neg hr]
    dsimp only
    obtain ⟨t2, order, el, e1, e2, e3, e4, e5, e6⟩ := laid_ok X1.m3 t1.finger t1.moves (t1.led && ta.led) (t1.plain && ta.plain) (hashes := ea.map (·.1)) (by simpa using hm1)
    rw [Array.size_map] at e5 e6
    obtain ⟨hs2, hp2⟩ := wp_reorder (t := t2) e6
    rw [el]
    refine wpAny_bind ?_
    show wpAny _ _ (if ((order.filterMap (ea[·]?)).size != ea.size) = true then _ else pure (order.filterMap (ea[·]?), t2)) _ _ _
    rw [hs2]
    simp only [bne_self_eq_false, Bool.false_eq_true, if_false]
    refine wpAny_pure ?_
    dsimp only
    have hb2 : (order.filterMap (ea[·]?)).size < scanBound := by rw [hs2]; exact Xa.few
    refine wpAny_storeSet_of ho1 X1.data ?_ (fits_of_scanBound hb2)
    obtain ⟨ho2, X2⟩ := hk1.store ho1 (S' := S) (es' := order.filterMap (ea[·]?)) (t' := t2) (Xa.el.perm hp2) (fun k => (Xa.mem k).trans ⟨fun ⟨e, he, z⟩ => ⟨e, hp2.mem_iff.mpr he, z⟩, fun ⟨e, he, z⟩ => ⟨e, hp2.mem_iff.mp he, z⟩⟩) ((hp2.pairwise_iff (fun {x y} h => apart_symm h)).mpr Xa.apart) hb2
      ⟨by
        unfold SetTable.fits SetTable.fill
        rw [e5, e3, e1, hs2]
        simp; omega, e4⟩ (by rw [e2]; exact hl)
    exact q _ (sb1.trans (Heap.SameBut.update _ r _)) ⟨_, _, _, _, ho2, X2, by rw [e3]; exact Nat.le_refl _, by rw [e1]; exact h7m⟩
end
end L2
namespace L2
open PySem PySem.Spec PySem.Calls PyProof.Rows PySem.W
section
variable {prog : Program} {w : World} {K : Type} [DecidableEq K] {knd : KeyKind prog w K} {A : Around} {E : Value → Shared → Prop} {s : Shared}
theorem wp_anyset {a : Addr} {Q : Bool → Shared → Prop} (h : s.TypeIs (.ref a) "set") (q : Q true s) : wpAny (model prog w) A (Builtin.Frozenset.isAnySet (.ref a)) Q E s := by
  unfold Builtin.Frozenset.isAnySet
  refine wpAny_bind (wpAny_isInstance h sub_set_self ?_)
  exact wpAny_pure q
theorem wp_base {a : Addr} {Q : Value → Shared → Prop} (h : s.TypeIs (.ref a) "set") (q : Q (.type "set") s) : wpAny (model prog w) A (Builtin.Frozenset.baseOf a) Q E s := by
  unfold Builtin.Frozenset.baseOf
  exact wpAny_bind (wpAny_isInstance h sub_set_self (wpAny_pure q))
theorem wp_size {a : Addr} {o : Obj} {es : Array (Int × Value)} {ep : Nat} {t : SetTable} {S : K → Prop} {Q : Nat → Shared → Prop} (ho : s.heap.get? a = some o) (X : KIt knd o es ep t S) (q : Q es.size s) : wpAny (model prog w) A (Builtin.Frozenset.sizeOf a) Q E s := by
  unfold Builtin.Frozenset.sizeOf
  exact wpAny_bind (wpAny_setEntries_of ho X.data X.ok.fits (wpAny_pure q))
theorem wp_newset {Q : Value → Shared → Prop} (q : ∀ h', h' = s.heap.push { cls := .type "set", dict := none, data := .set #[] 0 (.fresh 0 0 (!w.params.followText "set-order")) } → Q (.ref s.heap.objs.size) { s with heap := h' }) : wpAny (model prog w) A (newSet (.type "set")) Q E s := by
  unfold newSet setsByText
  refine wpAny_bind (wpAny_bind (wpAny_askSetting (wpAny_pure ?_)))
  dsimp only
  simp only [newObj]
  exact wpAny_bind (wpAny_alloc (wpAny_pure (q _ rfl)))
theorem emp_new {h : Heap} {a : Addr} (hg : h.get? a = some { cls := .type "set", dict := none, data := .set #[] 0 (.fresh 0 0 (!w.params.followText "set-order")) }) : ∃ o ep t, h.get? a = some o ∧ Emp w o ep t ∧ t.mask = 7 :=
  ⟨_, _, _, hg, ⟨⟨rfl, rfl, rfl⟩, rfl, .inl rfl, rfl, rfl, rfl⟩, rfl⟩
theorem wp_unchanged {id : String} {a : Addr} {o : Obj} {es : Array (Int × Value)} {ep : Nat} {t : SetTable} {S : K → Prop} {Q : Unit → Shared → Prop} (ho : s.heap.get? a = some o) (X : KIt knd o es ep t S) (q : Q () s) : wpAny (model prog w) A (Builtin.Frozenset.unchanged id a ep) Q E s := by
  unfold Builtin.Frozenset.unchanged
  refine wpAny_bind (wpAny_setEpoch_of ho X.data X.ok.fits ?_)
  simp only [bne_self_eq_false, Bool.false_eq_true, if_false]
  exact wpAny_pure q
theorem wp_diffup {id : String} {r b : Addr} {S T : K → Prop} {ob : Obj} {eb : Array (Int × Value)} {epb : Nat} {tb : SetTable} {Q : Unit → Shared → Prop} (hr : DSet knd s.heap r S 0) (hob : s.heap.get? b = some ob) (Xb : KIt knd ob eb epb tb T) (hne : r ≠ b) (h1 : eb.size ≤ 1)
    (q : ∀ h', Heap.SameBut r s.heap h' → KSetI knd h' r (fun k => S k ∧ ¬ T k) 4096 → Q () { s with heap := h' }) : wpAny (model prog w) A (Builtin.Frozenset.differenceUpdate id r (.ref b)) Q E s := by
  unfold Builtin.Frozenset.differenceUpdate
  have hbr : (Value.ref b == Value.ref r) = false := by
    rw [beq_eq_false_iff_ne]; intro z; injection z with z; exact hne z.symm
  rw [hbr]
  simp only [Bool.false_eq_true, if_false]
  refine wpAny_bind (wp_anyset ⟨ob, hob, Xb.ex.1⟩ ?_)
  simp only [if_true]
  obtain ⟨o, es, ep, t, ho, X, hd, hm⟩ := hr
  refine wpAny_bind (m := Builtin.Frozenset.addrOf (.ref b)) (wpAny_pure ?_)
  refine wpAny_bind (wp_size hob Xb ?_)
  refine wpAny_bind (wp_size ho X ?_)
  rw [if_neg (by omega)]
  have es0 : s = { s with heap := s.heap } := by cases s; rfl
  refine wpAny_bind (wpAny_setEpoch_of hob Xb.data Xb.ok.fits ?_)
  refine wpAny_bind (wpAny_holding ?_)
  refine wpAny_bind (wp_unseen0 hob Xb (fun c hc => ?_) fun ord hp => ?_)
  · rw [List.mem_singleton.mp hc]; exact KIt.q ho X
  refine wpAny_bind (wpAny_mono (MeetsSeq2.wpAny_forIn_array _ (fun rest _ s' => ∃ done h', done ++ rest = ord.toList ∧ s' = { s with heap := h' } ∧ Heap.SameBut r s.heap h' ∧ DSet knd h' r (fun k => S k ∧ ∀ e ∈ done, knd.is k e.2 = false) done.length)
    (fun _ s' => ∃ h', s' = { s with heap := h' } ∧ Heap.SameBut r s.heap h' ∧ DSet knd h' r (fun k => S k ∧ ¬ T k) ord.toList.length) ?turn ?fin _ _ ?ini) ?post (fun _ _ h => h))
  case ini =>
    refine ⟨[], s.heap, rfl, es0, Heap.SameBut.refl r s.heap, o, es, ep, t, ho, ⟨X.ex, X.data, X.el, fun k => ?_, X.apart, X.few, X.ok, X.led⟩, hd, hm⟩
    rw [← X.mem k]
    exact ⟨fun z => z.1, fun z => ⟨z, fun e he => absurd he List.not_mem_nil⟩⟩
  case turn =>
    rintro ⟨hh, x⟩ rest _ s' ⟨done, h', e, rfl, sb, hD⟩
    have hin : (hh, x) ∈ eb.toList := hp.mem_iff.mp (by rw [← e]; exact List.mem_append_right _ List.mem_cons_self)
    obtain ⟨⟨k, hk, hhk⟩, hsc⟩ := Xb.el _ hin
    dsimp only at hk hhk hsc
    subst hhk
    dsimp only
    refine wpAny_bind (wpAny_holding (kit_discard (s := { s with heap := h' }) hD hk hsc fun bb h2 sb2 hD2 => ?_))
    refine wpAny_bind (wp_unchanged (s := { s with heap := h2 }) ((sb2.2 b (Ne.symm hne)).trans ((sb.2 b (Ne.symm hne)).trans hob)) Xb ?_)
    refine wpAny_pure ⟨done ++ [(knd.hash k, x)], h2, by rw [List.append_assoc]; exact e, rfl, sb.trans sb2, ?_⟩
    obtain ⟨o2, es2, ep2, t2, ho2, X2, hd2, hm2⟩ := hD2
    refine ⟨o2, es2, ep2, t2, ho2, ⟨X2.ex, X2.data, X2.el, fun k' => ?_, X2.apart, X2.few, X2.ok, X2.led⟩, by rw [List.length_append, List.length_singleton]; exact hd2, hm2⟩
    rw [← X2.mem k']
    constructor
    · rintro ⟨z1, z2⟩
      refine ⟨⟨z1, fun e he => z2 e (List.mem_append_left _ he)⟩, fun z => ?_⟩
      subst z
      have := z2 _ (List.mem_append_right _ (List.mem_singleton.mpr rfl))
      dsimp only at this
      rw [hk] at this; cases this
    · rintro ⟨⟨z1, z2⟩, z3⟩
      refine ⟨z1, fun e he => ?_⟩
      rcases List.mem_append.mp he with he | he
      · exact z2 e he
      · rw [List.mem_singleton.mp he]
        cases hq : knd.is k' x with
        | false => rfl
        | true => exact absurd (knd.inj _ _ _ hq hk) z3
  case fin =>
    rintro _ s' ⟨done, h', e, rfl, sb, o2, es2, ep2, t2, ho2, X2, hd2, hm2⟩
    rw [List.append_nil] at e
    subst e
    refine ⟨h', rfl, sb, o2, es2, ep2, t2, ho2, ⟨X2.ex, X2.data, X2.el, fun k' => ?_, X2.apart, X2.few, X2.ok, X2.led⟩, hd2, hm2⟩
    rw [← X2.mem k']
    refine and_congr_right fun _ => ⟨fun z e he => ?_, fun z y => ?_⟩
    · cases hq : knd.is k' e.2 with
      | false => rfl
      | true => exact absurd ((Xb.mem k').mpr ⟨e, hp.mem_iff.mp he, hq⟩) z
    · obtain ⟨e, he, hq⟩ := (Xb.mem k').mp y
      have := z e (hp.mem_iff.mpr he)
      rw [hq] at this; cases this
  case post =>
    rintro _ s' ⟨h', rfl, sb, o2, es2, ep2, t2, ho2, X2, hd2, hm2⟩
    have hl1 : ord.toList.length ≤ 1 := by rw [hp.length_eq, Array.length_toList]; exact h1
    refine wpAny_pure ?_
    unfold setTidy
    refine wpAny_bind (wpAny_setState_of ho2 X2.data X2.ok.fits ?_)
    dsimp only
    have htm : t2.tooManyDummies = false := by
      unfold SetTable.tooManyDummies
      rw [decide_eq_false]
      omega
    rw [htm]
    simp only [Bool.false_eq_true, if_false]
    exact wpAny_pure (q h' sb ⟨o2, es2, ep2, t2, ho2, X2, Nat.le_of_lt X2.few⟩)
end
end L2
namespace L2
open PySem PySem.Spec PySem.Calls PyProof.Rows PySem.W
section
variable {prog : Program} {w : World} {K : Type} [DecidableEq K] {knd : KeyKind prog w K} {A : Around} {E : Value → Shared → Prop} {s : Shared}
theorem wp_copy {a : Addr} {S : K → Prop} {oa : Obj} {ea : Array (Int × Value)} {epa : Nat} {ta : SetTable} {Q : Value → Shared → Prop} (hoa : s.heap.get? a = some oa) (Xa : KIt knd oa ea epa ta S) (hn : ea.size ≤ 11) (h0 : ea.isEmpty = false)
    (q : ∀ h', (∀ x u, s.heap.get? x = some u → h'.get? x = some u) → DSet knd h' s.heap.objs.size S 0 → Q (.ref s.heap.objs.size) { s with heap := h' }) : wpAny (model prog w) A (Builtin.Frozenset.copyOf a) Q E s := by
  unfold Builtin.Frozenset.copyOf
  refine wpAny_bind (wp_base ⟨oa, hoa, Xa.ex.1⟩ ?_)
  refine wpAny_bind (wp_newset fun h1 e1 => ?_)
  have hg : h1.get? s.heap.objs.size = some { cls := .type "set", dict := none, data := .set #[] 0 (.fresh 0 0 (!w.params.followText "set-order")) } := by rw [e1]; exact Heap.get?_push_size _ rfl
  obtain ⟨o, ep, t, ho, X, h7⟩ := emp_new (w := w) hg
  have hoa1 : h1.get? a = some oa := by rw [e1]; exact Heap.get?_push_of_some _ hoa
  have hne : s.heap.objs.size ≠ a := Nat.ne_of_gt (Heap.lt_size hoa)
  refine wpAny_bind (m := Builtin.Frozenset.addrOf (.ref s.heap.objs.size)) (wpAny_pure ?_)
  refine wpAny_bind (wp_merge (s := { s with heap := h1 }) ho X h7 hoa1 Xa hne hn h0 fun h2 sb hD => ?_)
  refine wpAny_pure (q h2 (fun x u e => ?_) hD)
  have hx : x ≠ s.heap.objs.size := Nat.ne_of_lt (Heap.lt_size e)
  exact (sb.2 x hx).trans (by rw [e1]; exact Heap.get?_push_of_some _ e)
theorem wp_diff {id : String} {a b : Addr} {S T : K → Prop} {oa ob : Obj} {ea eb : Array (Int × Value)} {epa epb : Nat} {ta tb : SetTable} {Q : Value → Shared → Prop} (hoa : s.heap.get? a = some oa) (Xa : KIt knd oa ea epa ta S) (hob : s.heap.get? b = some ob) (Xb : KIt knd ob eb epb tb T) (hn : ea.size ≤ 11)
    (q : ∀ h', (∀ x u, s.heap.get? x = some u → h'.get? x = some u) → KSetI knd h' s.heap.objs.size (fun k => S k ∧ ¬ T k) 4096 → Q (.ref s.heap.objs.size) { s with heap := h' }) : wpAny (model prog w) A (Builtin.Frozenset.difference id a (.ref b)) Q E s := by
  unfold Builtin.Frozenset.difference
  dsimp only
  refine wpAny_bind (wp_anyset ⟨ob, hob, Xb.ex.1⟩ ?_)
  simp only [Bool.not_true, Bool.false_eq_true, if_false, if_true, Bool.false_and]
  refine wpAny_bind (m := Builtin.Frozenset.addrOf (.ref b)) (wpAny_pure ?_)
  refine wpAny_bind (wp_size hob Xb ?_)
  refine wpAny_bind (wp_size hoa Xa ?_)
  by_cases hL : ea.size / 4 > eb.size
  · rw [if_pos hL]
    refine wpAny_bind (wpAny_rule ?_)
    have h0 : ea.isEmpty = false := by
      cases hz : ea.isEmpty with
      | false => rfl
      | true => rw [Array.isEmpty_iff_size_eq_zero] at hz; rw [hz] at hL; omega
    refine wpAny_bind (wp_copy hoa Xa hn h0 fun h1 k1 hD => ?_)
    have hne : s.heap.objs.size ≠ b := Nat.ne_of_gt (Heap.lt_size hob)
    refine wpAny_bind (m := Builtin.Frozenset.addrOf (.ref s.heap.objs.size)) (wpAny_pure ?_)
    refine wpAny_bind (wpAny_holding ?_)
    refine wp_diffup (s := { s with heap := h1 }) hD (k1 _ _ hob) Xb hne (by omega) fun h2 sb hK => ?_
    refine wpAny_pure (q h2 (fun x u e => ?_) hK)
    exact (sb.2 x (Nat.ne_of_lt (Heap.lt_size e))).trans (k1 _ _ e)
  · rw [if_neg hL]
    refine wpAny_bind (wp_base ⟨oa, hoa, Xa.ex.1⟩ ?_)
    refine wpAny_bind (wp_newset fun h1 e1 => ?_)
    have hg : h1.get? s.heap.objs.size = some { cls := .type "set", dict := none, data := .set #[] 0 (.fresh 0 0 (!w.params.followText "set-order")) } := by rw [e1]; exact Heap.get?_push_size _ rfl
    have k1 : ∀ x u, s.heap.get? x = some u → h1.get? x = some u := fun x u e => by rw [e1]; exact Heap.get?_push_of_some _ e
    have hK0 := kset_fresh (knd := knd) hg
    have hna : a ≠ s.heap.objs.size := Nat.ne_of_lt (Heap.lt_size hoa)
    have hnb : b ≠ s.heap.objs.size := Nat.ne_of_lt (Heap.lt_size hob)
    clear hg e1
    generalize hr : s.heap.objs.size = r at hK0 hna hnb q
    refine wpAny_bind (m := Builtin.Frozenset.addrOf (.ref r)) (wpAny_pure ?_)
    refine wpAny_bind (wpAny_setEpoch_of (s := { s with heap := h1 }) (k1 _ _ hoa) Xa.data Xa.ok.fits ?_)
    refine wpAny_bind (wpAny_holding ?_)
    refine wpAny_bind (wp_unseen1 (s := { s with heap := h1 }) (k1 _ _ hoa) Xa (fun c hc => ?_) hK0 fun ord h2 hp sb2 hK2 => ?_)
    · rcases List.mem_cons.mp hc with rfl | hc
      · exact KIt.q (k1 _ _ hob) Xb
      · obtain ⟨o, es, ep, t, ho, X, _⟩ := hK0
        rw [List.mem_singleton.mp hc]; exact KIt.q ho X.it
    refine wpAny_bind (wpAny_mono (MeetsSeq2.wpAny_forIn_array _ (fun rest _ s' => ∃ done h', done ++ rest = ord.toList ∧ s' = { s with heap := h' } ∧ Heap.SameBut r h1 h' ∧ KSet knd h' r (fun k => (∃ e ∈ done, knd.is k e.2 = true) ∧ ¬ T k) done.length)
      (fun _ s' => ∃ h', s' = { s with heap := h' } ∧ Heap.SameBut r h1 h' ∧ KSet knd h' r (fun k => S k ∧ ¬ T k) ord.toList.length) ?turn ?fin _ _ ?ini) ?post (fun _ _ h => h))
    case ini =>
      obtain ⟨o, es, ep, t, ho, X, hz⟩ := hK2
      refine ⟨[], h2, rfl, rfl, sb2, o, es, ep, t, ho, ⟨X.ex, X.data, X.el, fun k => ?_, X.apart, X.few, X.ok, X.led⟩, hz⟩
      rw [← X.mem k]
      exact ⟨fun ⟨⟨e, he, _⟩, _⟩ => absurd he List.not_mem_nil, False.elim⟩
    case turn =>
      rintro ⟨hh, x⟩ rest _ s' ⟨done, h', e, rfl, sb, hD⟩
      have hin : (hh, x) ∈ ea.toList := hp.mem_iff.mp (by rw [← e]; exact List.mem_append_right _ List.mem_cons_self)
      obtain ⟨⟨k, hk, hhk⟩, hsc⟩ := Xa.el _ hin
      dsimp only at hk hhk hsc
      subst hhk
      have hl12 : done.length + 1 ≤ 11 := by
        have := congrArg List.length e
        have h9 := hp.length_eq
        have h8 : ea.toList.length = ea.size := Array.length_toList
        rw [List.length_append, List.length_cons] at this
        omega
      have hob' : h'.get? b = some ob := (sb.2 b hnb).trans (k1 _ _ hob)
      have hoa' : h'.get? a = some oa := (sb.2 a hna).trans (k1 _ _ hoa)
      have step : ∀ h3, Heap.SameBut r h' h3 → KSet knd h3 r (fun k' => (∃ e ∈ done ++ [(knd.hash k, x)], knd.is k' e.2 = true) ∧ ¬ T k') (done ++ [(knd.hash k, x)]).length →
          ∀ R : ForInStep PUnit → Shared → Prop, (∀ s', (∃ done h', done ++ rest = ord.toList ∧ s' = { s with heap := h' } ∧ Heap.SameBut r h1 h' ∧ KSet knd h' r (fun k => (∃ e ∈ done, knd.is k e.2 = true) ∧ ¬ T k) done.length) → R (.yield PUnit.unit) s') →
          wpAny (model prog w) A (Builtin.Frozenset.unchanged id a epa >>= fun _ => pure (ForInStep.yield PUnit.unit)) R E { s with heap := h3 } := fun h3 sb3 hK3 R hR =>
        wpAny_bind (wp_unchanged (s := { s with heap := h3 }) ((sb3.2 a hna).trans hoa') Xa (wpAny_pure (hR _ ⟨done ++ [(knd.hash k, x)], h3, by rw [List.append_assoc]; exact e, rfl, sb.trans sb3, hK3⟩)))
      dsimp only
      refine wpAny_bind (wpAny_holding ?_)
      refine wpAny_bind (kit_find (s := { s with heap := h' }) hob' Xb hk hsc (fun hT => ?_) (fun j hj hpj hT => ?_))
      · refine wpAny_bind (wpAny_pure ?_)
        simp only [Option.isSome_none, Bool.not_false, if_true]
        refine wpAny_bind (kset_add (s := { s with heap := h' }) hk hsc hD (by unfold scanBound; omega) fun bb h3 sb3 hK3 => ?_)
        refine wpAny_pure (step h3 sb3 ?_ _ fun s' z => z)
        obtain ⟨o3, es3, ep3, t3, ho3, X3, hz3⟩ := hK3
        refine ⟨o3, es3, ep3, t3, ho3, ⟨X3.ex, X3.data, X3.el, fun k' => ?_, X3.apart, X3.few, X3.ok, X3.led⟩, by rw [List.length_append, List.length_singleton]; exact hz3⟩
        rw [← X3.mem k']
        constructor
        · rintro ⟨⟨e', he', hq⟩, z⟩
          rcases List.mem_append.mp he' with he' | he'
          · exact .inl ⟨⟨e', he', hq⟩, z⟩
          · rw [List.mem_singleton.mp he'] at hq
            exact .inr (knd.inj _ _ _ hq hk)
        · rintro (⟨⟨e', he', hq⟩, z⟩ | rfl)
          · exact ⟨⟨e', List.mem_append_left _ he', hq⟩, z⟩
          · exact ⟨⟨_, List.mem_append_right _ (List.mem_singleton.mpr rfl), hk⟩, hT⟩
      · refine wpAny_bind (wpAny_pure ?_)
        simp only [Option.isSome_some, Bool.not_true, Bool.false_eq_true, if_false]
        refine wpAny_pure (step h' (Heap.SameBut.refl _ _) ?_ _ fun s' z => z)
        obtain ⟨o3, es3, ep3, t3, ho3, X3, hz3⟩ := hD
        refine ⟨o3, es3, ep3, t3, ho3, ⟨X3.ex, X3.data, X3.el, fun k' => ?_, X3.apart, X3.few, X3.ok, X3.led⟩, by rw [List.length_append, List.length_singleton]; omega⟩
        rw [← X3.mem k']
        constructor
        · rintro ⟨⟨e', he', hq⟩, z⟩
          rcases List.mem_append.mp he' with he' | he'
          · exact ⟨⟨e', he', hq⟩, z⟩
          · rw [List.mem_singleton.mp he'] at hq
            exact absurd ((knd.inj _ _ _ hq hk) ▸ hT) z
        · rintro ⟨⟨e', he', hq⟩, z⟩
          exact ⟨⟨e', List.mem_append_left _ he', hq⟩, z⟩
    case fin =>
      rintro _ s' ⟨done, h', e, rfl, sb, o2, es2, ep2, t2, ho2, X2, hz2⟩
      rw [List.append_nil] at e
      subst e
      refine ⟨h', rfl, sb, o2, es2, ep2, t2, ho2, ⟨X2.ex, X2.data, X2.el, fun k' => ?_, X2.apart, X2.few, X2.ok, X2.led⟩, hz2⟩
      rw [← X2.mem k', Xa.mem k']
      exact and_congr_left fun _ => ⟨fun ⟨e, he, hq⟩ => ⟨e, hp.mem_iff.mpr he, hq⟩, fun ⟨e, he, hq⟩ => ⟨e, hp.mem_iff.mp he, hq⟩⟩
    case post =>
      rintro _ s' ⟨h', rfl, sb, hK⟩
      refine wpAny_pure (wpAny_pure ?_)
      obtain ⟨o2, es2, ep2, t2, ho2, X2, hz2⟩ := hK
      have := q h' (fun x u e => (sb.2 x (by rw [← hr]; exact Nat.ne_of_lt (Heap.lt_size e))).trans (k1 _ _ e)) ⟨o2, es2, ep2, t2, ho2, X2.it, Nat.le_of_lt X2.few⟩
      exact this
end
end L2
namespace L2
open PySem PySem.Spec PySem.Calls PyProof.Rows PySem.W
section
variable {prog : Program} {w : World} {K : Type} [DecidableEq K] {knd : KeyKind prog w K} {A : Around} {E : Value → Shared → Prop} {s : Shared}
theorem pairs_at {es : List DictEntry} {kvs : List (K × Value)} (h : Pairs knd es kvs) : ∀ {i : Nat} {e : DictEntry}, es[i]? = some e → ∃ kv, kvs[i]? = some kv ∧ knd.is kv.1 e.key = true := by
  induction h with
  | nil => intro i e h; simp at h
  | @cons e kv es kvs h1 h2 _ ih =>
    intro i e' hi
    cases i with
    | zero => simp at hi; subst hi; exact ⟨kv, rfl, h1⟩
    | succ i => simpa using ih (i := i) (by simpa using hi)
theorem wp_fromDict {id : String} {S d : Addr} {o : Obj} {ep : Nat} {t : SetTable} {kvs : List (K × Value)} {Q : Unit → Shared → Prop} (ho : s.heap.get? S = some o) (X : Emp w o ep t) (h7 : t.mask = 7) (hd : s.heap.DictOf knd d kvs) (lo : (d == sysModules) = false) (hne : d ≠ S) (hn : kvs.length ≤ 11)
    (hsc : ∀ k v, knd.is k v = true → v.scannable = true)
    (q : ∀ h', Heap.SameBut S s.heap h' → KSet knd h' S (fun k => k ∈ kvs.map (·.1)) kvs.length → Q () { s with heap := h' }) : wpAny (model prog w) A (Builtin.Frozenset.updateFrom id S (.ref d)) Q E s := by
  obtain ⟨od, es, epd, hod, hx, hdat, hkeys, hpairs, hnd⟩ := hd
  have hT : s.TypeIs (.ref d) "dict" := ⟨od, hod, hx.1⟩
  have hlen : es.size = kvs.length := by rw [← Array.length_toList]; exact hpairs.length
  unfold Builtin.Frozenset.updateFrom Builtin.Frozenset.isAnySet
  refine wpAny_bind (wpAny_bind (wpAny_isInstance hT PySem.F.sub_dict_set ?_))
  refine wpAny_isInstance hT PySem.F.sub_dict_frozenset ?_
  simp only [Bool.false_eq_true, if_false]
  refine wpAny_bind (wpAny_typeOf hT ?_)
  simp only [beq_self_eq_true, if_true]
  refine wpAny_bind (wpAny_rule ?_)
  refine wpAny_bind (m := Builtin.Frozenset.addrOf (.ref d)) (wpAny_pure ?_)
  rw [lo]
  simp only [Bool.false_eq_true, if_false]
  refine wpAny_bind (wpAny_dictEpoch hod hdat ?_)
  refine wpAny_bind (wpAny_dictEntries hod hdat ?_)
  refine wpAny_bind (wp_room ho X h7 (by omega) fun h1 o1 ep1 t1 sb1 ho1 X1 hm1 => ?_)
  have hod1 : h1.get? d = some od := (sb1.2 d hne).trans hod
  refine wpAny_bind (wpAny_dictEntries (s := { s with heap := h1 }) hod1 hdat ?_)
  refine wpAny_bind ?_
  rw [Std.Legacy.Range.forIn_eq_forIn_range']
  simp only [Std.Legacy.Range.size, Nat.sub_zero, Nat.add_sub_cancel, Nat.div_one]
  refine wpAny_mono (wpAny_forIn_list _ (fun rest _ s' => ∃ h' i, s' = { s with heap := h' } ∧ rest = List.range' i (es.size - i) ∧ i ≤ es.size ∧ Heap.SameBut S s.heap h' ∧ KSet knd h' S (fun k => k ∈ (kvs.take i).map (·.1)) i)
    (fun _ s' => ∃ h', s' = { s with heap := h' } ∧ Heap.SameBut S s.heap h' ∧ KSet knd h' S (fun k => k ∈ kvs.map (·.1)) kvs.length) ?turn ?fin _ _ ?ini) ?post (fun _ _ h => h)
  case ini =>
    have X2 := X1.kset (knd := knd)
    exact ⟨h1, 0, rfl, by simp, Nat.zero_le _, sb1, o1, #[], ep1, t1, ho1, ⟨X2.ex, X2.data, X2.el, fun k => by rw [← X2.mem k]; simp, X2.apart, X2.few, X2.ok, X2.led⟩, Nat.le_refl _⟩
  case turn =>
    rintro x rest b s' ⟨h', i, rfl, hr, hi, sb, hK⟩
    have hlt : i < es.size := by
      rcases Nat.lt_or_ge i es.size with h | h
      · exact h
      · rw [Nat.sub_eq_zero_of_le h] at hr; simp at hr
    obtain ⟨rfl, hrest⟩ : x = i ∧ rest = List.range' (i + 1) (es.size - (i + 1)) := by
      have e : es.size - i = (es.size - (i + 1)) + 1 := by omega
      rw [e, List.range'_succ] at hr
      injection hr with h1 h2
      exact ⟨h1, h2⟩
    have hod' : h'.get? d = some od := (sb.2 d hne).trans hod
    refine wpAny_bind (wpAny_dictEntries (s := { s with heap := h' }) hod' hdat ?_)
    have hge : es[x]? = some es[x] := Array.getElem?_eq_getElem hlt
    rw [hge]
    dsimp only
    obtain ⟨k, hk, hh⟩ := hkeys es[x] (Array.getElem_mem hlt)
    rw [hh]
    refine wpAny_bind (wpAny_holding (kset_add (s := { s with heap := h' }) hk (hsc _ _ hk) hK (by unfold scanBound; omega) fun bb h2 sb2 hK2 => ?_))
    refine wpAny_bind (wpAny_dictEpoch (s := { s with heap := h2 }) ((sb2.2 d hne).trans hod') hdat ?_)
    simp only [bne_self_eq_false, Bool.false_eq_true, if_false]
    refine wpAny_pure ⟨h2, x + 1, rfl, hrest, hlt, sb.trans sb2, ?_⟩
    obtain ⟨kv, hkv, hkk⟩ := pairs_at hpairs (i := x) (e := es[x]) (by rw [Array.getElem?_toList]; exact hge)
    have hke : kv.1 = k := knd.inj _ _ _ hkk hk
    obtain ⟨o3, es3, ep3, t3, ho3, X3, hz3⟩ := hK2
    refine ⟨o3, es3, ep3, t3, ho3, ⟨X3.ex, X3.data, X3.el, fun k' => ?_, X3.apart, X3.few, X3.ok, X3.led⟩, hz3⟩
    rw [← X3.mem k', List.take_add_one, hkv, List.map_append, List.mem_append]
    refine or_congr_right ?_
    show k' ∈ [kv.1] ↔ _
    rw [hke, List.mem_singleton]
  case fin =>
    rintro _ s' ⟨h', i, rfl, hr, hi, sb, hK⟩
    have hie : i = es.size := by
      rcases Nat.lt_or_ge i es.size with h | h
      · have e : es.size - i = (es.size - (i + 1)) + 1 := by omega
        rw [e, List.range'_succ] at hr; cases hr
      · omega
    rw [hie, hlen, List.take_length] at hK
    exact ⟨h', rfl, sb, hK⟩
  case post =>
    rintro _ s' ⟨h', rfl, sb, hK⟩
    exact wpAny_pure (q h' sb hK)
end
end L2
namespace L2
open PySem PySem.Spec PySem.Calls PyProof.Rows PySem.W
section
variable {prog : Program} {w : World} {K : Type} [DecidableEq K] {knd : KeyKind prog w K} {A : Around} {E : Value → Shared → Prop} {s : Shared}
theorem kset_dict {d : Addr} {kvs : List (K × Value)} {Q : Value → Shared → Prop} (hd : s.heap.DictOf knd d kvs) (lo : (d == sysModules) = false) (hn : kvs.length ≤ 11) (hsc : ∀ k v, knd.is k v = true → v.scannable = true)
    (h : ∀ h' : Heap, KSet knd h' s.heap.objs.size (fun k => k ∈ kvs.map (·.1)) kvs.length → (∀ b o, s.heap.get? b = some o → h'.get? b = some o) → Q (.ref s.heap.objs.size) { s with heap := h' }) :
    wpAny (model prog w) A (call (.type "set") [.ref d]) Q E s := by
  obtain ⟨c, tl, hmro⟩ := PySem.F.called_set.mro
  have hmade := PySem.F.called_set.made
  have hsub := PySem.F.called_set.sub
  refine wpAny_call (codeAny_of_tree ?_)
  show wpAny _ _ (callAny (.type "set") _) _ _ _
  refine wpAny_pure ⟨Code.quiet_builtin _ (by decide +kernel), codeAny_builtin PySem.F.entry_type_call ?_⟩
  rw [Around.under_plain (weight_type_call_type "set" [.ref d] []) rfl]
  have h1 := PySem.F.called_set.notType
  have h2 := PySem.F.called_set.canCreate
  have hct := PySem.F.typeCall_set_1 (.ref d)
  repeat (any_goals (first | assumption | wp_step))
  refine codeAny_mono (kset_new (.ref d) (E := E) (Q₁ := fun obj s₁ => obj = .ref s.heap.objs.size ∧ s₁ = { s with heap := s.heap.push { cls := .type "set", dict := none, data := .set #[] 0 (.fresh 0 0 (!w.params.followText "set-order")) } }) ⟨rfl, rfl⟩) fun r s₁ hr => ?_
  cases r with
  | error e => exact hr
  | ok fl =>
    cases fl with
    | ret obj =>
      obtain ⟨rfl, rfl⟩ := hr
      generalize hled : (!w.params.followText "set-order") = led
      have hS : (s.heap.push { cls := .type "set", dict := none, data := .set #[] 0 (.fresh 0 0 led) }).get? s.heap.objs.size = some { cls := .type "set", dict := none, data := .set #[] 0 (.fresh 0 0 led) } := Heap.get?_push_size _ rfl
      have kp : ∀ b o, s.heap.get? b = some o → (s.heap.push { cls := .type "set", dict := none, data := .set #[] 0 (.fresh 0 0 led) }).get? b = some o := fun b o e => Heap.get?_push_of_some _ e
      have hT : Shared.TypeIs { s with heap := s.heap.push { cls := .type "set", dict := none, data := .set #[] 0 (.fresh 0 0 led) } } (.ref s.heap.objs.size) "set" := ⟨_, hS, rfl⟩
      have hli := PySem.F.called_set.init.lookup
      have hbi := PySem.F.called_set.init.bind (.ref s.heap.objs.size)
      repeat (any_goals (first | assumption | wp_step))
      refine codeAny_mono (codeAny_call_builtin (R := wants (fun r s₂ => r = .none ∧ ∃ h', s₂ = { s with heap := h' } ∧ KSet knd h' s.heap.objs.size (fun k => k ∈ kvs.map (·.1)) kvs.length ∧ (∀ b o, s.heap.get? b = some o → h'.get? b = some o)) E) PySem.F.called_set.init.plain PySem.F.entry_set_init (check_set_init_1 hT ?_)) fun r₂ s₂ hr₂ => ?_
      · obtain ⟨od, es, epd, hod, hx, hdat, hkeys, hpairs, hnd⟩ := hd
        have hlt : d < s.heap.objs.size := Heap.lt_size hod
        have hd1 : (s.heap.push { cls := .type "set", dict := none, data := .set #[] 0 (.fresh 0 0 led) }).DictOf knd d kvs := ⟨od, es, epd, kp _ _ hod, hx, hdat, hkeys, hpairs, hnd⟩
        unfold Builtin.«set.__init__» noKeywords
        generalize hU : Builtin.Frozenset.updateFrom = UF
        wp_walk
        subst hU
        have hS' := hS
        rw [← hled] at hS'
        obtain ⟨o, ep, t, ho, X, h7⟩ := emp_new (w := w) hS'
        rw [hled] at ho
        refine wp_fromDict (s := { s with heap := s.heap.push { cls := .type "set", dict := none, data := .set #[] 0 (.fresh 0 0 led) } }) ho X h7 hd1 lo (Nat.ne_of_lt hlt) hn hsc fun h' sb hK => ?_
        show wpAny _ _ (ret Value.none) _ _ _
        exact wpAny_pure ⟨rfl, h', rfl, hK, fun b u e => (sb.2 b (Nat.ne_of_lt (Heap.lt_size e))).trans (kp _ _ e)⟩
      · cases r₂ with
        | error e => exact hr₂
        | ok fl₂ =>
          cases fl₂ with
          | ret r =>
            obtain ⟨rfl, h', rfl, hS', hk'⟩ := hr₂
            repeat (any_goals (first | assumption | wp_step))
            exact h _ hS' hk'
          | _ => exact hr₂.elim
    | _ => exact hr.elim
end
end L2
namespace L2
open PySem PySem.Spec PySem.Calls PyProof.Rows PySem.W
section
variable {X : Cx}
theorem set_sub_entry : entryFor table "set.__sub__" = some Builtin.«frozenset.__sub__» := entryFor_alias (id' := "frozenset.__sub__") (by kernel_rfl) rfl (by decide +kernel) (by kernel_rfl)
theorem kit_le {P : Program} {w : World} {o : Obj} {es : Array (Int × Value)} {ep : Nat} {t : SetTable} {ks : List Key} (Z : KIt (mixKind P w) o es ep t fun k => k ∈ ks) : es.size ≤ ks.length := by
  obtain ⟨ms, h1, h2, h3⟩ := keys_of Z.el Z.apart
  have hl := h1.length
  rw [List.length_map, List.length_map] at hl
  rw [← Array.length_toList, ← hl]
  exact h2.length_le_of_subset fun k hk => (Z.mem k).mpr ((h3 k).mp hk)
def rSetD (P : Program) (w : World) : List V → Hp → VK → Prop := fun xs H Q => ∃ a kvs, xs = [.ref a] ∧ H a = some (.dK kvs) ∧ kvs.length ≤ 11 ∧ ∀ p, H p = none → Q (.ref p) (upd H p (SetO P w p (kvs.map (·.1))))
theorem call_setD : CallR X (.type "set") (rSetD X.prog X.w) := by
  intro pins s σ H xs us Q I r h
  obtain ⟨a, kvs, rfl, ha, hlen, q⟩ := h
  obtain ⟨u, rfl, ru⟩ := vals1 r
  cases ru
  obtain ⟨hz, hd, vs, rel, dd⟩ := dk_of I.hok ha
  have hl := rel.length
  have hks : ∀ {kvs : List (Key × V)} {vs : List (Key × Value)}, KV kvs vs → vs.map (·.1) = kvs.map (·.1) := fun {kvs vs} h => by
    induction h with
    | nil => rfl
    | cons h t ih => rw [List.map_cons, List.map_cons, ih, h.1]
  refine kset_dict (knd := mixKind X.prog X.w) dd hd (by omega) (fun k v hk => (key_val hk).2) fun h' hK hk => ?_
  rw [hks rel] at hK
  refine ⟨.ref s.heap.objs.size, _, I.laid (t' := s.toks) (o := SetO X.prog X.w s.heap.objs.size (kvs.map (·.1))) (fun b u e => hk b u e) (Nat.le_refl _) ?_, rfl, q _ (I.hok.fresh (Nat.le_refl _))⟩
  obtain ⟨o, es, ep, t, ho, _⟩ := id hK
  exact ⟨⟨_, hK.it⟩, ⟨o, ho⟩, fun h1 h2 ⟨n, k1⟩ k => ⟨n, k1.at' k⟩⟩
theorem k_setD (P : Program) (w : World) (hp : X.prog = P := by rfl) (hw : X.w = w := by rfl) : CallR X (.type "set") (rSetD P w) := by subst hp; subst hw; exact call_setD
def rSubS (P : Program) (w : World) : R2 := fun x y H Q => ∃ (a b : Addr) (ns ms : List Int), x = .ref a ∧ y = .ref b ∧ H a = some (SetO P w a (ns.map Sum.inl)) ∧ H b = some (SetO P w b (ms.map Sum.inl)) ∧ ns.length ≤ 11 ∧ ∀ p, H p = none → Q (.ref p) (upd H p (SetO P w p ((ns.filter fun n => !decide (n ∈ ms)).map Sum.inl)))
theorem op_subS : OpR X (binaryOp .Sub) (rSubS X.prog X.w) := by
  intro pins s σ H x y v u Q I rx ry h
  obtain ⟨a, b, ns, ms, rfl, rfl, ha, hb, hlen, q⟩ := h
  cases rx
  cases ry
  obtain ⟨⟨na, oa, ea, epa, ta, hoa, Xa, _⟩, _, _⟩ := (show ObjOk X.prog X.w H s.heap a (SetO X.prog X.w a (ns.map Sum.inl)) from I.hok a _ ha)
  obtain ⟨⟨nb, ob, eb, epb, tb, hob, Xb, _⟩, _, _⟩ := (show ObjOk X.prog X.w H s.heap b (SetO X.prog X.w b (ms.map Sum.inl)) from I.hok b _ hb)
  have hTa : s.TypeIs (.ref a) "set" := ⟨oa, hoa, Xa.ex.1⟩
  have hTb : s.TypeIs (.ref b) "set" := ⟨ob, hob, Xb.ex.1⟩
  refine wpAny_binaryOp_same hTa hTb PySem.F.fills_set_sub PySem.F.slot_set_sub (wpAny_call_entry PySem.F.slot_set_sub hTa set_sub_entry ?_ (PySem.F.args_set_sub_2 _ _))
  unfold Builtin.«frozenset.__sub__»
  show wpAny _ _ (Builtin.Frozenset.slot1 "__sub__" ⟨[.ref a, .ref b], []⟩ >>= _) _ _ s
  refine wpAny_bind (m := Builtin.Frozenset.slot1 "__sub__" ⟨[.ref a, .ref b], []⟩) (wpAny_pure ?_)
  dsimp only
  refine wpAny_bind (wpAny_bind (wp_anyset hTa ?_))
  show wpAny _ _ (Builtin.Frozenset.isAnySet (.ref b)) _ _ s
  refine wp_anyset hTb ?_
  simp only [Bool.not_true, Bool.false_eq_true, if_false]
  refine wpAny_bind (m := Builtin.Frozenset.addrOf (.ref a)) (wpAny_pure ?_)
  refine wpAny_bind (wp_diff hoa Xa hob Xb (Nat.le_trans (kit_le Xa) (by rw [List.length_map]; exact hlen)) fun h' k1 hK => ?_)
  have hK2 : KSetI (mixKind X.prog X.w) h' s.heap.objs.size (fun k => k ∈ (ns.filter fun n => !decide (n ∈ ms)).map Sum.inl) 4096 := by
    obtain ⟨o, es, ep, t, ho, Z, hn⟩ := hK
    refine ⟨o, es, ep, t, ho, ⟨Z.ex, Z.data, Z.el, fun k => ?_, Z.apart, Z.few, Z.ok, Z.led⟩, hn⟩
    rw [← Z.mem k]
    rcases k with i | y
    · simp
    · simp
  refine wpAny_pure ⟨_, rfl, (fun z => nomatch z), .ref s.heap.objs.size, _, I.laid (t' := s.toks) (o := SetO X.prog X.w s.heap.objs.size ((ns.filter fun n => !decide (n ∈ ms)).map Sum.inl)) (fun b u e => k1 b u e) (Nat.le_refl _) ?_, rfl, q _ (I.hok.fresh (Nat.le_refl _))⟩
  obtain ⟨o, es, ep, t, ho, _⟩ := id hK2
  exact ⟨⟨_, hK2⟩, ⟨o, ho⟩, fun h1 h2 ⟨n, k1⟩ k => ⟨n, k1.at' k⟩⟩
theorem k_subS (P : Program) (w : World) (hp : X.prog = P := by rfl) (hw : X.w = w := by rfl) : OpR X (binaryOp .Sub) (rSubS P w) := by subst hp; subst hw; exact op_subS
end
end L2
namespace L2
open PySem PySem.Spec PySem.Calls PyProof.Rows PySem.W
def rowD (r : List Msg) : PyData := .list (r.map mD)
def RsA (H : Hp) (l : Addr) (rows : List (List Msg)) : Prop := ∃ ys, H l = some (.lst ys) ∧ HasL H ys (rows.map rowD)
structure Whole (rows : List (List Msg)) (w : List Msg) : Prop where
  ri : Rise w
  mem : ∀ m, m ∈ w ↔ m ∈ rows.flatten
def Agree (ms : List Msg) : Prop := ∀ m ∈ ms, ∀ k ∈ ms, m.n = k.n → m = k
def lackF (w r : List Msg) : List Int := (w.filter fun m => !hasN r m.n).map (·.n)
def comF (rows : List (List Msg)) (w : List Msg) : List Msg := w.filter fun m => rows.all fun r => hasN r m.n
def intsD (ns : List Int) : PyData := .list (ns.map .int)
theorem Whole.agree {rows : List (List Msg)} {w : List Msg} (h : Whole rows w) : Agree rows.flatten := fun m hm k hk e => h.ri.diff.eq ((h.mem m).mpr hm) ((h.mem k).mpr hk) e
theorem RsA.same {H H' : Hp} {l : Addr} {rows : List (List Msg)} (h : RsA H l rows) (e : Same H H') : RsA H' l rows := let ⟨ys, h1, h2⟩ := h; ⟨ys, e _ _ h1, h2.same e⟩
theorem row_at {H : Hp} {ys : List V} {rows : List (List Msg)} (h : HasL H ys (rows.map rowD)) {i : Nat} (hi : i < rows.length) : ∃ c xs, ys[i]? = some (.ref c) ∧ H c = some (.lst xs) ∧ Ms H xs rows[i] := by
  obtain ⟨x, h1, h2⟩ := h.get (i := i) (d := rowD rows[i]) (by rw [List.getElem?_map, List.getElem?_eq_getElem hi]; rfl)
  unfold rowD Has at h2
  obtain ⟨a, xs, rfl, ha, hl⟩ := h2
  exact ⟨a, xs, h1, ha, hl⟩
theorem hasN_row {rows : List (List Msg)} (ag : Agree rows.flatten) {r : List Msg} (hr : r ∈ rows) {m : Msg} (hm : m ∈ rows.flatten) : hasN r m.n = true ↔ m ∈ r := by
  rw [hasN_iff]
  refine ⟨fun ⟨k, hk, e⟩ => ?_, fun h => ⟨m, h, rfl⟩⟩
  rw [← ag k (List.mem_flatten.mpr ⟨r, hr, hk⟩) m hm e]; exact hk
theorem lackF_mem {w r : List Msg} {n : Int} : n ∈ lackF w r ↔ (∃ m ∈ w, m.n = n) ∧ hasN r n = false := by
  unfold lackF
  rw [List.mem_map]
  constructor
  · rintro ⟨m, hm, rfl⟩
    obtain ⟨h1, h2⟩ := List.mem_filter.mp hm
    exact ⟨⟨m, h1, rfl⟩, by simpa using h2⟩
  · rintro ⟨⟨m, h1, rfl⟩, h2⟩
    exact ⟨m, List.mem_filter.mpr ⟨h1, by rw [h2]; rfl⟩, rfl⟩
theorem lackF_rise {w r : List Msg} (h : Rise w) : (lackF w r).Pairwise (· < ·) := List.pairwise_map.mpr (h.sublist List.filter_sublist)
def spByX (CO : Addr) : Sp := fun vs H Q E => ∃ (l : Addr) (rows : List (List Msg)), vs = [.ref l] ∧ RsA H l rows ∧ rows.length ≤ 20 ∧ (∀ r ∈ rows, r.length ≤ 20) ∧ (∀ m ∈ rows.flatten, mOk m) ∧
  ((Agree rows.flatten ∧ ∀ p kvs ms H', Same H H' → H p = none → H' p = some (.dK kvs) → DI H' kvs ms → Diff ms → (∀ m, m ∈ ms ↔ m ∈ rows.flatten) → Q (.ref p) H') ∨ (¬ Agree rows.flatten ∧ ∀ H', Same H H' → E (.ref CO) none H'))
def spPutX (CO : Addr) : Sp := fun vs H Q E => ∃ (l : Addr) (rows : List (List Msg)), vs = [.ref l] ∧ RsA H l rows ∧ rows.length ≤ 20 ∧ (∀ r ∈ rows, r.length ≤ 20) ∧ (∀ m ∈ rows.flatten, mOk m) ∧
  ((∃ w, Whole rows w ∧ w.length < 64 ∧ ∀ p ys H', Same H H' → H p = none → H' p = some (.lst ys) → Ms H' ys w → Q (.ref p) H') ∨ (¬ Agree rows.flatten ∧ ∀ H', Same H H' → E (.ref CO) none H'))
def spLackX (CO : Addr) : Sp := fun vs H Q E => ∃ (l : Addr) (rows : List (List Msg)), vs = [.ref l] ∧ RsA H l rows ∧ rows.length ≤ 20 ∧ (∀ r ∈ rows, r.length ≤ 20) ∧ (∀ m ∈ rows.flatten, mOk m) ∧
  ((∃ w, Whole rows w ∧ w.length ≤ 11 ∧ ∀ p ys H', Same H H' → H p = none → H' p = some (.lst ys) → HasL H' ys (rows.map fun r => intsD (lackF w r)) → (∀ y ∈ ys, ∀ c, y = .ref c → H c = none) → Q (.ref p) H') ∨ (¬ Agree rows.flatten ∧ ∀ H', Same H H' → E (.ref CO) none H'))
def spComX (CO : Addr) : Sp := fun vs H Q E => ∃ (l : Addr) (rows : List (List Msg)), vs = [.ref l] ∧ RsA H l rows ∧ rows.length ≤ 20 ∧ (∀ r ∈ rows, r.length ≤ 20) ∧ (∀ m ∈ rows.flatten, mOk m) ∧
  ((∃ w, Whole rows w ∧ w.length ≤ 11 ∧ ∀ p ys H', Same H H' → H p = none → H' p = some (.lst ys) → Ms H' ys (comF rows w) → Q (.ref p) H') ∨ (¬ Agree rows.flatten ∧ ∀ H', Same H H' → E (.ref CO) none H'))
end L2
namespace L2
open PySem PySem.Spec PyProof.Rows PySem.W
def rst (fp : List Addr) (H : Hp) : Hp := fun c => if c ∈ fp then none else H c
section
variable {fp fp' : List Addr} {H H' : Hp} {c : Addr} {o : HO}
theorem rst_out (h : c ∉ fp) : rst fp H c = H c := by unfold rst; rw [if_neg h]
theorem rst_in (h : rst fp H c = some o) : c ∉ fp ∧ H c = some o := by
  unfold rst at h
  split at h
  · cases h
  · next z => exact ⟨z, h⟩
theorem rst_same : Same (rst fp H) H := fun c o h => (rst_in h).2
theorem rst_stp (st : Stp fp H fp' H') : Same (rst fp H) (rst fp' H') := fun c o h => by
  obtain ⟨h1, h2⟩ := rst_in h
  rw [rst_out (st.out h2 h1)]
  exact st.keep h2 h1
theorem rst_more (e : Same H H') (h : ∀ c ∈ fp', c ∈ fp ∨ H c = none) : Same (rst fp H) (rst fp' H') := fun c o hc => by
  obtain ⟨h1, h2⟩ := rst_in hc
  rw [rst_out (fun z => by
    rcases h c z with y | y
    · exact h1 y
    · rw [h2] at y; cases y)]
  exact e _ _ h2
end
end L2
namespace L2
open PySem PySem.Spec PyProof.Rows PySem.W
def lp (mask : Nat) : Nat → Nat × Nat → Nat × Nat
  | 0, q => q
  | n + 1, q => lp mask n (SetTable.leap mask q.1 q.2)
theorem lp_succ (mask n : Nat) (q : Nat × Nat) : lp mask (n + 1) q = SetTable.leap mask (lp mask n q).1 (lp mask n q).2 := by
  induction n generalizing q with
  | zero => rfl
  | succ n ih => exact ih (SetTable.leap mask q.1 q.2)
theorem lp_add (mask m n : Nat) (q : Nat × Nat) : lp mask (m + n) q = lp mask n (lp mask m q) := by
  induction m generalizing q with
  | zero => rw [Nat.zero_add]; rfl
  | succ m ih => rw [Nat.succ_add]; exact ih (SetTable.leap mask q.1 q.2)
theorem lp_snd (mask n : Nat) (q : Nat × Nat) : (lp mask n q).2 = q.2 / 32 ^ n := by
  induction n with
  | zero => simp [lp]
  | succ n ih =>
    rw [lp_succ]
    show (lp mask n q).2 / 32 = _
    rw [ih, Nat.div_div_eq_div_mul, Nat.pow_succ]
theorem lp_fst (mask n : Nat) (q : Nat × Nat) : (lp mask (n + 1) q).1 ≤ mask := by
  rw [lp_succ]
  exact Nat.le_of_lt_succ (Nat.mod_lt _ (Nat.succ_pos _))
def covers (mask : Nat) : Bool := (List.range (mask + 1)).all fun i => (List.range (mask + 1)).all fun e => (List.range (mask + 1)).any fun n => (lp mask n (i, 0)).1 == e
theorem covers7 : covers 7 = true := by decide +kernel
theorem covers31 : covers 31 = true := by decide +kernel
def Msk (mask : Nat) : Prop := mask = 7 ∨ mask = 31
theorem Msk.cov {mask : Nat} (h : Msk mask) : covers mask = true := by
  rcases h with rfl | rfl
  · exact covers7
  · exact covers31
theorem cover_at {mask i e : Nat} (h : Msk mask) (hi : i ≤ mask) (he : e ≤ mask) : ∃ n, n ≤ mask ∧ (lp mask n (i, 0)).1 = e := by
  have c := h.cov
  unfold covers at c
  rw [List.all_eq_true] at c
  have c1 := c i (List.mem_range.mpr (by omega))
  rw [List.all_eq_true] at c1
  have c2 := c1 e (List.mem_range.mpr (by omega))
  rw [List.any_eq_true] at c2
  obtain ⟨n, hn, h3⟩ := c2
  exact ⟨n, Nat.le_of_lt_succ (List.mem_range.mp hn), by simpa using h3⟩
theorem leap_at {mask e : Nat} (h : Msk mask) (he : e ≤ mask) {q : Nat × Nat} (hq : q.2 < 2 ^ 64) : ∃ n, n ≤ mask + 12 ∧ (lp mask (n + 1) q).1 = e := by
  have z : (lp mask 13 q).2 = 0 := by rw [lp_snd]; exact Nat.div_eq_of_lt (by omega)
  obtain ⟨n, h1, h2⟩ := cover_at h (lp_fst mask 12 q) he
  refine ⟨12 + n, by omega, ?_⟩
  have e1 : lp mask 13 q = ((lp mask 13 q).1, 0) := by rw [← z]
  rw [show 12 + n + 1 = 13 + n by omega, lp_add, e1]
  exact h2
def advN (t : SetTable) : Nat → SetTable.Probe → SetTable.Probe
  | 0, p => p
  | n + 1, p => advN t n (t.advance p)
theorem advN_add (t : SetTable) (m n : Nat) (p : SetTable.Probe) : advN t (m + n) p = advN t n (advN t m p) := by
  induction m generalizing p with
  | zero => rw [Nat.zero_add]; rfl
  | succ m ih => rw [Nat.succ_add]; exact ih (t.advance p)
theorem runEnd_le (mask i : Nat) : SetTable.runEnd mask i - i ≤ 9 := by
  unfold SetTable.runEnd
  split <;> omega
structure PrOk (p : SetTable.Probe) : Prop where
  more : p.more ≤ 9
  pert : p.perturb < 2 ^ 64
  dum : p.dummy = none
theorem PrOk.adv {t : SetTable} {p : SetTable.Probe} (h : PrOk p) : PrOk (t.advance p) := by
  unfold SetTable.advance
  split
  · exact ⟨by have := h.more; show p.more - 1 ≤ 9; omega, h.pert, h.dum⟩
  · exact ⟨runEnd_le _ _, Nat.lt_of_le_of_lt (Nat.div_le_self _ _) h.pert, h.dum⟩
theorem bits_lt64 (h : Int) : SetTable.bits h < 2 ^ 64 := by unfold SetTable.bits; omega
theorem PrOk.start (t : SetTable) (h : Int) : PrOk (t.probeStart h) := ⟨runEnd_le _ _, bits_lt64 h, rfl⟩
theorem to_leap {t : SetTable} : ∀ (m : Nat) (p : SetTable.Probe), p.more = m → (advN t (m + 1) p).j = (SetTable.leap t.mask p.i p.perturb).1 ∧ (advN t (m + 1) p).i = (SetTable.leap t.mask p.i p.perturb).1 ∧ (advN t (m + 1) p).perturb = (SetTable.leap t.mask p.i p.perturb).2 ∧ (advN t (m + 1) p).more ≤ 9
  | 0, p, h => by
    show (t.advance p).j = _ ∧ (t.advance p).i = _ ∧ (t.advance p).perturb = _ ∧ (t.advance p).more ≤ 9
    unfold SetTable.advance
    rw [if_neg (by omega)]
    exact ⟨rfl, rfl, rfl, runEnd_le _ _⟩
  | m + 1, p, h => by
    have e : t.advance p = { p with j := p.j + 1, more := p.more - 1 } := by
      unfold SetTable.advance
      rw [if_pos (by omega)]
    have := to_leap (t := t) m (t.advance p) (by rw [e]; show p.more - 1 = m; omega)
    rw [e] at this
    rw [show m + 1 + 1 = (m + 1) + 1 from rfl]
    show (advN t (m + 1) (t.advance p)).j = _ ∧ (advN t (m + 1) (t.advance p)).i = _ ∧ (advN t (m + 1) (t.advance p)).perturb = _ ∧ (advN t (m + 1) (t.advance p)).more ≤ 9
    rw [e]
    exact this
theorem to_leaps {t : SetTable} : ∀ (n : Nat) (p : SetTable.Probe), p.more ≤ 9 → ∃ k, k ≤ 10 * (n + 1) ∧ (advN t k p).j = (lp t.mask (n + 1) (p.i, p.perturb)).1 ∧ (advN t k p).i = (lp t.mask (n + 1) (p.i, p.perturb)).1 ∧ (advN t k p).perturb = (lp t.mask (n + 1) (p.i, p.perturb)).2 ∧ (advN t k p).more ≤ 9
  | 0, p, h => ⟨p.more + 1, by omega, to_leap p.more p rfl⟩
  | n + 1, p, h => by
    obtain ⟨k, h1, h2, h3, h4, h5⟩ := to_leaps (t := t) n p h
    obtain ⟨g2, g3, g4, g5⟩ := to_leap (t := t) _ (advN t k p) rfl
    refine ⟨k + ((advN t k p).more + 1), by omega, ?_⟩
    rw [advN_add, lp_succ, g2, g3, g4, h3, h4]
    exact ⟨rfl, rfl, rfl, g5⟩
theorem empty_slot {t : SetTable} (hd : t.dummies = #[]) (hs : t.place.size ≤ t.mask) : ∃ e, e ≤ t.mask ∧ t.slot e = .empty := by
  refine Classical.byContradiction fun hn => ?_
  have all : ∀ j, j ≤ t.mask → j ∈ t.place.toList := fun j hj => by
    have h1 : t.slot j ≠ .empty := fun z => hn ⟨j, hj, z⟩
    unfold SetTable.slot at h1
    dsimp only at h1
    by_cases h2 : t.place[SetTable.below t.place j]? = some j
    · obtain ⟨hlt, h3⟩ := Array.getElem?_eq_some_iff.mp h2
      rw [← h3]
      exact Array.mem_toList_iff.mpr (Array.getElem_mem hlt)
    · rw [if_neg (by simpa using h2), hd, has_empty] at h1
      simp at h1
  have := List.Nodup.length_le_of_subset (l₁ := List.range (t.mask + 1)) (l₂ := t.place.toList) List.nodup_range fun j hj => all j (Nat.le_of_lt_succ (List.mem_range.mp hj))
  rw [List.length_range, Array.length_toList] at this
  omega
theorem reach {t : SetTable} (hm : Msk t.mask) (hd : t.dummies = #[]) (hs : t.place.size ≤ t.mask) {p : SetTable.Probe} (hp : PrOk p) : ∃ k, k < 10 * SetTable.turns t.mask ∧ t.slot (advN t k p).j = .empty := by
  obtain ⟨e, he, hE⟩ := empty_slot hd hs
  obtain ⟨n, h1, h2⟩ := leap_at hm he (q := (p.i, p.perturb)) hp.pert
  obtain ⟨k, g1, g2, _⟩ := to_leaps (t := t) n p hp.more
  refine ⟨k, ?_, by rw [g2, h2]; exact hE⟩
  unfold SetTable.turns
  omega
theorem no_dummy {t : SetTable} (hd : t.dummies = #[]) (j : Nat) : t.slot j ≠ .dummy := fun hs => by
  unfold SetTable.slot at hs
  dsimp only at hs
  rw [hd, has_empty] at hs
  split at hs
  · cases hs
  · simp at hs
theorem probe_go {t : SetTable} (hd : t.dummies = #[]) {f : Nat → Int} {h : Int} : ∀ (k fuel : Nat) (p : SetTable.Probe), PrOk p → k < fuel → t.slot (advN t k p).j = .empty →
    (∃ j, SetTable.probe.go t f h fuel p = some (.empty j none) ∧ t.slot j = .empty) ∨
    (∃ m i, m < k ∧ SetTable.probe.go t f h fuel p = some (.candidate (advN t m p).j i (advN t (m + 1) p)) ∧ t.slot (advN t m p).j = .live i ∧ f i = h ∧ PrOk (advN t (m + 1) p))
  | k, 0, p, hp, hk, he => absurd hk (Nat.not_lt_zero _)
  | k, fuel + 1, p, hp, hk, he => by
    unfold SetTable.probe.go
    cases hs : t.slot p.j with
    | empty => exact .inl ⟨p.j, by rw [hp.dum], hs⟩
    | dummy => exact absurd hs (no_dummy hd _)
    | live i =>
      dsimp only
      cases k with
      | zero => have : t.slot p.j = .empty := he; rw [hs] at this; cases this
      | succ k =>
        by_cases hf : f i = h
        · rw [if_pos (by simpa using hf)]
          exact .inr ⟨0, i, Nat.succ_pos _, rfl, hs, hf, hp.adv⟩
        · rw [if_neg (by simpa using hf)]
          rcases probe_go hd k fuel (t.advance p) hp.adv (by omega) he with ⟨j, h1, h2⟩ | ⟨m, i', h1, h2, h3, h4, h5⟩
          · exact .inl ⟨j, h1, h2⟩
          · exact .inr ⟨m + 1, i', by omega, h2, h3, h4, h5⟩
end L2
namespace L2
open PySem PySem.Spec PyProof.Rows PySem.W
section
variable {prog : Program} {w : World} {K : Type} [DecidableEq K] {knd : KeyKind prog w K} {A : Around} {E : Value → Shared → Prop} {s : Shared}
theorem ofAClass_byValue (n : Nat) {v : Value} (h : carriedByValue v = true) : ofAClassStatement n v = pure false := by
  cases v with
  | ref a => cases h
  | _ => first | rfl | simp [ofAClassStatement] | (unfold ofAClassStatement; rfl)
theorem ofAClass_tuple {ks : List K} {a : Addr} {Q : Bool → Shared → Prop} (hk : IsTupleKey knd s.heap ks a) (h : Q false s) : wpAny (model prog w) A (ofAClassStatement 8 (.ref a)) Q E s := by
  have hT := hk.typeIs
  obtain ⟨o, items, n, ho, _, hd, hi⟩ := hk
  unfold ofAClassStatement
  refine wpAny_bind (wpAny_typeOf hT ?_)
  show wpAny _ _ (pure true >>= _) _ _ s
  refine wpAny_bind (wpAny_pure ?_)
  simp only [Bool.not_true, Bool.false_eq_true, if_false]
  refine wpAny_bind (wpAny_seqItems ho hd ?_)
  dsimp only
  refine wpAny_bind ?_
  rw [← Array.forIn_toList]
  refine wpAny_forIn_list _ (fun rest r s' => r.1 = none ∧ s' = s ∧ ∀ v ∈ rest, carriedByValue v = true) _ ?_ ?_ _ _ ⟨rfl, rfl, hi.byValue⟩
  · rintro v rest r s' ⟨hr, rfl, hall⟩
    rw [ofAClass_byValue _ (hall v List.mem_cons_self)]
    refine wpAny_bind (wpAny_pure ?_)
    simp only [Bool.false_eq_true, if_false]
    exact wpAny_pure ⟨rfl, rfl, fun u hu' => hall u (List.mem_cons_of_mem _ hu')⟩
  · rintro ⟨r1, r2⟩ s' ⟨hr, rfl, _⟩
    simp only at hr
    subst hr
    exact wpAny_pure h
theorem hashBy_byValue (n : Nat) {v : Value} (h : carriedByValue v = true) : ∃ b, hashByValue n v = pure b := by
  cases v with
  | ref a => cases h
  | _ => first | exact ⟨_, rfl⟩ | exact ⟨_, by unfold hashByValue; rfl⟩
theorem hashBy_tuple {ks : List K} {a : Addr} {Q : Bool → Shared → Prop} (hk : IsTupleKey knd s.heap ks a) (h : ∀ b, Q b s) : wpAny (model prog w) A (hashByValue 8 (.ref a)) Q E s := by
  have hT := hk.typeIs
  obtain ⟨o, items, n, ho, _, hd, hi⟩ := hk
  unfold hashByValue
  refine wpAny_bind (wpAny_specialOf hT PySem.F.slot_tuple_hash.lookup ?_)
  dsimp only
  refine wpAny_bind (wpAny_seqItems ho hd ?_)
  refine wpAny_bind ?_
  show wpAny _ _ (forIn items _ _) _ _ s
  rw [← Array.forIn_toList]
  refine wpAny_forIn_list _ (fun rest r s' => s' = s ∧ ∀ v ∈ rest, carriedByValue v = true) _ ?_ ?_ _ _ ⟨rfl, hi.byValue⟩
  · rintro v rest r s' ⟨rfl, hall⟩
    obtain ⟨b, hb⟩ := hashBy_byValue 7 (hall v List.mem_cons_self)
    rw [hb]
    refine wpAny_bind (wpAny_pure ?_)
    cases b
    · exact wpAny_pure (wpAny_pure (h _))
    · exact wpAny_pure ⟨rfl, fun u hu' => hall u (List.mem_cons_of_mem _ hu')⟩
  · rintro ⟨r1, r2⟩ s' ⟨rfl, _⟩
    cases r1 with
    | none => exact wpAny_pure (h _)
    | some b => exact wpAny_pure (h _)
theorem seen_tuple {a : Addr} {k : List K} (hx : IsTupleKey knd s.heap k a) (stored : List Value) (hst : ∀ y ∈ stored, ∃ c k', y = .ref c ∧ IsTupleKey knd s.heap k' c) {Q : Bool → Shared → Prop} (h : Q false s) : wpAny (model prog w) A (searchCouldBeSeen (.ref a) stored) Q E s := by
  unfold searchCouldBeSeen
  refine wpAny_bind ?_
  refine wpAny_forIn_list _ (fun rest r s' => r.1 = none ∧ s' = s ∧ ∀ y ∈ rest, ∃ c k', y = .ref c ∧ IsTupleKey knd s.heap k' c) _ ?_ ?_ _ _ ⟨rfl, rfl, hst⟩
  · rintro y rest r s' ⟨hr, rfl, hall⟩
    obtain ⟨c, k', rfl, hc⟩ := hall y List.mem_cons_self
    have hrest : ∀ y ∈ rest, ∃ c k', y = .ref c ∧ IsTupleKey knd s'.heap k' c := fun u hu => hall u (List.mem_cons_of_mem _ hu)
    dsimp only
    split
    · exact wpAny_pure ⟨rfl, rfl, hrest⟩
    · refine wpAny_bind (wpAny_eqIsQuiet_tuple hx ?_)
      simp only [Bool.not_true, Bool.false_eq_true, if_false]
      refine wpAny_bind (wpAny_eqIsQuiet_tuple hc ?_)
      simp only [Bool.not_true, Bool.false_eq_true, if_false]
      refine wpAny_bind (ofAClass_tuple hx ?_)
      simp only [Bool.false_eq_true, if_false]
      refine wpAny_bind (ofAClass_tuple hc ?_)
      simp only [Bool.false_eq_true, if_false]
      exact wpAny_pure ⟨rfl, rfl, hrest⟩
  · rintro ⟨r1, r2⟩ s' ⟨hr, rfl, _⟩
    simp only at hr
    subst hr
    exact wpAny_pure h
def tEl (knd : KeyKind prog w K) (p : List K × Addr) : Int × Value := (tupleKeyHash knd p.1, .ref p.2)
theorem slot_live {t : SetTable} {j i : Nat} (h : t.slot j = .live i) : i < t.place.size := by
  unfold SetTable.slot at h
  dsimp only at h
  split at h
  · rename_i h2
    have h3 : t.place[SetTable.below t.place j]? = some j := by simpa using h2
    obtain ⟨hlt, _⟩ := Array.getElem?_eq_some_iff.mp h3
    injection h with h4
    rw [← h4]; exact hlt
  · split at h <;> cases h
theorem led_if {α : Type} {b : Bool} {sn : Sem Bool} {un cont : Sem α} {Q : α → Shared → Prop} (hs : wpAny (model prog w) A sn (fun r s' => r = false ∧ s' = s) E s) (hc : wpAny (model prog w) A cont Q E s) : wpAny (model prog w) A (if b = true then (sn >>= fun r => if r = true then un else cont) else cont) Q E s := by
  cases b
  · exact hc
  · refine wpAny_bind (wpAny_mono hs ?_ fun _ _ z => z)
    rintro r s' ⟨rfl, rfl⟩
    exact hc
theorem search_new {a c : Addr} {o : Obj} {es : Array (Int × Value)} {ep : Nat} {t : SetTable} {xs : List (List K × Addr)} {k : List K} (hu : A.units < cLine) (ho : s.heap.get? a = some o) (hdat : o.data = .set es ep t) (hf : t.fits es.size = true) (hd : t.dummies = #[]) (hg : t.gaveWay = false)
    (hes : es.toList = xs.map (tEl knd)) (hk : ∀ p ∈ xs, IsTupleKey knd s.heap p.1 p.2) (hno : ∀ p ∈ xs, p.1 ≠ k) (hx : IsTupleKey knd s.heap k c) {Q : SetFound → Shared → Prop} (q : ∀ j, t.slot j = .empty → Q (.free j false) s) :
    ∀ (n fuel : Nat) (stand : Option SetTable.Probe), PrOk (stand.getD (t.probeStart (tupleKeyHash knd k))) → n < 10 * SetTable.turns t.mask → t.slot (advN t n (stand.getD (t.probeStart (tupleKeyHash knd k)))).j = .empty → n < fuel →
    wpAny (model prog w) A (setSearchFrom a (.ref c) (tupleKeyHash knd k) true fuel stand) Q E s := by
  intro n
  induction n using Nat.strongRecOn with
  | ind n ih =>
    intro fuel stand hp hn he hfu
    obtain ⟨fuel, rfl⟩ : ∃ m, fuel = m + 1 := ⟨fuel - 1, by omega⟩
    unfold setSearchFrom
    refine wpAny_bind (wpAny_setState_of ho hdat hf ?_)
    dsimp only
    rw [hg]
    simp only [Bool.false_eq_true, if_false]
    generalize hpp : stand.getD (t.probeStart (tupleKeyHash knd k)) = p at hp he ⊢
    unfold SetTable.probe
    rcases probe_go (f := fun i => (es[i]?.map (·.1)).getD 0) (h := tupleKeyHash knd k) hd n _ p hp hn he with ⟨j, h1, h2⟩ | ⟨m, i, h1, h2, h3, h4, h5⟩
    · erw [h1]
      exact wpAny_pure (q j h2)
    · erw [h2]
      dsimp only
      have hpl : t.place.size = es.size := by
        unfold SetTable.fits at hf
        have := (Bool.and_eq_true_iff.mp hf).1
        simpa using this
      have hi : i < es.size := by rw [← hpl]; exact slot_live h3
      have hix : i < xs.length := by
        have := congrArg List.length hes
        rw [Array.length_toList, List.length_map] at this
        omega
      have hgi : es[i]? = some (tEl knd xs[i]) := by
        rw [← Array.getElem?_toList, hes, List.getElem?_map, List.getElem?_eq_getElem hix]; rfl
      have hmi : xs[i] ∈ xs := List.getElem_mem hix
      have hki := hk _ hmi
      have hni := hno _ hmi
      generalize xs[i] = pr at hgi hki hni
      obtain ⟨k', c'⟩ := pr
      rw [hgi]
      refine led_if (seen_tuple hx _ (fun y hy => ?_) ⟨rfl, rfl⟩) ?_
      · obtain ⟨e, he', rfl⟩ := List.mem_map.mp hy
        have he2 : e ∈ es.toList := by
          rw [Array.toList_filter] at he'
          exact (List.mem_filter.mp he').1
        rw [hes] at he2
        obtain ⟨p', hp', rfl⟩ := List.mem_map.mp he2
        exact ⟨p'.2, p'.1, rfl, hk _ hp'⟩
      · unfold tEl
        dsimp only
        refine wpAny_bind (wpAny_holding (wpAny_eqBool_tuple hu hki hx ?_))
        rw [decide_eq_false hni]
        refine wpAny_bind (wpAny_setState_of ho hdat hf ?_)
        simp only [Bool.and_false, Bool.false_eq_true, if_false]
        have hsm : t.sameMemory t.moves t.mask = some true := by unfold SetTable.sameMemory; simp
        rw [hsm]
        simp only [if_true]
        rw [h3]
        dsimp only
        rw [hgi]
        unfold tEl
        dsimp only
        refine wpAny_bind (wpAny_isSame_ref_self ?_)
        refine wpAny_bind (wpAny_pure ?_)
        simp only [if_true]
        refine ih (n - (m + 1)) (by omega) fuel (some (advN t (m + 1) p)) h5 (by omega) ?_ (by omega)
        show t.slot (advN t (n - (m + 1)) (advN t (m + 1) p)).j = .empty
        rw [← advN_add, show m + 1 + (n - (m + 1)) = n by omega]
        exact he
end
end L2
namespace L2
open PySem PySem.Spec PyProof.Rows PySem.W
theorem perm_of_map {α β : Type} {f : α → β} {a b : List β} (h : a.Perm b) : ∀ {m : List α}, b = m.map f → ∃ l : List α, a = l.map f ∧ l.Perm m := by
  induction h with
  | nil =>
    intro m e
    cases m with
    | nil => exact ⟨[], rfl, .nil⟩
    | cons => cases e
  | cons x _ ih =>
    intro m e
    cases m with
    | nil => cases e
    | cons y m =>
      rw [List.map_cons] at e
      injection e with e1 e2
      obtain ⟨l, h1, h2⟩ := ih e2
      exact ⟨y :: l, by rw [List.map_cons, e1, h1], h2.cons y⟩
  | swap x y l =>
    intro m e
    cases m with
    | nil => cases e
    | cons u m =>
      cases m with
      | nil => cases e
      | cons v m =>
        rw [List.map_cons, List.map_cons] at e
        injection e with e1 e2
        injection e2 with e3 e4
        exact ⟨v :: u :: m, by rw [List.map_cons, List.map_cons, e1, e3, e4], .swap ..⟩
  | trans _ _ ih1 ih2 =>
    intro m e
    obtain ⟨l, h1, h2⟩ := ih2 e
    obtain ⟨l2, h3, h4⟩ := ih1 h1
    exact ⟨l2, h3, h4.trans h2⟩
section
variable {prog : Program} {w : World} {K : Type} [DecidableEq K] (knd : KeyKind prog w K)
structure TObj (o : Obj) (es : Array (Int × Value)) (ep : Nat) (t : SetTable) (xs : List (List K × Addr)) : Prop where
  ex : o.ExactSet
  data : o.data = .set es ep t
  els : ∃ ys : List (List K × Addr), ys.Perm xs ∧ es.toList = ys.map (tEl knd)
  ok : OkT t es.size
  msk : Msk t.mask
  few : es.size ≤ 8
  sm : t.mask = 7 → es.size ≤ 4
  led : t.led = !w.params.followText "set-order"
def TupS (h : Heap) (a : Addr) (xs : List (List K × Addr)) : Prop := (∃ o es ep t, h.get? a = some o ∧ TObj knd o es ep t xs) ∧ ∀ p ∈ xs, IsTupleKey knd h p.1 p.2
variable {knd} {A : Around} {E : Value → Shared → Prop} {s : Shared}
theorem TObj.len {o : Obj} {es : Array (Int × Value)} {ep : Nat} {t : SetTable} {xs : List (List K × Addr)} (X : TObj knd o es ep t xs) : es.size = xs.length := by
  obtain ⟨ys, h1, h2⟩ := X.els
  rw [← Array.length_toList, h2, List.length_map, h1.length_eq]
theorem tset_fresh {h : Heap} {a : Addr} (hg : h.get? a = some { cls := .type "set", dict := none, data := .set #[] 0 (.fresh 0 0 (!w.params.followText "set-order")) }) : TupS knd h a [] :=
  ⟨⟨_, #[], 0, _, hg, ⟨⟨rfl, rfl, rfl⟩, rfl, ⟨[], .nil, rfl⟩, okT_fresh _, .inl rfl, by decide, fun _ => by decide, rfl⟩⟩, fun p hp => nomatch hp⟩
theorem put_slot {t : SetTable} (hd : t.dummies = #[]) (j : Nat) : t.put j = ({ t with place := SetTable.insertAt t.place (SetTable.below t.place j) j }, SetTable.below t.place j) := by
  unfold SetTable.put
  dsimp only
  rw [hd, has_empty, if_neg (by decide)]
theorem slot_empty {t : SetTable} {j : Nat} (h : t.slot j = .empty) : t.place[SetTable.below t.place j]? ≠ some j := fun z => by
  unfold SetTable.slot at h
  dsimp only at h
  rw [z] at h
  simp at h
theorem sab20 : SetTable.sizeAbove (SetTable.grown 5) = 32 := by decide +kernel
theorem tset_add {a c : Addr} {xs : List (List K × Addr)} {k : List K} {Q : Bool → Shared → Prop} (hu : A.units < cLine) (hS : TupS knd s.heap a xs) (hx : IsTupleKey knd s.heap k c) (hno : ∀ p ∈ xs, p.1 ≠ k) (hl8 : xs.length < 8)
    (h : ∀ h', Heap.SameBut a s.heap h' → (∃ o es ep t, h'.get? a = some o ∧ TObj knd o es ep t (xs ++ [(k, c)])) → Q true { s with heap := h' }) :
    wpAny (model prog w) A (setAddHashed a (.ref c) (tupleKeyHash knd k)) Q E s := by
  obtain ⟨⟨o, es, ep, t, ho, X⟩, hk⟩ := hS
  obtain ⟨ys, hp, hes⟩ := X.els
  have hlen := X.len
  have hpl : t.place.size = es.size := by
    have hf := X.ok.fits
    unfold SetTable.fits at hf
    have := (Bool.and_eq_true_iff.mp hf).1
    simpa using this
  have hmk : es.size ≤ t.mask := by
    have hf := X.ok.fits
    unfold SetTable.fits SetTable.fill at hf
    have := (Bool.and_eq_true_iff.mp hf).2
    have := of_decide_eq_true this
    omega
  have hgw : t.gaveWay = false := by
    unfold SetTable.gaveWay
    rcases X.msk with z | z <;> rw [z] <;> rfl
  unfold setAddHashed setAddHashedIn
  refine wpAny_holding (wpAny_bind (wpAny_setState_of ho X.data X.ok.fits ?_))
  dsimp only
  have hbs : byScan (.ref c) es = false := rfl
  rw [hbs]
  simp only [Bool.false_eq_true, if_false]
  obtain ⟨n, hn, he⟩ := reach X.msk X.ok.nd (by omega) (PrOk.start t (tupleKeyHash knd k))
  have ht : SetTable.turns t.mask ≤ 46 := by
    unfold SetTable.turns
    rcases X.msk with z | z <;> rw [z] <;> decide
  unfold setSearch
  refine wpAny_bind (search_new (es := es) (xs := ys) hu ho X.data X.ok.fits X.ok.nd hgw hes (fun p hp' => hk p (hp.mem_iff.mp hp')) (fun p hp' => hno p (hp.mem_iff.mp hp')) hx (fun j hj => ?_) n 100000 none (PrOk.start t _) hn he (by omega))
  dsimp only
  refine wpAny_bind (wpAny_setState_of ho X.data X.ok.fits ?_)
  dsimp only
  rw [put_slot X.ok.nd]
  dsimp only
  have hperm := SetTable.insertAt_perm es (SetTable.below t.place j) (tupleKeyHash knd k, Value.ref c)
  have hris := ins_ris X.ok.ris (slot_empty hj)
  have hpp := SetTable.insertAt_perm t.place (SetTable.below t.place j) j
  have hps : (SetTable.insertAt t.place (SetTable.below t.place j) j).size = es.size + 1 := by
    rw [← Array.length_toList, hpp.length_eq, Array.length_toList, Array.size_push, hpl]
  generalize SetTable.insertAt t.place (SetTable.below t.place j) j = pl1 at hris hps
  generalize SetTable.insertAt es (SetTable.below t.place j) (tupleKeyHash knd k, Value.ref c) = es1 at hperm
  have hs1 : es1.size = es.size + 1 := by rw [← Array.length_toList, hperm.length_eq, Array.length_toList, Array.size_push]
  obtain ⟨ys1, ey1, py1⟩ := perm_of_map (f := tEl knd) (m := ys ++ [(k, c)]) hperm (by rw [Array.toList_push, hes, List.map_append]; rfl)
  have hpx : ys1.Perm (xs ++ [(k, c)]) := py1.trans (hp.append_right _)
  have hf8 := X.few
  have hsz8 : es1.size ≤ 8 := by omega
  have hl1 : es1.size ≤ sizeLine := by rw [sizeLine_eq]; omega
  have tail : ∀ t1 : SetTable, t1.mask = t.mask → t1.place = pl1 → t1.dummies = #[] → t1.led = t.led → wpAny (model prog w) A (storeSet a es1 t1 >>= fun _ => if (!false && t1.tooFull) = true then (setRelay a (SetTable.grown (es.size + 1)) >>= fun _ => pure true) else pure true) Q E s := by
    intro t1 m1 m2 m3 m4
    have hok : OkT t1 es1.size := ⟨by
      unfold SetTable.fits SetTable.fill
      rw [m1, m2, m3, hps, hs1]
      rcases X.msk with z | z
      · have := X.sm z
        rw [z]; simp; omega
      · rw [z]; simp; omega, by rw [m2]; exact hris, m3⟩
    refine wpAny_bind (wpAny_storeSet_of ho X.data ?_ hl1)
    have hsb := Heap.SameBut.update s.heap a (Obj.putSet es1 t1)
    have ho1 : (s.heap.update a (Obj.putSet es1 t1)).get? a = some { o with data := .set es1 (ep + 1) t1 } := by
      have := Heap.get?_update_self (Obj.putSet es1 t1) ho (by rw [putSet_of es1 t1 X.data]; rfl)
      rw [putSet_of es1 t1 X.data] at this; exact this
    generalize s.heap.update a (Obj.putSet es1 t1) = h1 at hsb ho1 ⊢
    have hfill : t1.fill = es1.size := by unfold SetTable.fill; rw [m2, m3, hps, hs1]; rfl
    by_cases hfull : t1.tooFull = true
    · rw [hfull]
      simp only [Bool.not_false, Bool.and_self, if_true]
      have hff : es1.size * 5 ≥ t1.mask * 3 := by
        unfold SetTable.tooFull at hfull
        rw [hfill] at hfull
        exact of_decide_eq_true hfull
      have h5 : es.size + 1 = 5 := by
        rw [m1] at hff
        rcases X.msk with z | z
        · have := X.sm z
          rw [z] at hff; omega
        · rw [z] at hff; omega
      rw [h5]
      refine wpAny_bind ?_
      unfold setRelay
      refine wpAny_bind (wpAny_setState_of ho1 rfl hok.fits ?_)
      dsimp only
      rw [sab20]
      have hle : ¬ 32 > sizeLine := by rw [sizeLine_eq]; omega
      rw [if_neg hle]
      obtain ⟨t2, order, el, e1, e2, e3, e4, e5, e6⟩ := laid_ok (mask := 31) (by unfold Mk3; simp) t1.finger (t1.movedTo 31) t1.led t1.plain (hashes := es1.map (·.1)) (by rw [Array.size_map]; omega)
      rw [Array.size_map] at e5 e6
      have erl : t1.relaid (es1.map (·.1)) (SetTable.grown 5) = some (t2, order) := by
        unfold SetTable.relaid
        rw [sab20]; exact el
      obtain ⟨hs2, hp2⟩ := wp_reorder (t := t2) e6
      rw [erl]
      refine wpAny_bind ?_
      show wpAny _ _ (if ((order.filterMap (es1[·]?)).size != es1.size) = true then _ else pure (order.filterMap (es1[·]?), t2)) _ _ _
      rw [hs2]
      simp only [bne_self_eq_false, Bool.false_eq_true, if_false]
      refine wpAny_pure ?_
      dsimp only
      refine wpAny_storeSet_of ho1 rfl ?_ (by rw [hs2]; exact hl1)
      generalize hE2 : order.filterMap (es1[·]?) = es2 at hs2 hp2
      have ho2 : (h1.update a (Obj.putSet es2 t2)).get? a = some { o with data := .set es2 (ep + 1 + 1) t2 } := by
        have := Heap.get?_update_self (Obj.putSet es2 t2) ho1 (by rw [putSet_of es2 t2 rfl]; rfl)
        rw [putSet_of es2 t2 rfl] at this; exact this
      obtain ⟨ys2, ey2, py2⟩ := perm_of_map (f := tEl knd) hp2 ey1
      refine wpAny_pure (h _ (hsb.trans (Heap.SameBut.update _ a _)) ⟨_, es2, _, t2, ho2, ⟨X.ex, rfl, ⟨ys2, py2.trans hpx, ey2⟩, ⟨?_, e4, e3⟩, .inr e1, by omega, (fun z => by rw [e1] at z; cases z), by rw [e2, m4]; exact X.led⟩⟩)
      unfold SetTable.fits SetTable.fill
      rw [e5, e3, e1, hs2]
      simp; omega
    · rw [Bool.eq_false_iff.mpr hfull]
      simp only [Bool.and_false, Bool.false_eq_true, if_false]
      refine wpAny_pure (h _ hsb ⟨_, es1, _, t1, ho1, ⟨X.ex, rfl, ⟨ys1, hpx, ey1⟩, hok, by rw [m1]; exact X.msk, hsz8, fun z => ?_, by rw [m4]; exact X.led⟩⟩)
      have hff : ¬ es1.size * 5 ≥ t1.mask * 3 := fun y => hfull (by
        unfold SetTable.tooFull
        rw [hfill]; exact decide_eq_true y)
      rw [z] at hff
      omega
  split
  · refine wpAny_bind (hashBy_tuple hx fun b => ?_)
    cases b
    · exact tail _ rfl rfl X.ok.nd rfl
    · exact tail _ rfl rfl X.ok.nd rfl
  · refine wpAny_bind (wpAny_pure ?_)
    exact tail _ rfl rfl X.ok.nd rfl
end
end L2
namespace L2
open PySem PySem.Spec PyProof.Rows PySem.W
section
variable {prog : Program} {w : World} {K : Type} [DecidableEq K] {knd : KeyKind prog w K} {A : Around} {R : Result → Shared → Prop} {I : Addr} {fp wr : List Addr} {G : Array GenState → Array GenState → Prop} {n : Nat} {P : Nat → Value → Prop} {St : Nat → Shared → Prop}
def TupI (knd : KeyKind prog w K) (val : Nat → List K) (adr : Nat → Addr) (S : Addr) (i : Nat) (h : Heap) : Prop := ∃ o es ep t, h.get? S = some o ∧ TObj knd o es ep t ((List.range i).map fun j => (val j, adr j))
theorem TupI.at' {val : Nat → List K} {adr : Nat → Addr} {S : Addr} {i : Nat} {h h' : Heap} (x : TupI knd val adr S i h) (e : ∀ o, h.get? S = some o → h'.get? S = some o) : TupI knd val adr S i h' := let ⟨o, es, ep, t, ho, r⟩ := x; ⟨o, es, ep, t, e _ ho, r⟩
theorem key_at {h h' : Heap} {ks : List K} {a : Addr} (x : IsTupleKey knd h ks a) (e : ∀ o, h.get? a = some o → h'.get? a = some o) : IsTupleKey knd h' ks a := let ⟨o, its, n, ho, r⟩ := x; ⟨o, its, n, e _ ho, r⟩
theorem tset_loop (W : WalksS prog w A.in1 I fp wr G n P St) (S : Addr) (hSf : S ∉ fp) (hu : A.in1.units < cLine)
    (val : Nat → List K) (adr : Nat → Addr) (hadr : ∀ j, j < n → adr j ∉ S :: wr) (hval : ∀ i v, P i v → v = .ref (adr i)) (hb : n ≤ 8) (hne : ∀ i j, i < n → j < n → val i = val j → i = j) :
    ∀ (k i : Nat) (s : Shared), n - i = k → i ≤ n → St i s → (∀ j, j < n → IsTupleKey knd s.heap (val j) (adr j)) →
      TupI knd val adr S i s.heap →
      (∀ s', Moved (S :: wr) G s s' → TupI knd val adr S n s'.heap → R (.ok (.ret .none)) s') →
      codeAny (model prog w) A (.builtin "set.update.loop" ⟨[.ref S, .ref I], []⟩) R s := by
  have hSw : S ∉ wr := fun h => hSf (W.sub _ h)
  have hsub : ∀ b ∈ wr, b ∈ S :: wr := fun b hb => List.mem_cons_of_mem _ hb
  intro k
  induction k with
  | zero =>
    intro i s hk hi hst hT hS hR
    have hin : i = n := by omega
    subst hin
    refine codeAny_builtin PyProof.Rows.F.entry_set_update_loop ?_
    rw [Around.under_plainId PyProof.Rows.F.plain_set_update_loop _]
    show wpAny _ A.in1 (pyNext (.ref I) >>= _) _ _ s
    refine wpAny_bind (W.done s _ _ hst fun s' hm => ?_)
    show wpAny _ A.in1 (ret Value.none) _ _ s'
    exact wpAny_pure (hR s' (hm.mono hsub) (hS.at' fun o e => hm.heap S _ hSw e))
  | succ k ih =>
    intro i s hk hi hst hT hS hR
    have hlt : i < n := by omega
    refine codeAny_builtin PyProof.Rows.F.entry_set_update_loop ?_
    rw [Around.under_plainId PyProof.Rows.F.plain_set_update_loop _]
    show wpAny _ A.in1 (pyNext (.ref I) >>= _) _ _ s
    refine wpAny_bind (W.item i s _ _ hlt hst fun v s' hP hst' hm => ?_)
    obtain rfl := hval i v hP
    have hS' := hS.at' (h' := s'.heap) fun o e => hm.heap S _ hSw e
    have hT' : ∀ j, j < n → IsTupleKey knd s'.heap (val j) (adr j) := fun j hj => key_at (hT j hj) fun o e => hm.heap _ _ (fun z => hadr j hj (hsub _ z)) e
    show wpAny _ A.in1 (holding [.ref (adr i)] (setAdd S (.ref (adr i))) >>= _) _ _ s'
    refine wpAny_bind (wpAny_holding ?_)
    unfold setAdd
    refine wpAny_holding ?_
    refine wpAny_bind (wpAny_pyHash_tuple hu (hT' i hlt) ?_)
    refine tset_add (knd := knd) (s := { s' with toks := s'.toks + ((val i).length + 1) }) (xs := (List.range i).map fun j => (val j, adr j)) hu ⟨hS', fun p hp => ?_⟩ (hT' i hlt) (fun p hp => ?_) (by simp; omega) fun h' hsb hS2 => ?_
    · obtain ⟨j, hj, rfl⟩ := List.mem_map.mp hp
      exact hT' j (by have := List.mem_range.mp hj; omega)
    · obtain ⟨j, hj, rfl⟩ := List.mem_map.mp hp
      have := List.mem_range.mp hj
      exact fun z => by have := hne j i (by omega) hlt z; omega
    have hSi : TupI knd val adr S (i + 1) h' := by
      unfold TupI
      rw [List.range_succ, List.map_append]
      exact hS2
    refine wpAny_pure ⟨plainId_quiet PyProof.Rows.F.plain_set_update_loop _, ih (i + 1) _ (by omega) hlt (W.frame _ s' _ _ hst' (Nat.le_add_right _ _) fun b hb o e => ?_) (fun j hj => key_at (hT' j hj) fun o e => ?_) hSi fun s'' hm'' hS'' => ?_⟩
    · rw [hsb.2 b (fun h : b = S => hSf (by rw [← h]; exact hb))]; exact e
    · show h'.get? (adr j) = some o
      rw [hsb.2 (adr j) (fun h : adr j = S => hadr j hj (by rw [h]; exact List.mem_cons_self))]; exact e
    · refine hR s'' (Moved.trans W.gtrans ((hm.mono hsub).then_heap (Nat.le_add_right _ _) fun b o hb e => ?_) hm'') hS''
      rw [hsb.2 b (fun h : b = S => hb (by rw [h]; exact List.mem_cons_self))]; exact e
end
section
variable {prog : Program} {w : World} {K : Type} [DecidableEq K] {knd : KeyKind prog w K} {A : Around} {E : Value → Shared → Prop} {s : Shared}
theorem tset_list {l : Addr} {items : Array Value} {val : Nat → List K} {adr : Nat → Addr} {Q : Value → Shared → Prop}
    (hh : A.handled = none) (hl : s.heap.IsList l items) (hu : A.in1.in1.in1.units < cLine) (hval : ∀ (i : Nat) v, items[i]? = some v → v = .ref (adr i)) (hb : items.size ≤ 8) (hTk : ∀ j, j < items.size → IsTupleKey knd s.heap (val j) (adr j)) (hnk : ∀ i j, i < items.size → j < items.size → val i = val j → i = j)
    (h : ∀ (h' : Heap) (tk : Nat), TupI knd val adr s.heap.objs.size items.size h' →
      (∀ b o, b < s.heap.objs.size → s.heap.get? b = some o → h'.get? b = some o) → Q (.ref s.heap.objs.size) { s with heap := h', toks := tk }) :
    wpAny (model prog w) A (call (.type "set") [.ref l]) Q E s := by
  obtain ⟨c, tl, hmro⟩ := PySem.F.called_set.mro
  have hmade := PySem.F.called_set.made
  have hsub := PySem.F.called_set.sub
  refine wpAny_call (codeAny_of_tree ?_)
  show wpAny _ _ (callAny (.type "set") _) _ _ _
  refine wpAny_pure ⟨Code.quiet_builtin _ (by decide +kernel), codeAny_builtin PySem.F.entry_type_call ?_⟩
  rw [Around.under_plain (weight_type_call_type "set" [.ref l] []) rfl]
  have h1 := PySem.F.called_set.notType
  have h2 := PySem.F.called_set.canCreate
  have hct := PySem.F.typeCall_set_1 (.ref l)
  repeat (any_goals (first | assumption | wp_step))
  refine codeAny_mono (kset_new (.ref l) (E := E) (Q₁ := fun obj s₁ => obj = .ref s.heap.objs.size ∧ s₁ = { s with heap := s.heap.push { cls := .type "set", dict := none, data := .set #[] 0 (.fresh 0 0 (!w.params.followText "set-order")) } }) ⟨rfl, rfl⟩) fun r s₁ hr => ?_
  cases r with
  | error e => exact hr
  | ok fl =>
    cases fl with
    | ret obj =>
      obtain ⟨rfl, rfl⟩ := hr
      generalize hled : (!w.params.followText "set-order") = led
      have hS : (s.heap.push { cls := .type "set", dict := none, data := .set #[] 0 (.fresh 0 0 led) }).get? s.heap.objs.size = some { cls := .type "set", dict := none, data := .set #[] 0 (.fresh 0 0 led) } := Heap.get?_push_size _ rfl
      have hT : Shared.TypeIs { s with heap := s.heap.push { cls := .type "set", dict := none, data := .set #[] 0 (.fresh 0 0 led) } } (.ref s.heap.objs.size) "set" := ⟨_, hS, rfl⟩
      have hli := PySem.F.called_set.init.lookup
      have hbi := PySem.F.called_set.init.bind (.ref s.heap.objs.size)
      repeat (any_goals (first | assumption | wp_step))
      refine codeAny_mono (codeAny_call_builtin (R := wants (fun r s₂ => r = .none ∧ ∃ h' tk, s₂ = { s with heap := h', toks := tk } ∧
          TupI knd val adr s.heap.objs.size items.size h' ∧
          (∀ b o, b < s.heap.objs.size → s.heap.get? b = some o → h'.get? b = some o)) E) PySem.F.called_set.init.plain PySem.F.entry_set_init (check_set_init_1 hT ?_)) fun r₂ s₂ hr₂ => ?_
      · obtain ⟨ol, hol, hcl, nl, hdl⟩ := hl
        obtain ⟨ocls, odict, odata, oslots⟩ := ol
        simp only at hcl hdl
        subst hcl; subst hdl
        have hol' : (s.heap.push { cls := .type "set", dict := none, data := .set #[] 0 (.fresh 0 0 led) }).get? l = some { cls := .type "list", dict := odict, data := .seq items nl, slots := oslots } := Heap.get?_push_of_some _ hol
        have hsls := PySem.F.sub_list_set
        have hslf := PySem.F.sub_list_frozenset
        have hne : (Value.type "list" == Value.type "dict") = false := by decide
        have hl1 : (s.heap.push { cls := .type "set", dict := none, data := .set #[] 0 (.fresh 0 0 led) }).IsList l items := ⟨_, hol', rfl, nl, rfl⟩
        unfold Builtin.«set.__init__» noKeywords Builtin.Frozenset.updateFrom
        generalize hPI : pyIter = PI
        wp_walk
        subst hPI
        refine wpAny_pyIter_list hl1 ?_
        refine wpAny_bind (wpAny_runValue ?_)
        have hlS : l < s.heap.objs.size := Heap.lt_size hol
        have hh3 : A.in1.in1.in1.handled = none := by simp [hh]
        have hneI : l ≠ (s.heap.push { cls := .type "set", dict := none, data := .set #[] 0 (.fresh 0 0 led) }).objs.size := by
          rw [Heap.size_push]; exact Nat.ne_of_lt (Nat.lt_succ_of_lt hlS)
        have hSf : s.heap.objs.size ∉ [(s.heap.push { cls := .type "set", dict := none, data := .set #[] 0 (.fresh 0 0 led) }).objs.size, l] := by
          rw [Heap.size_push]; simp only [List.mem_cons, List.mem_singleton, List.not_mem_nil, or_false, not_or]
          exact ⟨Nat.ne_of_lt (Nat.lt_succ_self _), Nat.ne_of_gt hlS⟩
        have hlt0 : ∀ j, j < items.size → adr j < s.heap.objs.size := fun j hj => by
          obtain ⟨o, _, _, ho, _⟩ := hTk j hj
          exact Heap.lt_size ho
        refine tset_loop (knd := knd) ((Walks.list hh3 _ l hneI items).toS) s.heap.objs.size
          hSf hu val adr (fun j hj => by
            have := hlt0 j hj
            simp only [List.mem_cons, List.mem_singleton, List.not_mem_nil, or_false, not_or, Heap.size_push]
            exact ⟨Nat.ne_of_lt this, Nat.ne_of_lt (Nat.lt_succ_of_lt this)⟩) hval hb hnk (items.size - 0) 0 _ (by omega) (Nat.zero_le _)
          ⟨⟨_, Heap.get?_push_size _ rfl, rfl, rfl⟩, (hl1.push _)⟩ (fun j hj => key_at (hTk j hj) fun o e => Heap.get?_push_of_some _ (Heap.get?_push_of_some _ e)) ?hS0 ?hR
        case hS0 =>
          have hget : ((s.heap.push { cls := .type "set", dict := none, data := .set #[] 0 (.fresh 0 0 led) }).push { cls := .type "list_iterator", data := .fields #[.ref l, .int 0 0] }).get? s.heap.objs.size
              = some { cls := .type "set", dict := none, data := .set #[] 0 (.fresh 0 0 led) } := Heap.get?_push_of_some _ hS
          rw [← hled] at hget
          obtain ⟨⟨o, es, ep, t, ho, X⟩, _⟩ := tset_fresh (knd := knd) hget
          rw [hled] at ho
          exact ⟨o, es, ep, t, ho, X⟩
        case hR =>
          intro s' hm hS'
          obtain ⟨h', g', d', tk', os'⟩ := s'
          have eg : g' = s.gens := hm.gens
          have ed : d' = s.drawn := hm.drawn
          have eo : os' = s.os := hm.os
          subst eg; subst ed; subst eo
          show wpAny _ _ _ _ _ _
          refine wpAny_pure ?_
          show wpAny _ _ (ret Value.none) _ _ _
          refine wpAny_pure ⟨rfl, h', tk', rfl, hS', fun b o hb e => ?_⟩
          have hb1 : b ≠ s.heap.objs.size := Nat.ne_of_lt hb
          have hb2 : b ≠ (s.heap.push { cls := .type "set", dict := none, data := .set #[] 0 (.fresh 0 0 led) }).objs.size := by
            rw [Heap.size_push]; exact Nat.ne_of_lt (Nat.lt_succ_of_lt hb)
          exact hm.heap b o (by simp only [List.mem_cons, List.mem_singleton, List.not_mem_nil, or_false, not_or]; exact ⟨hb1, hb2⟩) (Heap.get?_push_of_some _ (Heap.get?_push_of_some _ e))
      · cases r₂ with
        | error e => exact hr₂
        | ok fl₂ =>
          cases fl₂ with
          | ret r =>
            obtain ⟨rfl, h', tk, rfl, hS', hk'⟩ := hr₂
            repeat (any_goals (first | assumption | wp_step))
            exact h _ _ hS' hk'
          | _ => exact hr₂.elim
    | _ => exact hr.elim
end
end L2
namespace L2
open PySem PySem.Spec PyProof.Rows PySem.W
def mKey (m : Msg) : List Key := [Sum.inl m.n, Sum.inr m.t, Sum.inr m.x]
theorem mKey_inj {a b : Msg} (h : mKey a = mKey b) : a = b := by
  unfold mKey at h
  injection h with h1 h2
  injection h2 with h3 h4
  injection h4 with h5 _
  cases a; cases b
  simp only [Sum.inl.injEq, Sum.inr.injEq] at h1 h3 h5
  subst h1; subst h3; subst h5; rfl
def SetT (P : Program) (w : World) (p : Addr) (xs : List (Msg × Addr)) : HO := .ext fun h => ∃ o es ep t, h.get? p = some o ∧ TObj (mixKind P w) o es ep t (xs.map fun p => (mKey p.1, p.2))
theorem ms_pairs {H : Hp} : ∀ {ys : List V} {ms : List Msg}, Ms H ys ms → ∃ xs : List (Msg × Addr), xs.map (·.1) = ms ∧ ys = xs.map (fun p => V.ref p.2) ∧ ∀ p ∈ xs, H p.2 = some (mT p.1)
  | ys, [], h => by
    have := h.len
    rw [List.length_nil] at this
    exact ⟨[], rfl, List.length_eq_zero_iff.mp this, fun p hp => nomatch hp⟩
  | ys, m :: ms, h => by
    have h' : HasL H ys (mD m :: ms.map mD) := h
    unfold HasL at h'
    obtain ⟨y, r, rfl, h1, h2⟩ := h'
    obtain ⟨c, rfl, hc⟩ := has_msg h1
    obtain ⟨xs, e1, e2, e3⟩ := ms_pairs (ys := r) (ms := ms) h2
    refine ⟨(m, c) :: xs, by rw [List.map_cons, e1], by rw [List.map_cons, e2], fun p hp => ?_⟩
    rcases List.mem_cons.mp hp with rfl | hp
    · exact hc
    · exact e3 p hp
theorem pairs_ms {H : Hp} : ∀ {xs : List (Msg × Addr)}, (∀ p ∈ xs, H p.2 = some (mT p.1)) → Ms H (xs.map fun p => V.ref p.2) (xs.map (·.1))
  | [], _ => Ms.nil
  | p :: xs, h => (Ms.one (h p List.mem_cons_self)).append (pairs_ms fun q hq => h q (List.mem_cons_of_mem _ hq))
theorem refs_vals : ∀ zs : List (Msg × Addr), Vals (zs.map fun p => V.ref p.2) (zs.map fun p => Value.ref p.2)
  | [] => .nil
  | p :: zs => .cons rfl (refs_vals zs)
theorem sort_keys {H : Hp} {xs : List V} {ms : List Msg} (hm : Ms H xs ms) (hnd : (ms.map (·.n)).Nodup) : KeyAll H xs (ms.map fun m => Sum.inl m.n) ∧ OneKind (ms.map fun m => (Sum.inl m.n : Key)) ∧ (ms.map fun m => (Sum.inl m.n : Key)).Nodup ∧
    ∀ is : List Nat, is.Perm (List.range xs.length) → (is.map fun i => (ms.map fun m => (Sum.inl m.n : Key)).getD i (.inl 0)).Pairwise (fun x y => ltK x y = true) → ∃ ns, Ms H (is.map fun i => xs.getD i .non) ns ∧ ns.Perm ms ∧ Rise ns := by
  have hl := hm.len
  refine ⟨⟨by rw [List.length_map, hl], fun i x k hx hk => ?_⟩, .inl fun k hk => ?_, ?_, fun is hpm hpw => ?_⟩
  · have hi : i < ms.length := by rw [← hl]; exact (List.getElem?_eq_some_iff.mp hx).1
    obtain ⟨c, e, hc⟩ := hm.get hi
    rw [hx] at e
    rw [List.getElem?_map, List.getElem?_eq_getElem hi] at hk
    cases Option.some.inj hk
    exact ⟨c, _, Option.some.inj e, hc⟩
  · obtain ⟨m, _, rfl⟩ := List.mem_map.mp hk
    exact ⟨_, rfl⟩
  · have : (ms.map fun m => (Sum.inl m.n : Key)) = (ms.map (·.n)).map Sum.inl := by rw [List.map_map]; rfl
    rw [this]
    exact List.Pairwise.map _ (fun _ _ h z => h (Sum.inl.inj z)) hnd
  · have hlt : ∀ i ∈ is, i < ms.length := fun i hi => by rw [← hl]; exact List.mem_range.mp (hpm.mem_iff.mp hi)
    obtain ⟨ns, h1, h2⟩ := hm.pick is hlt
    refine ⟨ns, h1, some_perm ?_, ?_⟩
    · rw [h2, ← range_get ms, ← hl]
      exact hpm.map _
    · have e : (is.map fun i => (ms.map fun m => (Sum.inl m.n : Key)).getD i (.inl 0)) = ns.map fun m => Sum.inl m.n := by
        have e1 : (ns.map some).map (fun o : Option Msg => (o.map fun m => (Sum.inl m.n : Key)).getD (.inl 0)) = ns.map fun m => Sum.inl m.n := by rw [List.map_map]; rfl
        rw [← e1, h2, List.map_map]
        refine List.map_congr_left fun i _ => ?_
        show (ms.map fun m => (Sum.inl m.n : Key)).getD i (.inl 0) = _
        rw [List.getD_eq_getElem?_getD, List.getElem?_map]; rfl
      rw [e, List.pairwise_map] at hpw
      exact hpw.imp fun h => of_decide_eq_true h
section
variable {X : Cx}
def rSetT (P : Program) (w : World) (K : PySem.W.Frag) : List V → Hp → VK → Prop := fun us H Q => ∃ (a : Addr) (xs : List (Msg × Addr)), us = [.ref a] ∧ SqL K H a (xs.map fun p => V.ref p.2) ∧ (∀ p ∈ xs, H p.2 = some (mT p.1)) ∧ (xs.map (·.1)).Nodup ∧ xs.length ≤ 8 ∧ ∀ p, H p = none → Q (.ref p) (upd H p (SetT P w p xs))
theorem call_setT (hc : X.calm = true) (hu : X.A.in1.in1.in1.units < cLine) : CallR X (.type "set") (rSetT X.prog X.w X.K) := by
  intro pins s σ H us ws Q I r h
  obtain ⟨a, xs, rfl, ha, hk, hnd, h8, q⟩ := h
  obtain ⟨u, rfl, ru⟩ := vals1 r
  cases ru
  obtain ⟨its, rv, pl, hz⟩ := I.list ha
  have hl := rv.length
  rw [List.length_map] at hl
  let d : Msg × Addr := (⟨0, "", ""⟩, 0)
  have hgd : ∀ (j : Nat) (hj : j < xs.length), xs.getD j d = xs[j] := fun j hj => by rw [List.getD_eq_getElem?_getD, List.getElem?_eq_getElem hj]; rfl
  refine tset_list (knd := mixKind X.prog X.w) (val := fun i => mKey (xs.getD i d).1) (adr := fun i => (xs.getD i d).2) (I.ok.hd hc) pl.isList hu (fun i v hv => ?_) (by rw [List.size_toArray]; omega) (fun j hj => ?_) (fun i j hi hj e => ?_) fun h' tk hS hk' => ?_
  · have hv' : its[i]? = some v := by simpa using hv
    obtain ⟨x, hx, rx⟩ := vals_at rv hv'
    rw [List.getElem?_map] at hx
    cases hki : xs[i]? with
    | none => rw [hki] at hx; cases hx
    | some p =>
      rw [hki] at hx
      cases hx
      have e : xs.getD i d = p := by rw [List.getD_eq_getElem?_getD, hki]; rfl
      show v = .ref (xs.getD i d).2
      rw [e]; exact rx
  · rw [List.size_toArray] at hj
    have hj' : j < xs.length := by omega
    show IsTupleKey (mixKind X.prog X.w) s.heap (mKey (xs.getD j d).1) (xs.getD j d).2
    rw [hgd j hj']
    have hm := hk _ (List.getElem_mem hj')
    generalize xs[j] = p at hm
    obtain ⟨ti, rt, ⟨o, ho, hcl, n, hdd⟩, _⟩ := I.tuple (SqT.ofT hm)
    refine ⟨o, ti.toArray, n, ho, hcl, hdd, ?_⟩
    cases rt with
    | cons r1 rt =>
      cases rt with
      | cons r2 rt =>
        cases rt with
        | cons r3 rt =>
          cases rt
          exact .cons (val_key (k := Sum.inl p.1.n) r1) (.cons (val_key (k := Sum.inr p.1.t) r2) (.cons (val_key (k := Sum.inr p.1.x) r3) .nil))
  · rw [List.size_toArray] at hi hj
    have hi' : i < xs.length := by omega
    have hj' : j < xs.length := by omega
    have e' : mKey (xs.getD i d).1 = mKey (xs.getD j d).1 := e
    rw [hgd i hi', hgd j hj'] at e'
    have e2 := mKey_inj e'
    have e3 : (xs.map (·.1))[i]'(by rw [List.length_map]; exact hi') = (xs.map (·.1))[j]'(by rw [List.length_map]; exact hj') := by rw [List.getElem_map, List.getElem_map]; exact e2
    have hw := List.pairwise_iff_getElem.mp hnd
    rcases Nat.lt_trichotomy i j with z | z | z
    · exact absurd e3 (hw i j _ _ z)
    · exact z
    · exact absurd e3.symm (hw j i _ _ z)
  · have hset : ∃ o es ep t, h'.get? s.heap.objs.size = some o ∧ TObj (mixKind X.prog X.w) o es ep t (xs.map fun p => (mKey p.1, p.2)) := by
      obtain ⟨o, es, ep, t, ho, Z⟩ := hS
      have e : ((List.range its.toArray.size).map fun j => (mKey (xs.getD j d).1, (xs.getD j d).2)) = xs.map fun p => (mKey p.1, p.2) := by
        refine List.ext_getElem (by simp [hl]) fun i h1 h2 => ?_
        rw [List.length_map] at h2
        rw [List.getElem_map, List.getElem_map, List.getElem_range, hgd i h2]
      rw [e] at Z
      exact ⟨o, es, ep, t, ho, Z⟩
    refine ⟨.ref s.heap.objs.size, _, I.laid (t' := tk) (o := SetT X.prog X.w s.heap.objs.size xs) (fun b u e => hk' b u (Heap.lt_size e) e) (Nat.le_refl _) ?_, rfl, q _ (I.hok.fresh (Nat.le_refl _))⟩
    obtain ⟨o, es, ep, t, ho, _⟩ := id hset
    exact ⟨hset, ⟨o, ho⟩, fun h1 h2 ⟨o, es, ep, t, ho, Z⟩ k => ⟨o, es, ep, t, k _ ho, Z⟩⟩
theorem TObj.o {P : Program} {w : World} {o : Obj} {es : Array (Int × Value)} {ep : Nat} {t : SetTable} {xs : List (List Key × Addr)} (x : TObj (mixKind P w) o es ep t xs) : ItO w o es ep t := ⟨x.ex, x.data, by have := x.few; unfold scanBound; omega, ⟨x.ok.fits, x.ok.ris⟩, x.led⟩
theorem collect_setT {pins : List (Addr × Obj)} {s : Shared} {σ : St} {H : Hp} {p : Addr} {xs : List (Msg × Addr)} {A : Around} {E : Value → Shared → Prop} {Q : List Value → Shared → Prop} (I : Inv X pins σ H s) (hp : H p = some (SetT X.prog X.w p xs)) (hh : A.handled = none)
    (hq : ∀ vs s' (zs : List (Msg × Addr)), Vals (zs.map fun p => V.ref p.2) vs → zs.Perm xs → Inv X pins σ H s' → Q vs s') : wpAny (model X.prog X.w) A (collect (.ref p)) Q E s := by
  obtain ⟨⟨o, es, ep, t, ho, Z⟩, _, _⟩ := (show ObjOk X.prog X.w H s.heap p (SetT X.prog X.w p xs) from I.hok p _ hp)
  have grow : ∀ b o, s.heap.get? b = some o → (s.heap.push (seqObj "list" #[] 0)).get? b = some o := fun b o e => Heap.get?_push_of_some _ e
  have lp : p < s.heap.objs.size := Heap.lt_size ho
  unfold collect
  refine wpAny_bind (wpAny_runValue (codeAny_builtin entry_proto_collect' ?_))
  show wpAny _ _ (do again (.builtin "list.__iadd__" ⟨[← newList [], .ref p], []⟩)) _ _ s
  refine wpAny_bind (wpAny_newList (wpAny_pure ⟨Code.quiet_builtin _ (by decide +kernel), codeAny_builtin entry_list_iadd' ?_⟩))
  show wpAny _ _ (Builtin.List.listExtendWith (.ref s.heap.objs.size) (.ref p) (.ref s.heap.objs.size)) _ _ { s with heap := s.heap.push (seqObj "list" #[] 0) }
  rw [Around.under_plainId (show plainId "list.__iadd__" = true by decide +kernel) _]
  have fin : ∀ s' : Shared, (∃ acc c ord, s'.heap.get? s.heap.objs.size = some { cls := .type "list", dict := none, data := .seq acc c, slots := #[] } ∧ List.Perm ord es.toList ∧ acc.toList = ord.map (·.2) ∧ Inv X pins σ H s') →
      wpAny (model X.prog X.w) A (do
        let o ← load s.heap.objs.size
        match o.data with
        | .seq xs _ => pure xs.toList
        | _ => unsupported "internal:collect") Q E s' := by
    rintro s' ⟨acc, c, ord, hS, hpm, e, I'⟩
    refine wpAny_bind (wpAny_load hS ?_)
    show wpAny _ _ (pure acc.toList) Q E _
    obtain ⟨ys, hp1, he1⟩ := Z.els
    obtain ⟨l1, q1, q2⟩ := perm_of_map (f := tEl (mixKind X.prog X.w)) hpm he1
    obtain ⟨zs, q3, q4⟩ := perm_of_map (f := fun p : Msg × Addr => (mKey p.1, p.2)) (q2.trans hp1) rfl
    refine wpAny_pure (hq _ _ zs ?_ q4 I')
    rw [e, q1, q3, List.map_map, List.map_map]
    exact refs_vals zs
  refine wpAny_mono (extend_set (R := fun r s' => r = .ok (.ret (.ref s.heap.objs.size)) ∧ ∃ acc c ord, s'.heap.get? s.heap.objs.size = some { cls := .type "list", dict := none, data := .seq acc c, slots := #[] } ∧ List.Perm ord es.toList ∧ acc.toList = ord.map (·.2) ∧ Inv X pins σ H s')
    (s := { s with heap := s.heap.push (seqObj "list" #[] 0) }) hh (grow _ _ ho) Z.o (Nat.ne_of_gt lp) _ 0 (Heap.get?_push_size _ rfl) (fun h' tk d acc c ord hk hS hpm hacc => ?_))
    (fun fi s' hf => ?_) (fun e s' he => nomatch he.1)
  · exact ⟨rfl, acc, c, ord, hS, hpm, hacc, (I.kept (t' := tk) fun b o eb => hk b o (Nat.ne_of_lt (Heap.lt_size eb)) (grow b o eb)).draw⟩
  · cases fi with
    | done f =>
      obtain ⟨e, g⟩ := hf
      cases e
      exact fin s' g
    | again c' =>
      refine ⟨hf.1, codeAny_mono hf.2 fun r s2 ⟨e, g⟩ => ?_⟩
      subst e
      exact fin s2 g
def rSortSetT (P : Program) (w : World) : List V → Hp → VK → Prop := fun us H Q => ∃ (a : Addr) (xs : List (Msg × Addr)), us = [.ref a] ∧ H a = some (SetT P w a xs) ∧ (∀ p ∈ xs, H p.2 = some (mT p.1)) ∧ (xs.map (·.1.n)).Nodup ∧ xs.length < 64 ∧
  ∀ p ys ns, H p = none → Ms H ys ns → ns.Perm (xs.map (·.1)) → Rise ns → Q (.ref p) (upd H p (.lst ys))
theorem call_sortSetT (hc : X.calm = true) : CallR X (.builtin "sorted") (rSortSetT X.prog X.w) := by
  intro pins s σ H us ws Q I r h
  obtain ⟨a, xs0, rfl, ha, hk0, hnd0, h640, q⟩ := h
  obtain ⟨u, rfl, ru⟩ := vals1 r
  cases ru
  refine Calls.call_function_entry kind_sorted plain_sorted entry_sorted (args_sorted1 _) ?_
  unfold Builtin.«sorted»
  refine wpAny_bind (m := checkCount "sorted" 1 1 _) (wpAny_pure ?_)
  refine wpAny_bind (collect_setT I ha (I.ok.hd hc) fun vs s1 zs rv hzs I1 => ?_)
  have hm := pairs_ms (H := H) (xs := zs) fun p hp => hk0 p (hzs.mem_iff.mp hp)
  have hnd : ((zs.map (·.1)).map (·.n)).Nodup := by
    rw [List.map_map]
    exact ((hzs.map _).nodup_iff).mpr hnd0
  obtain ⟨hn, hok, hndk, hfin⟩ := sort_keys hm hnd
  have hzl := hzs.length_eq
  generalize hxs : (zs.map fun p => V.ref p.2) = xs at rv hm hn hfin
  have hl := rv.length
  have hxl : xs.length = zs.length := by rw [← hxs, List.length_map]
  refine wpAny_bind (wpAny_newList ?_ (by rw [sizeLine_eq]; omega))
  have I2 : Inv X pins σ H { s1 with heap := s1.heap.push (seqObj "list" vs.toArray 0) } := I1.kept (t' := s1.toks) fun b o e => Heap.get?_push_of_some _ e
  have fD : FpOk X pins H s1.heap.objs.size := I1.fpOk (Nat.le_refl _) (I1.hok.fresh (Nat.le_refl _))
  have hoL : (s1.heap.push (seqObj "list" vs.toArray 0)).get? s1.heap.objs.size = some (seqObj "list" vs.toArray 0) := Heap.get?_push_size _ rfl
  refine wpAny_bind (wpAny_holding (wpAny_call_entry slot_list_sort ⟨_, hoL, rfl⟩ entry_list_sort ?body (args_list_sort _)))
  case body =>
    show wpAny (model X.prog X.w) X.A.in1.in1 (Builtin.«list.sort» ⟨[.ref s1.heap.objs.size], []⟩) _ _ _
    refine so_tupK (kz := (zs.map (·.1)).map fun m => Sum.inl m.n) I2 hoL fD (by omega) hok hndk (fun s' I' => first_of rv hn I') fun s' c is I' hpm hpw ho' => ⟨_, rfl, ?_⟩
    have hil := hpm.length_eq
    rw [List.length_range] at hil
    obtain ⟨ns, g1, g2, g3⟩ := hfin is (by rw [hl]; exact hpm) hpw
    refine wpAny_pure ⟨_, rfl, .ref s1.heap.objs.size, upd H s1.heap.objs.size (.lst (is.map fun i => xs.getD i .non)), I'.track fD ⟨?_, _, c, vals_pick rv rfl is (fun i hi => List.mem_range.mp (hpm.mem_iff.mp hi)), ho'⟩, rfl, q _ _ ns fD.1 g1 (g2.trans (hzs.map _)) g3⟩
    rw [List.length_map, sizeLine_eq]; omega
theorem k_setT (P : Program) (w : World) (K : PySem.W.Frag) {k : Nat} (hr : Room k X.A) (hc : X.calm = true := by rfl) (h : X.K = K := by rfl) (hp : X.prog = P := by rfl) (hw : X.w = w := by rfl) : CallR X (.type "set") (rSetT P w K) := by
  subst h; subst hp; subst hw
  exact call_setT hc (by have := hr.un; show X.A.units + 1 + 1 + 1 < _; omega)
theorem k_sortSetT (P : Program) (w : World) (hc : X.calm = true := by rfl) (hp : X.prog = P := by rfl) (hw : X.w = w := by rfl) : CallR X (.builtin "sorted") (rSortSetT P w) := by subst hp; subst hw; exact call_sortSetT hc
end
end L2
namespace K15
open PySem L2
def top (i : Nat) : Stmt := PySem.Challenge.pw_tellroads_k15_whole_put_together.main.body.getD i (.Pass ⟨0, 0, 0, 0⟩)
structure Txt (mg : Str → Option Value) : Prop where
  b_len : mg "len" = none
  b_range : mg "range" = none
  b_list : mg "list" = none
  b_sorted : mg "sorted" = none
  b_set : mg "set" = none
  b_enumerate : mg "enumerate" = none
  b_zip : mg "zip" = none
def cellF (ns : List Int) (k : Int) : Int := if ns = [] then 7 * k else ns.getD (k % (ns.length : Int)).toNat 0 + 6553 * (k / (ns.length : Int))
def draw1 (c k : Int) : Int := (c % 2147483563 * 69069 + 104723 * (k + 1)) % 2147483563
def draw2 (h : Int) : Int := (h * h + h / 3) % 2147483399
def draw3 (h m : Int) : Int := (h * h + h / 7) % 2147483647 / 11 % m
def drawnF (ns : List Int) (k m : Int) : Int := draw3 (draw2 (draw1 (cellF ns k) k)) m
theorem drawn_nn (ns : List Int) (k : Int) {m : Int} (h : 0 < m) : 0 ≤ drawnF ns k m := Int.emod_nonneg _ (by omega)
theorem drawn_lt (ns : List Int) (k : Int) {m : Int} (h : 0 < m) : drawnF ns k m < m := Int.emod_lt_of_pos _ h
def saidL (ns : List Int) (at' : Int) : List Str := (List.range (drawnF ns at' 5).toNat).map fun (k : Nat) => (⟨#[[97, 98, 32, 10, 122].getD (drawnF ns (at' + 1 + (k : Int)) 5).toNat 97]⟩ : Str)
def saidF (ns : List Int) (at' : Int) : Str := Txt.join "" (saidL ns at')
theorem saidL_len (ns : List Int) (at' : Int) : (saidL ns at').length ≤ 4 := by
  unfold saidL
  rw [List.length_map, List.length_range]
  have := drawn_nn ns at' (m := 5) (by decide)
  have := drawn_lt ns at' (m := 5) (by decide)
  omega
def spCell (K : PySem.W.Frag) : Sp := fun vs H Q _ => ∃ (a : Addr) (ns : List Int) (k : Int), vs = [.ref a, .int k] ∧ SqL K H a (ns.map V.int) ∧ ns.length ≤ 63 ∧ 0 ≤ k ∧ ∀ H', Same H H' → Q (.int (cellF ns k)) H'
def spDrawn (K : PySem.W.Frag) : Sp := fun vs H Q _ => ∃ (a : Addr) (ns : List Int) (k m : Int), vs = [.ref a, .int k, .int m] ∧ SqL K H a (ns.map V.int) ∧ ns.length ≤ 63 ∧ 0 ≤ k ∧ 0 < m ∧ ∀ H', Same H H' → Q (.int (drawnF ns k m)) H'
def spSaid (K : PySem.W.Frag) : Sp := fun vs H Q _ => ∃ (a : Addr) (ns : List Int) (k : Int), vs = [.ref a, .int k] ∧ SqL K H a (ns.map V.int) ∧ ns.length ≤ 63 ∧ 0 ≤ k ∧ ∀ H', Same H H' → Q (.str (saidF ns k)) H'
section
variable {P : Program} {w : World} {K : PySem.W.Frag} {mg : Str → Option Value} {base : Heap}
abbrev s_l_cell : Stmt := top 18
abbrev N_l_cell : List Str := ["_law_script", "_law_k"]
theorem sc_l_cell : FnScope N_l_cell ["_law_script", "_law_k"] (defScope s_l_cell) := ⟨rfl, rfl, rfl, by decide +kernel, rfl, by decide +kernel, by decide +kernel⟩
theorem ok_l_cell {f : Addr} {fd : FuncData} (F : Fun K "_law_cell" "_law_cell" s_l_cell f fd) (T : Txt mg) : FnOk P w K mg base CX0 1 f fd ["_law_script", "_law_k"] (spCell K) := by
  refine F.ok sc_l_cell (fun vs H Q E h => ?_) (fun cdv A outer s H vs Q E hr h => ?_)
  · obtain ⟨a, ns, k, rfl, _⟩ := h; rfl
  · obtain ⟨a, ns, k, rfl, hS, hlen, hk, q⟩ := h
    refine ⟨_, (pss_cons (ps_if (pt_cmpR (k_eq0 K hr.units0) (pv 0) (as_lst as_nil) (nomark _)) (pss_one (ps_ret (pe_op op_mul pe_int (pv 1)))) pss_nil)
      (pss_one (ps_ret (pe_op op_add (pe_ix (k_ix_list K) (pv 0) (pe_op op_mod (pv 1) (as_callB (k_len_seq K) (by rfl) T.b_len PySem.boot_len (at_cons (pv 0) as_nil))) (fun _ _ => rfl)) (pe_op op_mul pe_int (pe_op op_fdiv (pv 1) (as_callB (k_len_seq K) (by rfl) T.b_len PySem.boot_len (at_cons (pv 0) as_nil)))))))), ?_⟩
    refine ⟨_, rfl, by decide, fun p hp => ?_⟩
    have s1 : Same H (upd H p (.lst [])) := Same.new hp
    refine ⟨a, p, _, rfl, rfl, s1.seq hS, SqL.ofL upd_same, _, rfl, ?_⟩
    refine ite2 (fun he => ?_) (fun he => ?_)
    · have e : ns = [] := by simpa using he
      refine ⟨_, rfl, _, _, rfl, rfl, .inl ⟨by decide, by decide⟩, ?_⟩
      have z := q _ s1
      unfold cellF at z
      rw [if_pos e] at z
      exact z
    · have e : ns ≠ [] := by simpa using he
      have hl : 0 < ns.length := List.length_pos_iff.mpr e
      refine ⟨_, rfl, _, rfl, _, rfl, a, _, rfl, .inl (s1.seq hS), _, _, rfl, rfl, ?_, ?_⟩
      · show (0 : Int) < ((ns.map V.int).length : Int)
        rw [List.length_map]; omega
      · have hlt : (k % (ns.length : Int)).toNat < ns.length := by
          have h1 := Int.emod_nonneg k (b := (ns.length : Int)) (by omega)
          have h2 := Int.emod_lt_of_pos k (b := (ns.length : Int)) (by omega)
          omega
        have hi : atI (ns.map V.int) (k % ((ns.map V.int).length : Int)) = some (V.int (ns.getD (k % (ns.length : Int)).toNat 0)) := by
          rw [List.length_map]
          have h1 := Int.emod_nonneg k (b := (ns.length : Int)) (by omega)
          have e2 : k % (ns.length : Int) = ((k % (ns.length : Int)).toNat : Int) := by omega
          rw [e2]
          refine atI_nat ?_
          rw [Int.toNat_natCast, List.getElem?_map, List.getElem?_eq_getElem hlt]
          simp [List.getD, List.getElem?_eq_getElem hlt]
        refine ⟨a, _, _, _, rfl, rfl, s1.seq hS, hi, _, rfl, _, rfl, a, _, rfl, .inl (s1.seq hS), _, _, rfl, rfl, ?_, _, _, rfl, rfl, .inl ⟨by decide, by decide⟩, _, _, rfl, rfl, ?_⟩
        · show (0 : Int) < ((ns.map V.int).length : Int) ∧ ((ns.map V.int).length : Int) < 1073741824
          rw [List.length_map]; omega
        · have z := q _ s1
          unfold cellF at z
          rw [if_neg e] at z
          show Q (.int (ns.getD (k % (ns.length : Int)).toNat 0 + 6553 * (k / ((ns.map V.int).length : Int)))) _
          rw [List.length_map]
          exact z
abbrev s_l_drawn : Stmt := top 19
abbrev N_l_drawn : List Str := ["_law_script", "_law_k", "_law_many", "_law_cell_here"]
theorem sc_l_drawn : FnScope N_l_drawn ["_law_script", "_law_k", "_law_many"] (defScope s_l_drawn) := ⟨rfl, rfl, rfl, by decide +kernel, rfl, by decide +kernel, by decide +kernel⟩
theorem ok_l_drawn {f : Addr} {fd : FuncData} (F : Fun K "_law_drawn" "_law_drawn" s_l_drawn f fd) (T : Txt mg) (c_l_cell : Callee P w K mg base 1 "_law_cell" ["_law_script", "_law_k"] (spCell K)) :
    FnOk P w K mg base CX0 2 f fd ["_law_script", "_law_k", "_law_many"] (spDrawn K) := by
  refine F.ok sc_l_drawn (fun vs H Q E h => ?_) (fun cdv A outer s H vs Q E hr h => ?_)
  · obtain ⟨a, ns, k, m, rfl, _⟩ := h; rfl
  · obtain ⟨a, ns, k, m, rfl, hS, hlen, hk, hm, q⟩ := h
    refine ⟨_, (pss_cons (ps_set (i := 3) sc_l_drawn.nd rfl (Or.inl rfl) (pe_op op_mod (pe_op op_add (pe_op op_mul (pe_op op_mod (as_fn c_l_cell (hr.mono (by decide)) (at_cons (pv 0) (as_cons (pv 1) as_nil))) pe_int) pe_int) (pe_op op_mul pe_int (pe_op op_add (pv 1) pe_int))) pe_int))
      (pss_cons (ps_set (i := 3) sc_l_drawn.nd rfl (Or.inl rfl) (pe_op op_mod (pe_op op_add (pe_op op_mul (pv 3) (pv 3)) (pe_op op_fdiv (pv 3) pe_int)) pe_int))
      (pss_one (ps_ret (pe_op op_mod (pe_op op_fdiv (pe_op op_mod (pe_op op_add (pe_op op_mul (pv 3) (pv 3)) (pe_op op_fdiv (pv 3) pe_int)) pe_int) pe_int) (pv 2)))))), ?_⟩
    refine ⟨_, rfl, _, rfl, a, ns, k, rfl, hS, hlen, hk, fun H1 s1 => ?_⟩
    have b1 : ∀ x : Int, 0 ≤ x % 2147483563 ∧ x % 2147483563 < 2147483563 := fun x => ⟨Int.emod_nonneg _ (by decide), Int.emod_lt_of_pos _ (by decide)⟩
    have b2 : ∀ x : Int, 0 ≤ x % 2147483399 ∧ x % 2147483399 < 2147483399 := fun x => ⟨Int.emod_nonneg _ (by decide), Int.emod_lt_of_pos _ (by decide)⟩
    refine ⟨_, _, rfl, rfl, (by decide : (0 : Int) < 2147483563), _, _, rfl, rfl, .inr ⟨by decide, by decide⟩, _, rfl, _, _, rfl, rfl, _, _, rfl, rfl, .inl ⟨by decide, by decide⟩, _, _, rfl, rfl, _, _, rfl, rfl, (by decide : (0 : Int) < 2147483563), ?_⟩
    have c1 := b1 (cellF ns k % 2147483563 * 69069 + 104723 * (k + 1))
    refine ⟨_, rfl, _, rfl, _, _, rfl, rfl, .inl ⟨?_, ?_⟩, _, rfl, _, _, rfl, rfl, ⟨by decide, by decide⟩, _, _, rfl, rfl, _, _, rfl, rfl, (by decide : (0 : Int) < 2147483399), ?_⟩
    · exact Int.lt_of_lt_of_le (by decide) c1.1
    · exact Int.lt_trans c1.2 (by decide)
    have c2 := b2 (draw1 (cellF ns k) k * draw1 (cellF ns k) k + draw1 (cellF ns k) k / 3)
    refine ⟨_, rfl, _, rfl, _, _, rfl, rfl, .inl ⟨?_, ?_⟩, _, rfl, _, _, rfl, rfl, ⟨by decide, by decide⟩, _, _, rfl, rfl, _, _, rfl, rfl, (by decide : (0 : Int) < 2147483647), _, _, rfl, rfl, ⟨by decide, by decide⟩, _, rfl, _, _, rfl, rfl, hm, ?_⟩
    · exact Int.lt_of_lt_of_le (by decide) c2.1
    · exact Int.lt_trans c2.2 (by decide)
    exact q H1 s1
abbrev s_l_said : Stmt := top 20
abbrev N_l_said : List Str := ["_law_script", "_law_at"]
theorem sc_l_said : FnScope N_l_said ["_law_script", "_law_at"] (defScope s_l_said) := ⟨rfl, rfl, rfl, by decide +kernel, rfl, by decide +kernel, by decide +kernel⟩
theorem ok_l_said {f : Addr} {fd : FuncData} (F : Fun K "_law_said" "_law_said" s_l_said f fd) (T : Txt mg) (c_l_drawn : Callee P w K mg base 2 "_law_drawn" ["_law_script", "_law_k", "_law_many"] (spDrawn K)) :
    FnOk P w K mg base CX0 3 f fd ["_law_script", "_law_at"] (spSaid K) := by
  refine F.ok sc_l_said (fun vs H Q E h => ?_) (fun cdv A outer s H vs Q E hr h => ?_)
  · obtain ⟨a, ns, k, rfl, _⟩ := h; rfl
  · obtain ⟨a, ns, k, rfl, hS, hlen, hk, q⟩ := h
    refine ⟨_, (pss_one (ps_ret (k_bm K PySem.F.plainAttrs_str PySem.F.slot_str_join PySem.F.type_str_join (k_join K) pe_str (pa_cons (pe_comp (N' := ["_law_k", "_law_script", "_law_at"]) (ix := [none, some 0, some 1]) (own := [0]) rfl (cs_of (osc := defScope s_l_said) (ON := N_l_said) rfl rfl (by decide +kernel)) (by decide) (pi_range1 (by rfl) T.b_range (pa_cons (as_fn c_l_drawn (hr.mono (by decide)) (at_cons (pv 0) (as_cons (pv 1) (as_cons pe_int as_nil)))) pa_nil)) (fun _ _ _ _ => (pg_name (i := 0) (show (["_law_k", "_law_script", "_law_at"] : List Str).Nodup by decide +kernel) rfl (Or.inl rfl))) own_name (fun _ _ _ _ => pifs_nil) (fun _ _ _ _ => (pe_ix ix_str pe_str (as_fn c_l_drawn (hr.mono (by decide)) (at_cons (pv 1) (as_cons (pe_op op_add (pe_op op_add (pv 2) pe_int) (pv 0)) (as_cons pe_int as_nil)))) (fun _ _ => rfl)))) pa_nil)))), ?_⟩
    have h0 := drawn_nn ns k (m := 5) (by decide)
    have h5 := drawn_lt ns k (m := 5) (by decide)
    refine ⟨rfl, _, rfl, _, rfl, a, ns, k, 5, rfl, hS, hlen, hk, by decide, fun H1 s1 => ⟨_, rfl, by omega, by omega, (drawnF ns k 5).toNat, fun i ys H2 => Same H H2 ∧ ys = ((saidL ns k).take i).map V.str, ?_, ⟨s1, by simp⟩, ?_, ?_⟩⟩
    · have : (drawnF ns k 5).toNat < 5 := by omega
      exact Nat.le_trans (Nat.le_of_lt this) (by decide)
    · rintro i ys H2 hi ⟨s2, rfl⟩
      refine ⟨hi, fun x H3 => ?_⟩
      rintro ⟨rfl, rfl⟩
      refine rd_name (rd_yes (iteT ?_))
      have g0 := drawn_nn ns (k + 1 + (i : Int)) (m := 5) (by decide)
      have g5 := drawn_lt ns (k + 1 + (i : Int)) (m := 5) (by decide)
      refine ⟨_, rfl, _, rfl, _, _, rfl, rfl, _, rfl, _, _, rfl, rfl, a, ns, k + 1 + (i : Int), 5, ?_, s2.seq hS, hlen, by omega, by decide, fun H4 s4 => ?_⟩
      · simp
      · have hg : atI ("ab \nz" : Str).cps.toList (drawnF ns (k + 1 + (i : Int)) 5) = some ([97, 98, 32, 10, 122].getD (drawnF ns (k + 1 + (i : Int)) 5).toNat 97) := by
          generalize drawnF ns (k + 1 + (i : Int)) 5 = x at g0 g5
          have : x = 0 ∨ x = 1 ∨ x = 2 ∨ x = 3 ∨ x = 4 := by omega
          rcases this with rfl | rfl | rfl | rfl | rfl <;> decide +kernel
        refine ⟨_, _, _, rfl, rfl, by decide, hg, s2.trans s4, ?_⟩
        have hlt : i < (saidL ns k).length := by unfold saidL; rw [List.length_map, List.length_range]; exact hi
        rw [List.take_add_one, List.getElem?_eq_getElem hlt, List.map_append]
        simp [saidL]
    · rintro ys H2 ⟨s2, rfl⟩
      refine ⟨Nat.le_refl _, fun D hD => ⟨"", D, saidL ns k, rfl, rfl, ?_, ?_, q _ (s2.trans (Same.new hD))⟩⟩
      · refine SqL.ofL ?_
        rw [upd_same, List.take_of_length_le]
        unfold saidL; rw [List.length_map, List.length_range]; exact Nat.le_refl _
      · have h1 := saidL_len ns k
        have h2 : ((saidL ns k).map (·.length)).sum = (saidL ns k).length := by
          unfold saidL
          rw [List.map_map]
          induction (List.range (drawnF ns k 5).toNat) with
          | nil => rfl
          | cons x r ih => simp only [List.map_cons, List.sum_cons, List.length_cons, ih]; show 1 + _ = _; omega
        have h3 : ("" : Str).length = 0 := by decide +kernel
        rw [h2, h3]; omega
end
theorem join_codes : ∀ ys : List Str, (Txt.join "" ys).cps.toList = (ys.map (·.cps.toList)).flatten := by
  have key : ∀ ys : List Str, (Str.join "" ys).cps.toList = (ys.map (·.cps.toList)).flatten := by
    intro ys
    induction ys with
    | nil => rfl
    | cons y r ih =>
      cases r with
      | nil => simp [Str.join]
      | cons z q =>
        have e : Str.join "" (y :: z :: q) = y ++ ("" : Str) ++ Str.join "" (z :: q) := rfl
        have e2 : (y ++ ("" : Str) ++ Str.join "" (z :: q)).cps.toList = y.cps.toList ++ (Str.join "" (z :: q)).cps.toList := by
          show ((y.cps ++ ("" : Str).cps) ++ (Str.join "" (z :: q)).cps).toList = _
          have e0 : ("" : Str).cps = #[] := by decide +kernel
          rw [e0]; simp
        rw [e, e2, ih]
        simp
  intro ys
  unfold Txt.join
  rw [StrLaws.glued_eq_join]
  exact key ys
theorem said_codes (ns : List Int) (k : Int) : (saidF ns k).cps.toList.length ≤ 4 ∧ ∀ c ∈ (saidF ns k).cps.toList, c = 97 ∨ c = 98 ∨ c = 32 ∨ c = 10 ∨ c = 122 := by
  unfold saidF
  rw [join_codes]
  have h0 := saidL_len ns k
  have e : ((saidL ns k).map (·.cps.toList)).flatten = (List.range (drawnF ns k 5).toNat).map fun (j : Nat) => [97, 98, 32, 10, 122].getD (drawnF ns (k + 1 + (j : Int)) 5).toNat 97 := by
    unfold saidL
    induction (List.range (drawnF ns k 5).toNat) with
    | nil => rfl
    | cons x r ih => simp only [List.map_cons, List.flatten_cons, ih]; rfl
  rw [e]
  refine ⟨?_, fun c hc => ?_⟩
  · rw [List.length_map]
    unfold saidL at h0
    rw [List.length_map] at h0
    exact h0
  · obtain ⟨j, _, rfl⟩ := List.mem_map.mp hc
    have g0 := drawn_nn ns (k + 1 + (j : Int)) (m := 5) (by decide)
    have g5 := drawn_lt ns (k + 1 + (j : Int)) (m := 5) (by decide)
    generalize drawnF ns (k + 1 + (j : Int)) 5 = x at g0 g5
    have : x = 0 ∨ x = 1 ∨ x = 2 ∨ x = 3 ∨ x = 4 := by omega
    rcases this with rfl | rfl | rfl | rfl | rfl <;> decide
theorem said_ok (ns : List Int) (k : Int) : PyData.strOk (saidF ns k) = true := by
  obtain ⟨_, h2⟩ := said_codes ns k
  unfold PyData.strOk
  rw [← Array.all_toList, List.all_eq_true]
  intro c hc
  rcases h2 c hc with rfl | rfl | rfl | rfl | rfl <;> decide
section
variable {P : Program} {w : World} {K : PySem.W.Frag} {mg : Str → Option Value} {base : Heap}
abbrev s_number_of : Stmt := top 5
abbrev N_number_of : List Str := ["message"]
theorem sc_number_of : FnScope N_number_of ["message"] (defScope s_number_of) := ⟨rfl, rfl, rfl, by decide +kernel, rfl, by decide +kernel, by decide +kernel⟩
theorem ok_number_of {f : Addr} {fd : FuncData} (F : Fun K "number_of" "number_of" s_number_of f fd) : FnOk P w K mg base CX0 1 f fd ["message"] (spItem 0) := by
  refine F.ok sc_number_of (fun vs H Q E h => ?_) (fun cdv A outer s H vs Q E hr h => ?_)
  · obtain ⟨a, x, y, z, rfl, _⟩ := h; rfl
  · obtain ⟨a, x, y, z, rfl, h1, q⟩ := h
    refine ⟨_, (pss_one (ps_ret (pe_ix (k_ix_tup K) (pv 0) pe_int (fun _ _ => rfl)))), ?_⟩
    exact ⟨_, rfl, a, _, 0, x, rfl, rfl, SqT.ofT h1, rfl, q⟩
abbrev s_topic_of : Stmt := top 6
abbrev N_topic_of : List Str := ["message"]
theorem sc_topic_of : FnScope N_topic_of ["message"] (defScope s_topic_of) := ⟨rfl, rfl, rfl, by decide +kernel, rfl, by decide +kernel, by decide +kernel⟩
theorem ok_topic_of {f : Addr} {fd : FuncData} (F : Fun K "topic_of" "topic_of" s_topic_of f fd) : FnOk P w K mg base CX0 1 f fd ["message"] (spItem 1) := by
  refine F.ok sc_topic_of (fun vs H Q E h => ?_) (fun cdv A outer s H vs Q E hr h => ?_)
  · obtain ⟨a, x, y, z, rfl, _⟩ := h; rfl
  · obtain ⟨a, x, y, z, rfl, h1, q⟩ := h
    refine ⟨_, (pss_one (ps_ret (pe_ix (k_ix_tup K) (pv 0) pe_int (fun _ _ => rfl)))), ?_⟩
    exact ⟨_, rfl, a, _, 1, y, rfl, rfl, SqT.ofT h1, rfl, q⟩
abbrev s_last_ones : Stmt := top 8
abbrev N_last_ones : List Str := ["messages", "newest", "message"]
theorem sc_last_ones : FnScope N_last_ones ["messages"] (defScope s_last_ones) := ⟨rfl, rfl, rfl, by decide +kernel, rfl, by decide +kernel, by decide +kernel⟩
theorem ok_last_ones {f : Addr} {fd : FuncData} (F : Fun K "last_ones" "last_ones" s_last_ones f fd) (T : Txt mg) (c_number_of : Callee P w K mg base 1 "number_of" ["message"] (spItem 0)) (c_topic_of : Callee P w K mg base 1 "topic_of" ["message"] (spItem 1)) :
    FnOk P w K mg base CX0 4 f fd ["messages"] spLast := by
  refine F.ok sc_last_ones (fun vs H Q E h => ?_) (fun cdv A outer s H vs Q E hr h => ?_)
  · obtain ⟨a, xs, ms, rfl, _⟩ := h; rfl
  · obtain ⟨a, xs, ms, rfl, ha, hm, hlen, hd, q⟩ := h
    refine ⟨_, (pss_cons (ps_set (i := 1) sc_last_ones.nd rfl (Or.inl rfl) pe_dnewK)
      (pss_cons (ps_for PassesOwn.never rfl (k_it_list K (k_sortN K c_number_of (hr.mono (by decide)) rfl (pv 0) T.b_sorted)) (pg_name (i := 2) sc_last_ones.nd rfl (Or.inl rfl)) (pss_one (ps_dput (hu_of hr) (pv 1) (as_fn c_topic_of (hr.mono (by decide)) (at_cons (pv 2) as_nil)) (pv 2) rfl)))
      (pss_one (ps_ret (k_sortN K c_number_of (hr.mono (by decide)) rfl (k_bm0 K PySem.F.plainAttrs_dict PySem.F.slot_dict_values PySem.F.type_dict_values mt_values (pv 1)) T.b_sorted))))), ?_⟩
    intro d hdn
    have s1 := Same.new (o := .dK []) hdn
    refine ⟨_, rfl, xs, ms.map (·.n), .inl ⟨a, rfl, SqL.ofL (s1 _ _ ha)⟩, by rw [hm.len]; exact hlen, (hm.same s1).num, fun ys ps hsb hps => ?_⟩
    obtain ⟨ns, hns, hperm, hrise⟩ := sorted_ms hm hsb hd
    have s2 := s1.trans (Same.new (o := .lst ys) hps)
    have hdp : d ≠ ps := fun e => by rw [← e, upd_same] at hps; cases hps
    refine ⟨ps, rfl, ⟨ys, SqL.ofL upd_same⟩, for_list (K := K) (a := ps) (xs := ys) (fun i σ H2 => ∃ o kvs, σ = [some (.ref a), some (.ref d), o] ∧ Same H H2 ∧ H2 ps = some (.lst ys) ∧ H2 d = some (.dK kvs) ∧ DM H kvs (newest (ns.take i)))
      ⟨none, [], rfl, s2, upd_same, by rw [upd_ne hdp]; exact upd_same, .nil⟩ (fun i σ H2 _ ⟨_, _, _, _, h, _⟩ => SqL.ofL h) ?_ ?_⟩
    · rintro i x σ H2 hi ⟨o, kvs, rfl, s3, h1, h2, hdm⟩
      have hil : i < ns.length := by rw [← hns.len]; exact (List.getElem?_eq_some_iff.mp hi).1
      obtain ⟨c, ec, hc⟩ := hns.get hil
      rw [hi] at ec
      obtain rfl := Option.some.inj ec
      refine rd_name ?_
      have hkl : kvs.length < sizeLine := by
        have h1 := newest_len (ns.take i)
        have h2 := hperm.length_eq
        rw [List.length_take] at h1
        rw [hdm.len, sizeLine_eq]
        omega
      refine ⟨_, rfl, _, rfl, _, rfl, c, _, _, _, rfl, s3 _ _ hc, d, _, rfl, DPut.k (k := Sum.inr ns[i].t) h2 hkl, ?_⟩
      refine ⟨_, _, rfl, s3.put hdn, ?_, upd_same, ?_⟩
      · rw [upd_ne (Ne.symm hdp)]; exact h1
      · rw [List.take_add_one, List.getElem?_eq_getElem hil]
        show DM H _ (newest (ns.take i ++ [ns[i]]))
        rw [newest_snoc]
        exact hdm.put _ (msg_has hc)
    · rintro σ H2 ⟨o, kvs, rfl, s3, h1, h2, hdm⟩
      rw [hns.len, List.take_length] at hdm
      refine ⟨_, rfl, .inr (.inr (.inl ⟨rfl, .inl ⟨kvs, h2⟩⟩)), d, kvs, rfl, rfl, h2, fun pv hpv => ?_⟩
      have s4 := Same.new (o := ValsO pv d) hpv
      have hnl : (newest ns).length < 64 := by
        have h1 := newest_len ns
        have h2 := hperm.length_eq
        omega
      refine ⟨kvs.map (·.2), ((newest ns).map (·.2)).map (·.n), .inr ⟨pv, d, kvs, rfl, upd_same, s4 _ _ h2, rfl⟩, by rw [List.length_map, hdm.len]; exact hnl, (hdm.ms.same (s3.trans s4)).num, fun ys2 p2 hsb2 hp2 => ?_⟩
      have hdn' := newest_diff hrise
      obtain ⟨ls, hls, hlp, hlr⟩ := sorted_ms hdm.ms hsb2 hdn'
      have s5 := (s3.trans s4).trans (Same.new (o := .lst ys2) hp2)
      refine q p2 ys2 ls _ s5 ((s3.trans s4).free hp2) upd_same (hls.same s5) ⟨hlr, fun m => ?_⟩
      rw [hlp.mem_iff, mem_newest_snd hrise]
      exact Top.perm hperm
abbrev s_text_of : Stmt := top 7
abbrev N_text_of : List Str := ["message"]
theorem sc_text_of : FnScope N_text_of ["message"] (defScope s_text_of) := ⟨rfl, rfl, rfl, by decide +kernel, rfl, by decide +kernel, by decide +kernel⟩
theorem ok_text_of {f : Addr} {fd : FuncData} (F : Fun K "text_of" "text_of" s_text_of f fd) : FnOk P w K mg base CX0 1 f fd ["message"] (spItem 2) := by
  refine F.ok sc_text_of (fun vs H Q E h => ?_) (fun cdv A outer s H vs Q E hr h => ?_)
  · obtain ⟨a, x, y, z, rfl, _⟩ := h; rfl
  · obtain ⟨a, x, y, z, rfl, h1, q⟩ := h
    refine ⟨_, (pss_one (ps_ret (pe_ix (k_ix_tup K) (pv 0) pe_int (fun _ _ => rfl)))), ?_⟩
    exact ⟨_, rfl, a, _, 2, z, rfl, rfl, SqT.ofT h1, rfl, q⟩
abbrev s_state_of : Stmt := top 9
abbrev N_state_of : List Str := ["messages", "state", "message"]
theorem sc_state_of : FnScope N_state_of ["messages"] (defScope s_state_of) := ⟨rfl, rfl, rfl, by decide +kernel, rfl, by decide +kernel, by decide +kernel⟩
theorem ok_state_of {f : Addr} {fd : FuncData} (F : Fun K "state_of" "state_of" s_state_of f fd) (T : Txt mg) (c_last_ones : Callee P w K mg base 4 "last_ones" ["messages"] spLast) (c_topic_of : Callee P w K mg base 1 "topic_of" ["message"] (spItem 1)) (c_text_of : Callee P w K mg base 1 "text_of" ["message"] (spItem 2)) :
    FnOk P w K mg base CX0 5 f fd ["messages"] spState := by
  refine F.ok sc_state_of (fun vs H Q E h => ?_) (fun cdv A outer s H vs Q E hr h => ?_)
  · obtain ⟨a, xs, ms, rfl, _⟩ := h; rfl
  · obtain ⟨a, xs, ms, rfl, ha, hm, hlen, hd, q⟩ := h
    refine ⟨_, (pss_cons (ps_set (i := 1) sc_state_of.nd rfl (Or.inl rfl) pe_dnewK)
      (pss_cons (ps_for PassesOwn.never rfl (k_it_list K (as_fn c_last_ones (hr.mono (by decide)) (at_cons (pv 0) as_nil))) (pg_name (i := 2) sc_state_of.nd rfl (Or.inl rfl)) (pss_one (ps_dput (hu_of hr) (pv 1) (as_fn c_topic_of (hr.mono (by decide)) (at_cons (pv 2) as_nil)) (as_fn c_text_of (hr.mono (by decide)) (at_cons (pv 2) as_nil)) rfl)))
      (pss_one (ps_ret (pv 1))))), ?_⟩
    intro d hdn
    have s1 := Same.new (o := .dK []) hdn
    refine ⟨_, rfl, a, xs, ms, rfl, s1 _ _ ha, hm.same s1, hlen, hd, fun p ys ls H1 sb hpn hp hls hl => ?_⟩
    have hdp : d ≠ p := fun e => by rw [← e, upd_same] at hpn; cases hpn
    have s2 := s1.trans sb
    have htop := lasts_topics hd hl
    have hll : ls.length ≤ ms.length := by
      have nd : ls.Nodup := (List.pairwise_map.mp hl.1.diff).imp fun hne e => hne (congrArg _ e)
      exact len_sub nd fun m h => ((hl.2 m).mp h).1
    refine ⟨p, rfl, ⟨ys, SqL.ofL hp⟩, for_list (K := K) (a := p) (xs := ys) (fun i σ H2 => ∃ o, σ = [some (.ref a), some (.ref d), o] ∧ Same H H2 ∧ H2 p = some (.lst ys) ∧ H2 d = some (.dK (dS (stOf (ls.take i)))) ∧ Ms H2 ys ls)
      ⟨none, rfl, s2, hp, sb _ _ upd_same, hls⟩ (fun i σ H2 _ ⟨_, _, _, h, _⟩ => SqL.ofL h) ?_ ?_⟩
    · rintro i x σ H2 hi ⟨o, rfl, s3, h1, h2, h3⟩
      have hil : i < ls.length := by rw [← h3.len]; exact (List.getElem?_eq_some_iff.mp hi).1
      obtain ⟨c, ec, hc⟩ := h3.get hil
      rw [hi] at ec
      obtain rfl := Option.some.inj ec
      refine rd_name ?_
      have hkl : (dS (stOf (ls.take i))).length < sizeLine := by
        rw [len_dS]
        unfold stOf
        rw [List.length_map, List.length_take, sizeLine_eq]
        omega
      refine ⟨_, rfl, c, _, _, _, rfl, hc, _, rfl, _, rfl, c, _, _, _, rfl, hc, d, _, rfl, DPut.k (k := Sum.inr ls[i].t) h2 hkl, ?_⟩
      refine ⟨_, rfl, s3.put hdn, ?_, ?_, ?_⟩
      · rw [upd_ne (Ne.symm hdp)]; exact h1
      · rw [upd_same]
        have e : putK (dS (stOf (ls.take i))) (Sum.inr ls[i].t) (V.str ls[i].x) = dS (stOf (ls.take (i + 1))) := by
          rw [dS_put, putD_new, List.take_add_one, List.getElem?_eq_getElem hil]
          · unfold stOf; rw [List.map_append]; rfl
          · intro pr hpr e
            obtain ⟨m, hm, rfl⟩ := List.mem_map.mp hpr
            obtain ⟨j, hj⟩ := List.mem_iff_getElem?.mp hm
            have hji : j < i := by
              have := (List.getElem?_eq_some_iff.mp hj).1
              rw [List.length_take] at this; omega
            rw [List.getElem?_take_of_lt hji, List.getElem?_eq_getElem (by omega)] at hj
            have := (List.pairwise_iff_getElem.mp htop) j i (by rw [List.length_map]; omega) (by rw [List.length_map]; omega) hji
            rw [List.getElem_map, List.getElem_map, Option.some.inj hj] at this
            exact this e
        exact congrArg (fun z => some (HO.dK z)) e
      · have := h3.updD (o := .dK (putK (dS (stOf (ls.take i))) (Sum.inr ls[i].t) (V.str ls[i].x))) h2
        exact this
    · rintro σ H2 ⟨o, rfl, s3, h1, h2, h3⟩
      rw [h3.len, List.take_length] at h2
      exact ⟨_, rfl, q d ls _ s3 hdn h2 hl⟩
def topF (ns : List Int) (k : Int) : Str := (["a", "b", "cc", "ca", "abc"] : List Str).getD (drawnF ns k 5).toNat "a"
def spTopicF (K : PySem.W.Frag) : Sp := fun vs H Q _ => ∃ (a : Addr) (ns : List Int) (k : Int), vs = [.ref a, .int k] ∧ SqL K H a (ns.map V.int) ∧ ns.length ≤ 63 ∧ 0 ≤ k ∧ ∀ H', Same H H' → Q (.str (topF ns k)) H'
theorem tops5 : (PyData.strOk "a" = true ∧ PyData.strOk "b" = true) ∧ (PyData.strOk "cc" = true ∧ PyData.strOk "ca" = true) ∧ PyData.strOk "abc" = true := by decide +kernel
theorem top_at (ns : List Int) (k : Int) : atI [V.str "a", V.str "b", V.str "cc", V.str "ca", V.str "abc"] (drawnF ns k 5) = some (.str (topF ns k)) ∧ PyData.strOk (topF ns k) = true := by
  unfold topF
  have e0 := drawn_nn ns k (m := 5) (by decide)
  have e1 := drawn_lt ns k (m := 5) (by decide)
  generalize drawnF ns k 5 = x at e0 e1
  have hc : x = 0 ∨ x = 1 ∨ x = 2 ∨ x = 3 ∨ x = 4 := by omega
  have T := tops5
  rcases hc with rfl | rfl | rfl | rfl | rfl
  · exact ⟨rfl, T.1.1⟩
  · exact ⟨rfl, T.1.2⟩
  · exact ⟨rfl, T.2.1.1⟩
  · exact ⟨rfl, T.2.1.2⟩
  · exact ⟨rfl, T.2.2⟩
abbrev s_l_topic : Stmt := top 21
abbrev N_l_topic : List Str := ["_law_script", "_law_at"]
theorem sc_l_topic : FnScope N_l_topic ["_law_script", "_law_at"] (defScope s_l_topic) := ⟨rfl, rfl, rfl, by decide +kernel, rfl, by decide +kernel, by decide +kernel⟩
theorem ok_l_topic {f : Addr} {fd : FuncData} (F : Fun K "_law_topic" "_law_topic" s_l_topic f fd) (c_l_drawn : Callee P w K mg base 2 "_law_drawn" ["_law_script", "_law_k", "_law_many"] (spDrawn K)) : FnOk P w K mg base CX0 3 f fd ["_law_script", "_law_at"] (spTopicF K) := by
  refine F.ok sc_l_topic (fun vs H Q E h => ?_) (fun cdv A outer s H vs Q E hr h => ?_)
  · obtain ⟨a, ns, k, rfl, _⟩ := h; rfl
  · obtain ⟨a, ns, k, rfl, hS, hlen, hk, q⟩ := h
    refine ⟨_, (pss_one (ps_ret (pe_ix (k_ix_list K) (as_lst (as_cons pe_str (as_cons pe_str (as_cons pe_str (as_cons pe_str (as_cons pe_str as_nil)))))) (as_fn c_l_drawn (hr.mono (by decide)) (at_cons (pv 0) (as_cons (pv 1) (as_cons pe_int as_nil)))) (fun _ _ => rfl)))), ?_⟩
    refine ⟨(show 5 ≤ sizeLine by decide), fun l nl => ?_⟩
    have s1 := Same.new (o := .lst [.str "a", .str "b", .str "cc", .str "ca", .str "abc"]) nl
    refine ⟨_, rfl, _, rfl, a, ns, k, 5, rfl, s1.seq hS, hlen, hk, by decide, fun H2 s2 => ?_⟩
    exact ⟨l, _, _, _, rfl, rfl, SqL.ofL (s2 _ _ upd_same), (top_at ns k).1, q H2 (s1.trans s2)⟩
def GM (ns : List Int) (x : Msg) : Prop := mOk x ∧ 1 ≤ x.n ∧ x.n ≤ 1000 ∧ (∃ k, x.t = topF ns k) ∧ ∃ k, x.x = saidF ns k
def spGMsgs (K : PySem.W.Frag) : Sp := fun vs H Q _ => ∃ (a : Addr) (ns : List Int) (k m : Int), vs = [.ref a, .int k, .int m] ∧ SqL K H a (ns.map V.int) ∧ ns.length ≤ 63 ∧ 0 ≤ k ∧ 0 ≤ m ∧ m ≤ 9 ∧
  ∀ p ys ms H', Same H H' → H p = none → H' p = some (.lst ys) → Ms H' ys ms → Rise ms → (ms.length : Int) ≤ m → (∀ x ∈ ms, GM ns x) → Q (.ref p) H'
abbrev s_l_messages : Stmt := top 22
abbrev N_l_messages : List Str := ["_law_script", "_law_at", "_law_most", "_law_found", "_law_number", "_law_k"]
theorem sc_l_messages : FnScope N_l_messages ["_law_script", "_law_at", "_law_most"] (defScope s_l_messages) := ⟨rfl, rfl, rfl, by decide +kernel, rfl, by decide +kernel, by decide +kernel⟩
theorem ok_l_messages {f : Addr} {fd : FuncData} (F : Fun K "_law_messages" "_law_messages" s_l_messages f fd) (T : Txt mg) (c_l_drawn : Callee P w K mg base 2 "_law_drawn" ["_law_script", "_law_k", "_law_many"] (spDrawn K)) (c_l_said : Callee P w K mg base 3 "_law_said" ["_law_script", "_law_at"] (spSaid K)) (c_l_topic : Callee P w K mg base 3 "_law_topic" ["_law_script", "_law_at"] (spTopicF K)) :
    FnOk P w K mg base CX0 4 f fd ["_law_script", "_law_at", "_law_most"] (spGMsgs K) := by
  refine F.ok sc_l_messages (fun vs H Q E h => ?_) (fun cdv A outer s H vs Q E hr h => ?_)
  · obtain ⟨a, ns, k, m, rfl, _⟩ := h; rfl
  · obtain ⟨a, ns, k, m, rfl, hS, hlen, hk, hm, hm9, q⟩ := h
    refine ⟨_, (pss_cons (ps_set (i := 3) sc_l_messages.nd rfl (Or.inl rfl) (as_lst as_nil))
      (pss_cons (ps_set (i := 4) sc_l_messages.nd rfl (Or.inl rfl) pe_int)
      (pss_cons (ps_for PassesOwn.never rfl (pi_range1 (by rfl) T.b_range (pa_cons (as_fn c_l_drawn (hr.mono (by decide)) (at_cons (pv 0) (as_cons (pv 1) (as_cons (pe_op op_add (pv 2) pe_int) as_nil)))) pa_nil)) (pg_name (i := 5) sc_l_messages.nd rfl (Or.inl rfl)) (pss_cons (ps_set (i := 4) sc_l_messages.nd rfl (Or.inl rfl) (pe_op op_add (pe_op op_add (pv 4) pe_int) (as_fn c_l_drawn (hr.mono (by decide)) (at_cons (pv 0) (as_cons (pe_op op_add (pe_op op_add (pv 1) pe_int) (pe_op op_mul pe_int (pv 5))) (as_cons pe_int as_nil))))))
      (pss_one (ps_expr (k_bm K PySem.F.plainAttrs_list PySem.F.slot_list_append PySem.F.type_list_append mt_append (pv 3) (pa_cons (as_tup (as_cons (pv 4) (as_cons (as_fn c_l_topic (hr.mono (by decide)) (at_cons (pv 0) (as_cons (pe_op op_add (pe_op op_add (pv 1) pe_int) (pe_op op_mul pe_int (pv 5))) as_nil))) (as_cons (as_fn c_l_said (hr.mono (by decide)) (at_cons (pv 0) (as_cons (pe_op op_add (pe_op op_add (pv 1) pe_int) (pe_op op_mul pe_int (pv 5))) as_nil))) as_nil)))) pa_nil))))))
      (pss_one (ps_ret (pv 3)))))), ?_⟩
    refine ⟨Nat.zero_le _, fun g hg => ?_⟩
    have s1 := Same.new (o := .lst []) hg
    refine ⟨_, rfl, _, rfl, _, rfl, _, _, rfl, rfl, a, ns, k, m + 1, rfl, s1.seq hS, hlen, hk, by omega, fun H1 s2 => ?_⟩
    have d0 := drawn_nn ns k (m := m + 1) (by omega)
    have d1 := drawn_lt ns k (m := m + 1) (by omega)
    have hg1 : H1 g = some (.lst []) := s2 _ _ upd_same
    refine ⟨_, rfl, by omega, by omega, for_range (lo := 0) (n := (drawnF ns k (m + 1)).toNat) (fun i σ H2 => ∃ (o2 : Option V) (nb : Int) (ys : List V) (ms : List Msg), σ = [some (.ref a), some (.int k), some (.int m), some (.ref g), some (.int nb), o2] ∧ Same H H2 ∧ H2 g = some (.lst ys) ∧ Ms H2 ys ms ∧ Rise ms ∧ ms.length = i ∧ (∀ x ∈ ms, GM ns x) ∧ 0 ≤ nb ∧ nb ≤ 3 * (i : Int) ∧ ∀ x ∈ ms, x.n ≤ nb)
      ⟨none, 0, [], [], rfl, s1.trans s2, hg1, Ms.nil, Rise.nil, rfl, (fun _ h => nomatch h), Int.le_refl _, by omega, fun _ h => nomatch h⟩ ?_ ?_⟩
    · rintro i σ H2 hi ⟨o2, nb, ys, ms, rfl, s3, h1, h2, h3, h4, h5, h6, h7, h8⟩
      refine rd_name ?_
      have e0 := drawn_nn ns (k + 1 + 10 * (0 + (i : Int))) (m := 3) (by decide)
      have e1 := drawn_lt ns (k + 1 + 10 * (0 + (i : Int))) (m := 3) (by decide)
      refine ⟨_, rfl, _, _, rfl, rfl, _, rfl, _, rfl, _, _, rfl, rfl, _, rfl, _, _, rfl, rfl, .inl ⟨by decide, by decide⟩, _, _, rfl, rfl, a, ns, _, 3, rfl, s3.seq hS, hlen, by omega, by decide, fun H3 s5 => ⟨_, _, rfl, rfl, ?_⟩⟩
      generalize drawnF ns (k + 1 + 10 * (0 + (i : Int))) 3 = dr at e0 e1 ⊢
      refine ⟨_, rfl, .inl ⟨rfl, _, SqL.ofL (s5 _ _ h1)⟩, _, rfl, _, rfl, _, rfl, _, _, rfl, rfl, _, rfl, _, _, rfl, rfl, .inl ⟨by decide, by decide⟩, _, _, rfl, rfl, a, ns, _, rfl, (s3.trans s5).seq hS, hlen, by omega, fun H4 s6 => ?_⟩
      refine ⟨_, rfl, _, rfl, _, _, rfl, rfl, _, rfl, _, _, rfl, rfl, .inl ⟨by decide, by decide⟩, _, _, rfl, rfl, a, ns, _, rfl, ((s3.trans s5).trans s6).seq hS, hlen, by omega, fun H5 s7 => ⟨(show 3 ≤ sizeLine by decide), fun c hc => ?_⟩⟩
      have s8 := Same.new (o := .tup [.int (nb + 1 + dr), .str (topF ns (k + 2 + 10 * (0 + (i : Int)))), .str (saidF ns (k + 3 + 10 * (0 + (i : Int))))]) hc
      have s9 := ((s5.trans s6).trans s7).trans s8
      have h1' := s9 _ _ h1
      have hyl := h2.len
      refine ⟨g, ys, .ref c, rfl, rfl, h1', by rw [sizeLine_eq]; omega, ?_⟩
      refine ⟨_, _, ys ++ [.ref c], ms ++ [⟨nb + 1 + dr, topF ns (k + 2 + 10 * (0 + (i : Int))), saidF ns (k + 3 + 10 * (0 + (i : Int)))⟩], rfl, (s3.trans s9).put hg, upd_same, ?_, ?_, ?_, ?_, by omega, by omega, ?_⟩
      · exact (Ms.updL h1' (h2.same s9)).append (Ms.updL h1' (Ms.one upd_same))
      · refine List.pairwise_append.mpr ⟨h3, List.pairwise_singleton _ _, fun x hx y hy => ?_⟩
        rw [List.mem_singleton] at hy
        have := h8 x hx
        rw [hy]; show x.n < nb + 1 + dr; omega
      · rw [List.length_append, List.length_singleton, h4]
      · intro x hx
        rcases List.mem_append.mp hx with hx | hx
        · exact h5 x hx
        · rw [List.mem_singleton.mp hx]
          exact ⟨⟨(top_at ns _).2, said_ok ns _⟩, by show 1 ≤ nb + 1 + dr; omega, by show nb + 1 + dr ≤ 1000; omega, ⟨_, rfl⟩, ⟨_, rfl⟩⟩
      · intro x hx
        rcases List.mem_append.mp hx with hx | hx
        · have := h8 x hx; omega
        · rw [List.mem_singleton.mp hx]; exact Int.le_refl _
    · rintro σ H2 ⟨o2, nb, ys, ms, rfl, s3, h1, h2, h3, h4, h5, h6, h7, h8⟩
      exact ⟨_, rfl, q g ys ms _ s3 hg h1 h2 h3 (by omega) h5⟩
abbrev s_by_numbers : Stmt := top 11
abbrev N_by_numbers : List Str := ["rows", "known", "row", "message"]
theorem sc_by_numbers : FnScope N_by_numbers ["rows"] (defScope s_by_numbers) := ⟨rfl, rfl, rfl, by decide +kernel, rfl, by decide +kernel, by decide +kernel⟩
theorem okx_by_numbers {f CO : Addr} {fd : FuncData} (F : Fun K "by_numbers" "by_numbers" s_by_numbers f fd) (x_Other : Exc K mg "Other" CO) (c_number_of : Callee P w K mg base 1 "number_of" ["message"] (spItem 0)) : FnOk P w K mg base (CXF P w) 2 f fd ["rows"] (spByX CO) := by
  refine F.okX sc_by_numbers (fun vs H Q E h => ?_) (fun cdv A outer s0 H vs Q E hr h => ?_)
  · obtain ⟨l, rows, rfl, _⟩ := h; rfl
  · obtain ⟨l, rows, rfl, ⟨ys, hl, hys⟩, hrl, hrr, okm, qq⟩ := h
    refine ⟨_, (pss_cons (ps_set (i := 1) sc_by_numbers.nd rfl (Or.inl rfl) pe_dnewK)
      (pss_cons (ps_for PassesOwn.leaving rfl (k_it_list K (pv 0)) (pg_name (i := 2) sc_by_numbers.nd rfl (Or.inl rfl)) (pss_one (ps_for PassesOwn.leaving rfl (k_it_list K (pv 2)) (pg_name (i := 3) sc_by_numbers.nd rfl (Or.inl rfl)) (pss_one (ps_if (pt_cmpR (op_neD hr.units) (pe_dsetd (pv 1) (as_fn c_number_of (hr.mono (by decide)) (at_cons (pv 3) as_nil)) (pv 3) ⟨rfl, rfl, rfl, rfl⟩) (pv 3) (nomark _)) (pss_one (ps_raise x_Other (at_cons pe_str as_nil))) pss_nil)))))
      (pss_one (ps_ret (pv 1))))), ?_⟩
    intro kn hkn
    have s1 := Same.new (o := .dK []) hkn
    have hyl : ys.length = rows.length := by have := hys.length; rwa [List.length_map] at this
    have hbig : ∀ n, n ≤ 20 → ∀ l : List (List Msg), l.length = n → (∀ r ∈ l, r.length ≤ 20) → l.flatten.length ≤ 20 * n := by
      intro n _ l
      induction l generalizing n with
      | nil => intro h _; subst h; exact Nat.le_refl _
      | cons r l ih =>
        intro h hh
        subst h
        rename_i hn
        have := ih l.length (by simp at hn; omega) rfl fun r hr => hh r (List.mem_cons_of_mem _ hr)
        have := hh r List.mem_cons_self
        rw [List.flatten_cons, List.length_append, List.length_cons]; omega
    refine ⟨_, rfl, l, rfl, ⟨ys, SqL.ofL (s1 _ _ hl)⟩, for_list (K := K) (a := l) (xs := ys) (fun i σ H' => ∃ (o2 o3 : Option V) (kv : List (Key × V)) (ms : List Msg), σ = [some (.ref l), some (.ref kn), o2, o3] ∧ H' kn = some (.dK kv) ∧ DI H' kv ms ∧ Diff ms ∧ (∀ m, m ∈ ms ↔ m ∈ (rows.take i).flatten) ∧ ms.length ≤ 20 * i ∧ Same H H')
      ⟨none, none, [], [], rfl, upd_same, .nil, List.nodup_nil, fun m => by simp, Nat.zero_le _, s1⟩ (fun i σ H' _ ⟨_, _, _, _, _, _, _, _, _, _, sH⟩ => SqL.ofL (sH _ _ hl)) ?_ ?_⟩
    · rintro i y σ H' hi ⟨o2, o3, kv, ms, rfl, hk, dI, dF, hmem, hml, sH⟩
      have hil : i < rows.length := by rw [← hyl]; exact (List.getElem?_eq_some_iff.mp hi).1
      obtain ⟨c, xs, ec, hc, hM⟩ := row_at hys hil
      rw [hi] at ec
      obtain rfl := Option.some.inj ec
      have hri : rows[i] ∈ rows := List.getElem_mem hil
      have hrl2 := hrr _ hri
      have hsub : ∀ m ∈ rows[i], m ∈ rows.flatten := fun m hm => List.mem_flatten.mpr ⟨_, hri, hm⟩
      have hsub0 : ∀ m, m ∈ (rows.take i).flatten → m ∈ rows.flatten := fun m hm => by
        obtain ⟨r, hr, hm⟩ := List.mem_flatten.mp hm
        exact List.mem_flatten.mpr ⟨r, List.mem_of_mem_take hr, hm⟩
      have hxl := hM.len
      generalize hrow : rows[i] = row at hM hrl2 hsub hxl
      refine rd_name ?_
      refine ⟨_, rfl, c, rfl, ⟨xs, SqL.ofL (sH _ _ hc)⟩, for_list (K := K) (a := c) (xs := xs) (fun j σ H2 => ∃ (o3 : Option V) (kv : List (Key × V)) (ms : List Msg), σ = [some (.ref l), some (.ref kn), some (.ref c), o3] ∧ H2 kn = some (.dK kv) ∧ DI H2 kv ms ∧ Diff ms ∧ (∀ m, m ∈ ms ↔ m ∈ (rows.take i).flatten ∨ m ∈ row.take j) ∧ ms.length ≤ 20 * i + j ∧ Same H H2)
        ⟨_, kv, ms, rfl, hk, dI, dF, fun m => by rw [hmem m]; simp, by omega, sH⟩ (fun j σ H2 _ ⟨_, _, _, _, _, _, _, _, _, sH2⟩ => SqL.ofL (sH2 _ _ hc)) ?_ ?_⟩
      · rintro j y σ H2 hj ⟨o3, kv, ms, rfl, hk, dI, dF, hmem, hml, sH2⟩
        have hjl : j < row.length := by rw [← hxl]; exact (List.getElem?_eq_some_iff.mp hj).1
        obtain ⟨cm, ecm, hcm⟩ := (hM.same sH2).get hjl
        rw [hj] at ecm
        obtain rfl := Option.some.inj ecm
        have hmr : row[j] ∈ row := List.getElem_mem hjl
        have hmf := hsub _ hmr
        have hms : ∀ m ∈ ms, m ∈ rows.flatten := fun m hm => by
          rcases (hmem m).mp hm with z | z
          · exact hsub0 m z
          · exact hsub m (List.mem_of_mem_take z)
        have htk : ∀ m, (m ∈ (rows.take i).flatten ∨ m ∈ row.take j) ∨ m = row[j] ↔ m ∈ (rows.take i).flatten ∨ m ∈ row.take (j + 1) := fun m => by
          rw [List.take_add_one, List.getElem?_eq_getElem hjl]
          simp only [Option.toList_some, List.mem_append, List.mem_singleton, or_assoc]
        generalize row[j] = m at hcm hmr hmf htk
        refine rd_name ?_
        refine ⟨_, rfl, kn, rfl, .inl ⟨kv, .inl hk⟩, _, rfl, cm, _, _, _, rfl, hcm, ?_⟩
        refine ⟨_, rfl, kv, Sum.inl m.n, hk, rfl, by rw [dI.len, sizeLine_eq]; omega, fun v hv => ?_, fun hv => ?_⟩
        · cases e : findN ms m.n with
          | none => rw [dI.none _ e] at hv; cases hv
          | some x =>
            obtain ⟨c', h1, h2⟩ := dI.some _ e
            rw [h1] at hv
            obtain rfl := Option.some.inj hv
            obtain ⟨hx, hn⟩ := findN_some e
            refine ⟨_, rfl, _, _, msg_has h2, msg_has hcm, shaped_m (okm x (hms x hx)), shaped_m (okm m hmf), _, rfl, ?_⟩
            rw [eqv_m]
            by_cases hxm : x = m
            · rw [decide_eq_true hxm]
              refine iteF ?_
              refine ⟨_, kv, ms, rfl, hk, dI, dF, fun k => ?_, by omega, sH2⟩
              rw [← htk k, ← hmem k]
              refine ⟨.inl, ?_⟩
              rintro (z | z)
              · exact z
              · rw [z, ← hxm]; exact hx
            · rw [decide_eq_false hxm]
              rcases qq with ⟨ag, _⟩ | ⟨_, q⟩
              · exact absurd (ag x (hms x hx) m hmf hn) hxm
              · exact iteT ⟨(show 1 ≤ sizeLine by decide), q _ sH2⟩
        · have hno : findN ms m.n = none := by
            cases e : findN ms m.n with
            | none => rfl
            | some x =>
              obtain ⟨c', h1, _⟩ := dI.some _ e
              rw [h1] at hv; cases hv
          have hnn := findN_none.mp hno
          have st := Stp.put (ps := [kn]) (o := .dK (putK kv (Sum.inl m.n) (.ref cm))) hk (fun _ z => by cases z) (by simp)
          have hcm' := st.tup _ _ hcm
          have hpl : (putM ms m).length ≤ ms.length + 1 := putM_len
          have hpp : ∀ x ∈ ms, x.n = m.n → x = m := fun x hx e => absurd e (hnn x hx)
          refine ⟨_, rfl, ne_D (msg_has hcm') (msg_has hcm') (shaped_m (okm m hmf)) ⟨_, rfl, iteF ?_⟩⟩
          refine ⟨_, _, putM ms m, rfl, upd_same, (dI.put (msg_has hcm)).tups st.tup, putM_diff hpp dF, fun k => ?_, by omega, fun z o hz => st.keep (sH2 z o hz) (by simp [ne_of_none hz hkn])⟩
          rw [putM_mem hpp, ← htk k, hmem k]
      · rintro σ H2 ⟨o3, kv, ms, rfl, hk, dI, dF, hmem, hml, sH2⟩
        refine ⟨_, _, kv, ms, rfl, hk, dI, dF, fun m => ?_, by omega, sH2⟩
        rw [hmem m, hxl, List.take_length, List.take_add_one, List.getElem?_eq_getElem hil, hrow]
        simp
    · rintro σ H' ⟨o2, o3, kv, ms, rfl, hk, dI, dF, hmem, hml, sH⟩
      rw [hyl, List.take_length] at hmem
      have ag : Agree rows.flatten := fun m hm k hk e => dF.eq ((hmem m).mpr hm) ((hmem k).mpr hk) e
      rcases qq with ⟨_, q⟩ | ⟨nag, _⟩
      · exact ⟨_, rfl, q kn kv ms H' sH hkn hk dI dF hmem⟩
      · exact absurd ag nag
theorem hasL_mapf {H : Hp} {w : List Msg} {f : Msg → V} (h : ∀ m ∈ w, Has H (f m) (mD m)) : Ms H (w.map f) w := by
  unfold Ms
  induction w with
  | nil => exact hasL_nil
  | cons m r ih => exact hasL_cons (h m List.mem_cons_self) (ih fun k hk => h k (List.mem_cons_of_mem _ hk))
abbrev s_put_together : Stmt := top 12
abbrev N_put_together : List Str := ["rows", "known"]
theorem sc_put_together : FnScope N_put_together ["rows"] (defScope s_put_together) := ⟨rfl, rfl, rfl, by decide +kernel, rfl, by decide +kernel, by decide +kernel⟩
theorem okx_put_together {f CO : Addr} {fd : FuncData} (F : Fun K "put_together" "put_together" s_put_together f fd) (T : Txt mg) (cx_by_numbers : CalleeX P w K mg base 2 "by_numbers" ["rows"] (spByX CO)) : FnOk P w K mg base (CXF P w) 3 f fd ["rows"] (spPutX CO) := by
  refine F.okX sc_put_together (fun vs H Q E h => ?_) (fun cdv A outer s0 H vs Q E hr h => ?_)
  · obtain ⟨l, rows, rfl, _⟩ := h; rfl
  · obtain ⟨l, rows, rfl, hR, hrl, hrr, okm, qq⟩ := h
    refine ⟨_, (pss_cons (ps_set (i := 1) sc_put_together.nd rfl (Or.inr rfl) (as_fnX cx_by_numbers (hr.mono (by decide)) pass_on (at_cons (pv 0) as_nil)))
      (pss_one (ps_ret (pe_comp (N' := ["number", "known"]) (ix := [none, some 1]) (own := [0]) rfl (cs_of (osc := defScope s_put_together) (ON := N_put_together) rfl rfl (by decide +kernel)) (by decide) (k_it_list K (as_callB (k_sortI K rfl) (by rfl) T.b_sorted PyProof.Rows.boot_sorted (at_cons (pv 1) as_nil))) (fun _ _ _ _ => (pg_name (i := 0) (show (["number", "known"] : List Str).Nodup by decide +kernel) rfl (Or.inl rfl))) own_name (fun _ _ _ _ => pifs_nil) (fun _ _ _ _ => (pe_dget (hu_of hr) (pv 1) (pv 0) (fun _ _ => rfl))))))), ?_⟩
    refine ⟨_, rfl, l, rows, rfl, hR, hrl, hrr, okm, ?_⟩
    rcases qq with ⟨wh, hW, hw64, q⟩ | qq
    case inr => exact .inr qq
    refine .inl ⟨hW.agree, fun p kvs ms H1 s1 np ep dI dF hmem => ?_⟩
    have hkeys := dI.keys
    have hmw : ∀ m, m ∈ ms ↔ m ∈ wh := fun m => (hmem m).trans (hW.mem m).symm
    have hlw : ms.length ≤ wh.length := by
      have h1 : (ms.map (·.n)).length ≤ (wh.map (·.n)).length := List.Nodup.length_le_of_subset dF fun n hn => by
        obtain ⟨m, hm, rfl⟩ := List.mem_map.mp hn
        exact List.mem_map.mpr ⟨m, (hmw m).mp hm, rfl⟩
      rwa [List.length_map, List.length_map] at h1
    refine rd_name ?_
    refine ⟨_, rfl, .ref p, ms.map (·.n), rfl, .inr ⟨p, kvs, rfl, ep, hkeys⟩, by rw [List.length_map]; omega, fun ps nps => ?_⟩
    have es : PySem.W.sortI (ms.map (·.n)) = wh.map (·.n) := sortI_set dF (fun n => by
      rw [List.mem_map, List.mem_map]
      exact ⟨fun ⟨m, hm, e⟩ => ⟨m, (hmw m).mp hm, e⟩, fun ⟨m, hm, e⟩ => ⟨m, (hmw m).mpr hm, e⟩⟩) (List.pairwise_map.mpr hW.ri)
    rw [es]
    have s2 := Same.new (o := .lst ((wh.map (·.n)).map V.int)) nps
    have e2 : upd H1 ps (.lst ((wh.map (·.n)).map V.int)) ps = some (.lst ((wh.map (·.n)).map V.int)) := upd_same
    generalize upd H1 ps (.lst ((wh.map (·.n)).map V.int)) = H2 at s2 e2 ⊢
    have k2 : ∀ H', Same H2 H' → SqL K H' ps ((wh.map (·.n)).map V.int) := fun H' s' => SqL.ofL (s' _ _ e2)
    have lv : (wh.map fun m => (valV kvs (Sum.inl m.n)).getD .non).length = ((wh.map (·.n)).map V.int).length := by simp
    refine ⟨ps, rfl, ⟨_, k2 _ (Same.refl _)⟩, ((wh.map (·.n)).map V.int).length, GMap H2 (wh.map fun m => (valV kvs (Sum.inl m.n)).getD .non), ?_, GMap.zero, GMap.step k2 lv ?_, fun ys H3 hG => ?_⟩
    · simp only [List.length_map]; rw [sizeLine_eq]; omega
    · intro i x v H3 R N hx hv s3 hR'
      rw [List.getElem?_map, List.getElem?_map] at hx
      rw [List.getElem?_map] at hv
      cases hi : wh[i]? with
      | none => rw [hi] at hx; cases hx
      | some m =>
        rw [hi] at hx hv
        obtain rfl := Option.some.inj hx
        obtain rfl := Option.some.inj hv
        refine rd_name (rd_yes (iteT ?_))
        have hmm : m ∈ ms := (hmw m).mpr (List.mem_of_getElem? hi)
        obtain ⟨c', h1, h2⟩ := dI.some _ (findN_mem dF hmm)
        have hg := DGet.k (k := Sum.inl m.n) ((s2.trans s3) _ _ ep)
        have hR2 : R ((valV kvs (Sum.inl m.n)).getD V.non) H3 := hR' H3 s3
        rw [h1] at hg hR2
        exact ⟨_, rfl, _, rfl, p, _, rfl, hg, hR2⟩
    · obtain ⟨st, s3, rfl⟩ := GMap.done k2 lv hG
      refine ⟨st, fun D hD => ?_⟩
      have s4 := Same.new (o := .lst (wh.map fun m => (valV kvs (Sum.inl m.n)).getD .non)) hD
      have s0 := (s1.trans s2).trans s3
      refine q D _ _ (s0.trans s4) (Same.free s0 hD) upd_same (Ms.same (hasL_mapf fun m hm => ?_) s4)
      obtain ⟨c', h1, h2⟩ := dI.some _ (findN_mem dF ((hmw m).mpr hm))
      rw [h1]
      exact msg_has ((s2.trans s3) _ _ h2)
abbrev s_lacking : Stmt := top 13
abbrev N_lacking : List Str := ["rows", "known"]
theorem sc_lacking : FnScope N_lacking ["rows"] (defScope s_lacking) := ⟨rfl, rfl, rfl, by decide +kernel, rfl, by decide +kernel, by decide +kernel⟩
theorem okx_lacking {f CO : Addr} {fd : FuncData} (F : Fun K "lacking" "lacking" s_lacking f fd) (T : Txt mg) (cx_by_numbers : CalleeX P w K mg base 2 "by_numbers" ["rows"] (spByX CO)) : FnOk P w K mg base (CXF P w) 3 f fd ["rows"] (spLackX CO) := by
  refine F.okX sc_lacking (fun vs H Q E h => ?_) (fun cdv A outer s0 H vs Q E hr h => ?_)
  · obtain ⟨l, rows, rfl, _⟩ := h; rfl
  · obtain ⟨l, rows, rfl, hR, hrl, hrr, okm, qq⟩ := h
    refine ⟨_, (pss_cons (ps_set (i := 1) sc_lacking.nd rfl (Or.inr rfl) (as_fnX cx_by_numbers (hr.mono (by decide)) pass_on (at_cons (pv 0) as_nil)))
      (pss_one (ps_ret (pe_compX (N' := ["row", "known"]) (ix := [none, some 1]) (own := [0]) rfl (cs_of (osc := defScope s_lacking) (ON := N_lacking) rfl rfl (by decide +kernel)) (by decide) (k_it_list K (pv 0)) (fun _ _ _ _ => (pg_name (i := 0) (show (["row", "known"] : List Str).Nodup by decide +kernel) rfl (Or.inl rfl))) own_name (fun _ _ _ _ => pifs_nil) (fun _ _ _ _ => (as_callB (k_sortS P w rfl) (by rfl) T.b_sorted PyProof.Rows.boot_sorted (at_cons (pe_op (k_subS P w) (as_callTy (k_setD P w) (by rfl) T.b_set PyProof.Rows.boot_set (at_cons (pv 1) as_nil)) (as_callTy (k_setD P w) (by rfl) T.b_set PyProof.Rows.boot_set (at_cons (as_fnX cx_by_numbers (hr.mono (by decide)) pass_blk (at_cons (as_lst (as_cons (pv 0) as_nil)) as_nil)) as_nil))) as_nil))) passF_on)))), ?_⟩
    refine ⟨_, rfl, l, rows, rfl, hR, hrl, hrr, okm, ?_⟩
    rcases qq with ⟨wh, hW, hw11, q⟩ | qq
    case inr => exact .inr qq
    refine .inl ⟨hW.agree, fun p kvs ms H1 s1 np ep dI dF hmem => ?_⟩
    have hkeys := dI.keys
    have hmw : ∀ m, m ∈ ms ↔ m ∈ wh := fun m => (hmem m).trans (hW.mem m).symm
    have hlw : ms.length ≤ wh.length := by
      have h1 : (ms.map (·.n)).length ≤ (wh.map (·.n)).length := List.Nodup.length_le_of_subset dF fun n hn => by
        obtain ⟨m, hm, rfl⟩ := List.mem_map.mp hn
        exact List.mem_map.mpr ⟨m, (hmw m).mp hm, rfl⟩
      rwa [List.length_map, List.length_map] at h1
    have hkl : kvs.length ≤ 11 := by rw [dI.len]; omega
    obtain ⟨ys, hl, hys⟩ := hR.same s1
    have hyl : ys.length = rows.length := by have := hys.length; rwa [List.length_map] at this
    refine rd_name ?_
    refine ⟨_, rfl, l, rfl, ⟨ys, SqL.ofL hl⟩, ys.length, fun i zs H' => Same H1 H' ∧ HasL H' zs ((rows.take i).map fun r => intsD (lackF wh r)) ∧ ∀ y ∈ zs, ∀ c, y = .ref c → H1 c = none, by rw [sizeLine_eq]; omega, ⟨Same.refl _, hasL_nil, fun _ h => nomatch h⟩, ?_, fun zs H3 hG => ?_⟩
    · rintro i zs H2 hi ⟨s2, hz, hn⟩
      have hil : i < rows.length := by omega
      obtain ⟨c, xs, ec, hc, hM⟩ := row_at hys hil
      refine ⟨⟨ys, _, SqL.ofL (s2 _ _ hl), ec⟩, ?_⟩
      rintro x H3 ⟨rfl, hx⟩
      have hx' := hx _ (SqL.ofL (s2 _ _ hl))
      rw [ec] at hx'
      obtain rfl := Option.some.inj hx'
      refine rd_name (rd_yes (iteT ?_))
      have hri : rows[i] ∈ rows := List.getElem_mem hil
      have hsub : ∀ m ∈ rows[i], m ∈ rows.flatten := fun m hm => List.mem_flatten.mpr ⟨_, hri, hm⟩
      have hrl2 := hrr _ hri
      generalize hrow : rows[i] = row at hM hsub hrl2
      refine ⟨_, rfl, p, kvs, rfl, s2 _ _ ep, hkl, fun pa npa => ?_⟩
      rw [hkeys]
      have t1 := Same.new (o := SetO P w pa ((ms.map (·.n)).map Sum.inl)) npa
      have ea : upd H3 pa (SetO P w pa ((ms.map (·.n)).map Sum.inl)) pa = some (SetO P w pa ((ms.map (·.n)).map Sum.inl)) := upd_same
      generalize upd H3 pa (SetO P w pa ((ms.map (·.n)).map Sum.inl)) = H4 at t1 ea ⊢
      refine ⟨_, rfl, (show 1 ≤ sizeLine by decide), fun lr nlr => ?_⟩
      have t2 := Same.new (o := .lst [.ref c]) nlr
      have er : upd H4 lr (.lst [.ref c]) lr = some (.lst [.ref c]) := upd_same
      generalize upd H4 lr (.lst [.ref c]) = H5 at t2 er ⊢
      have s5 := (s2.trans t1).trans t2
      have hfl : [row].flatten = row := by simp
      refine ⟨lr, [row], rfl, ⟨[.ref c], er, hasL_cons (has_lst (s5 _ _ hc) (hM.same s5)) hasL_nil⟩, (show 1 ≤ 20 by decide), (fun r hr => by rw [List.mem_singleton.mp hr]; exact hrl2), (fun m hm => okm m (hsub m (by rw [hfl] at hm; exact hm))), .inl ⟨?_, fun p2 kv2 ms2 H6 s6 np2 ep2 dI2 dF2 hm2 => ?_⟩⟩
      · rw [hfl]; exact fun m hm k hk e => hW.agree m (hsub m hm) k (hsub k hk) e
      rw [hfl] at hm2
      have hl2 : ms2.length ≤ 11 := by
        have h1 : (ms2.map (·.n)).length ≤ (wh.map (·.n)).length := List.Nodup.length_le_of_subset dF2 fun n hn => by
          obtain ⟨m, hm, rfl⟩ := List.mem_map.mp hn
          exact List.mem_map.mpr ⟨m, (hW.mem m).mpr (hsub m ((hm2 m).mp hm)), rfl⟩
        rw [List.length_map, List.length_map] at h1
        omega
      refine ⟨p2, kv2, rfl, ep2, by rw [dI2.len]; exact hl2, fun pb npb => ?_⟩
      rw [dI2.keys]
      have t3 := Same.new (o := SetO P w pb ((ms2.map (·.n)).map Sum.inl)) npb
      have eb : upd H6 pb (SetO P w pb ((ms2.map (·.n)).map Sum.inl)) pb = some (SetO P w pb ((ms2.map (·.n)).map Sum.inl)) := upd_same
      generalize upd H6 pb (SetO P w pb ((ms2.map (·.n)).map Sum.inl)) = H7 at t3 eb ⊢
      refine ⟨pa, pb, ms.map (·.n), ms2.map (·.n), rfl, rfl, ((t2.trans s6).trans t3) _ _ ea, eb, by rw [List.length_map]; omega, fun pc npc => ?_⟩
      have hll : ((ms.map (·.n)).filter fun n => !decide (n ∈ ms2.map (·.n))).length < 64 := Nat.lt_of_le_of_lt (List.length_filter_le _ _) (by rw [List.length_map]; omega)
      have hfm : ∀ n, n ∈ ((ms.map (·.n)).filter fun n => !decide (n ∈ ms2.map (·.n))) ↔ n ∈ lackF wh row := fun n => by
        rw [List.mem_filter, lackF_mem]
        refine and_congr ?_ ?_
        · rw [List.mem_map]
          exact ⟨fun ⟨m, hm, e⟩ => ⟨m, (hmw m).mp hm, e⟩, fun ⟨m, hm, e⟩ => ⟨m, (hmw m).mpr hm, e⟩⟩
        · have hh : hasN row n = true ↔ n ∈ ms2.map (·.n) := by
            rw [hasN_iff, List.mem_map]
            exact ⟨fun ⟨m, hm, e⟩ => ⟨m, (hm2 m).mpr hm, e⟩, fun ⟨m, hm, e⟩ => ⟨m, (hm2 m).mp hm, e⟩⟩
          cases hb : hasN row n with
          | false => simp; exact fun x hx e => absurd (hh.mpr (List.mem_map.mpr ⟨x, hx, e⟩)) (by rw [hb]; simp)
          | true => simp; simpa using hh.mp hb
      generalize ((ms.map (·.n)).filter fun n => !decide (n ∈ ms2.map (·.n))) = dn at hll hfm ⊢
      have t4 := Same.new (o := SetO P w pc (dn.map Sum.inl)) npc
      have e4 : upd H7 pc (SetO P w pc (dn.map Sum.inl)) pc = some (SetO P w pc (dn.map Sum.inl)) := upd_same
      generalize upd H7 pc (SetO P w pc (dn.map Sum.inl)) = H8 at t4 e4 ⊢
      refine ⟨pc, dn, rfl, e4, hll, fun pd msd npd nd hmd => ?_⟩
      have es : PySem.W.sortI msd = lackF wh row := sortI_set nd (fun n => (hmd n).trans (hfm n)) (lackF_rise hW.ri)
      rw [es]
      have t5 := Same.new (o := .lst ((lackF wh row).map V.int)) npd
      have s9 := ((((t1.trans t2).trans s6).trans t3).trans t4).trans t5
      refine ⟨s2.trans s9, ?_, fun y hy cc e => ?_⟩
      · rw [List.take_add_one, List.getElem?_eq_getElem hil, hrow, List.map_append]
        exact (hz.same s9).append (hasL_cons (has_lst upd_same (hasL_ints _)) hasL_nil)
      · rcases List.mem_append.mp hy with hy | hy
        · exact hn y hy cc e
        · rw [List.mem_singleton.mp hy] at e
          injection e with e
          rw [← e]
          exact Same.free (s2.trans ((((t1.trans t2).trans s6).trans t3).trans t4)) npd
    · obtain ⟨s2, hz, hn⟩ := hG
      rw [hyl, List.take_length] at hz
      refine ⟨⟨ys, SqL.ofL (s2 _ _ hl), Nat.le_refl _⟩, fun D hD => ?_⟩
      have s4 := Same.new (o := .lst zs) hD
      exact q D zs _ ((s1.trans s2).trans s4) (Same.free (s1.trans s2) hD) upd_same (hz.same s4) fun y hy c e => Same.free s1 (hn y hy c e)
theorem hasL_int {H : Hp} : ∀ {ns : List Int} {xs : List V}, HasL H xs (ns.map PyData.int) → xs = ns.map V.int
  | [], xs, h => by unfold HasL at h; exact h
  | n :: r, xs, h => by
    rw [List.map_cons] at h
    unfold HasL at h
    obtain ⟨x, ys, rfl, hx, hy⟩ := h
    unfold Has at hx
    rw [hx, hasL_int hy]; rfl
abbrev s_common : Stmt := top 14
abbrev N_common : List Str := ["rows", "lacked", "numbers", "number"]
theorem sc_common : FnScope N_common ["rows"] (defScope s_common) := ⟨rfl, rfl, rfl, by decide +kernel, rfl, by decide +kernel, by decide +kernel⟩
theorem okx_common {f CO : Addr} {fd : FuncData} (F : Fun K "common" "common" s_common f fd) (T : Txt mg) (c_number_of : Callee P w K mg base 1 "number_of" ["message"] (spItem 0)) (cx_put_together : CalleeX P w K mg base 3 "put_together" ["rows"] (spPutX CO)) (cx_lacking : CalleeX P w K mg base 3 "lacking" ["rows"] (spLackX CO)) : FnOk P w K mg base (CXF P w) 4 f fd ["rows"] (spComX CO) := by
  refine F.okX sc_common (fun vs H Q E h => ?_) (fun cdv A outer s0 H vs Q E hr h => ?_)
  · obtain ⟨l, rows, rfl, _⟩ := h; rfl
  · obtain ⟨l, rows, rfl, hR, hrl, hrr, okm, qq⟩ := h
    refine ⟨_, (pss_cons (ps_set (i := 1) sc_common.nd rfl (Or.inr rfl) pe_dnewK)
      (pss_cons (ps_for PassesOwn.leaving rfl (k_it_list K (as_fnX cx_lacking (hr.mono (by decide)) pass_on (at_cons (pv 0) as_nil))) (pg_name (i := 2) sc_common.nd rfl (Or.inl rfl)) (pss_one (ps_for PassesOwn.leaving rfl (k_it_list K (pv 2)) (pg_name (i := 3) sc_common.nd rfl (Or.inl rfl)) (pss_one (ps_dput (hu_of hr) (pv 1) (pv 3) pe_bl rfl)))))
      (pss_one (ps_ret (pe_comp (N' := ["message", "lacked"]) (ix := [none, some 1]) (own := [0]) rfl (cs_of (osc := defScope s_common) (ON := N_common) rfl rfl (by decide +kernel)) (by decide) (k_it_list K (as_fnX cx_put_together (hr.mono (by decide)) pass_on (at_cons (pv 0) as_nil))) (fun _ _ _ _ => (pg_name (i := 0) (show (["message", "lacked"] : List Str).Nodup by decide +kernel) rfl (Or.inl rfl))) own_name (fun _ _ _ _ => (pifs_one (pt_cmp (pc_dnotin (hu_of hr) (as_fn c_number_of (hr.mono (by decide)) (at_cons (pv 0) as_nil)) (pv 1))))) (fun _ _ _ _ => (pv 0))))))), ?_⟩
    intro d nd
    have s1 := Same.new (o := .dK []) nd
    have ed : upd H d (.dK []) d = some (.dK []) := upd_same
    generalize upd H d (.dK []) = H1 at s1 ed ⊢
    refine ⟨_, rfl, l, rows, rfl, hR.same s1, hrl, hrr, okm, ?_⟩
    rcases qq with ⟨wh, hW, hw11, q⟩ | ⟨nag, q⟩
    case inr => exact .inr ⟨nag, fun H2 s2 => q H2 (s1.trans s2)⟩
    refine .inl ⟨wh, hW, hw11, fun p ys H2 s2 np ep hz hnew => ?_⟩
    have hyl : ys.length = rows.length := by have := hz.length; rwa [List.length_map] at this
    have ed2 := s2 _ _ ed
    have hdp : p ≠ d := fun e => by rw [e] at np; rw [np] at ed; cases ed
    refine ⟨p, rfl, ⟨ys, SqL.ofL ep⟩, for_list (K := K) (a := p) (xs := ys) (fun i σ H' => ∃ (o2 o3 : Option V) (kv : List (Key × V)), σ = [some (.ref l), some (.ref d), o2, o3] ∧ H' d = some (.dK kv) ∧ Stp [d] H2 [d] H' ∧ (∀ n, (valV kv (Sum.inl n)).isSome = true ↔ ∃ r ∈ rows.take i, n ∈ lackF wh r) ∧ kv.length ≤ 11 * i)
      ⟨none, none, [], rfl, ed2, (Same.refl H2).step _, fun n => by simp [valV_nil], Nat.zero_le _⟩ (fun i σ H' _ ⟨_, _, _, _, _, st, _⟩ => SqL.ofL (st.keep ep (by simp [hdp]))) ?_ ?_⟩
    · rintro i y σ H' hi ⟨o2, o3, kv, rfl, hk, st, hmem, hkl⟩
      have hil : i < rows.length := by rw [← hyl]; exact (List.getElem?_eq_some_iff.mp hi).1
      obtain ⟨x, h1, h2⟩ := hz.get (i := i) (d := intsD (lackF wh rows[i])) (by rw [List.getElem?_map, List.getElem?_eq_getElem hil]; rfl)
      rw [hi] at h1
      obtain rfl := Option.some.inj h1
      unfold intsD Has at h2
      obtain ⟨c, xs, rfl, hc, hx⟩ := h2
      have hcd : c ≠ d := fun e => by
        have := hnew _ (List.mem_of_getElem? hi) c rfl
        rw [e, ed] at this; cases this
      have exs : xs = (lackF wh rows[i]).map V.int := hasL_int hx
      subst exs
      have hll : (lackF wh rows[i]).length ≤ 11 := by
        unfold lackF
        rw [List.length_map]
        exact Nat.le_trans (List.length_filter_le _ _) hw11
      refine rd_name ?_
      refine ⟨_, rfl, c, rfl, ⟨_, SqL.ofL (st.keep hc (by simp [hcd]))⟩, for_list (K := K) (a := c) (xs := (lackF wh rows[i]).map V.int) (fun j σ H3 => ∃ (o3 : Option V) (kv : List (Key × V)), σ = [some (.ref l), some (.ref d), some (.ref c), o3] ∧ H3 d = some (.dK kv) ∧ Stp [d] H2 [d] H3 ∧ (∀ n, (valV kv (Sum.inl n)).isSome = true ↔ (∃ r ∈ rows.take i, n ∈ lackF wh r) ∨ n ∈ (lackF wh rows[i]).take j) ∧ kv.length ≤ 11 * i + j)
        ⟨_, kv, rfl, hk, st, fun n => by rw [hmem n]; simp, by omega⟩ (fun j σ H3 _ ⟨_, _, _, _, st3, _⟩ => SqL.ofL (st3.keep hc (by simp [hcd]))) ?_ ?_⟩
      · rintro j y σ H3 hj ⟨o3, kv, rfl, hk, st3, hmem, hkl⟩
        rw [List.getElem?_map] at hj
        cases hn : (lackF wh rows[i])[j]? with
        | none => rw [hn] at hj; cases hj
        | some n =>
          rw [hn] at hj
          obtain rfl := Option.some.inj hj
          have hjl := (List.getElem?_eq_some_iff.mp hn).1
          refine rd_name ?_
          refine ⟨_, rfl, _, rfl, d, _, rfl, DPut.k (k := Sum.inl n) hk (by rw [sizeLine_eq]; omega), ?_⟩
          have sp := Stp.put (ps := [d]) (o := .dK (putK kv (Sum.inl n) (.bl true))) hk (fun _ z => by cases z) (by simp)
          have hpl := length_putK kv (Sum.inl n) (V.bl true)
          refine ⟨_, _, rfl, upd_same, st3.trans sp, fun k => ?_, by omega⟩
          rw [valV_put, List.take_add_one, hn]
          by_cases e : k = n
          · subst e
            rw [if_pos rfl]
            simp
          · rw [if_neg (fun z => e (by injection z)), hmem k]
            simp [e]
      · rintro σ H3 ⟨o3, kv, rfl, hk, st3, hmem, hkl⟩
        rw [List.length_map] at hmem hkl
        refine ⟨_, _, kv, rfl, hk, st3, fun n => ?_, by omega⟩
        rw [hmem n, List.take_length, List.take_add_one, List.getElem?_eq_getElem hil]
        simp only [Option.toList_some, List.mem_append, List.mem_singleton]
        constructor
        · rintro (⟨r, h1, h2⟩ | h)
          · exact ⟨r, .inl h1, h2⟩
          · exact ⟨_, .inr rfl, h⟩
        · rintro ⟨r, h1 | h1, h2⟩
          · exact .inl ⟨r, h1, h2⟩
          · rw [h1] at h2; exact .inr h2
    · rintro σ H' ⟨o2, o3, kv, rfl, hk, st, hmem, hkl⟩
      rw [hyl, List.take_length] at hmem
      have sH : Same H H' := fun b o hb => st.keep ((s1.trans s2) _ _ hb) (by simp [ne_of_none hb nd])
      refine ⟨_, rfl, l, rows, rfl, hR.same sH, hrl, hrr, okm, .inl ⟨wh, hW, by omega, fun pp yp H3 s3 npp epp mp => ?_⟩⟩
      have hkp : H3 d = some (.dK kv) := s3 _ _ hk
      have hyp := mp.len
      refine ⟨pp, rfl, ⟨_, SqL.ofL epp⟩, _, PFlt H3 wh (fun m => rows.all fun r => hasN r m.n), szl (by omega), PFlt.zero, PFlt.step epp mp (fun c1 m1 R N hm1 hc1 hR1 hR2 => ?_), fun yo H4 hP => ?_⟩
      · refine rd_name ?_
        refine ⟨_, rfl, c1, _, _, _, rfl, hc1, _, rfl, d, _, rfl, DGet.k (k := Sum.inl m1.n) hkp, ?_⟩
        have hb : (rows.all fun r => hasN r m1.n) = !(valV kv (Sum.inl m1.n)).isSome := by
          cases hv : (valV kv (Sum.inl m1.n)).isSome with
          | true =>
            obtain ⟨r, hr, hn⟩ := (hmem m1.n).mp hv
            rw [Bool.not_true, List.all_eq_false]
            exact ⟨r, hr, by rw [(lackF_mem.mp hn).2]; decide⟩
          | false =>
            rw [Bool.not_false, List.all_eq_true]
            intro r hr
            cases hh : hasN r m1.n with
            | true => rfl
            | false =>
              have := (hmem m1.n).mpr ⟨r, hr, lackF_mem.mpr ⟨⟨m1, hm1, rfl⟩, hh⟩⟩
              rw [hv] at this; cases this
        exact ⟨_, rfl, ite2 (fun z => ⟨_, rfl, hR1 (hb.trans z)⟩) (fun z => hR2 (hb.trans (Bool.eq_false_iff.mpr z)))⟩
      · obtain ⟨hst, rfl, mP⟩ := PFlt.done (K := K) epp mp hP
        refine ⟨hst, fun D hD => ?_⟩
        have s4 := Same.new (o := .lst yo) hD
        exact q D yo _ ((sH.trans s3).trans s4) (Same.free (sH.trans s3) hD) upd_same (mP.same s4)
def putsM (ms : List Msg) : List (Str × Str) := puts [] (ms.map fun m => (m.t, m.x))
def spLState : Sp := fun vs H Q _ => ∃ a xs ms, vs = [.ref a] ∧ H a = some (.lst xs) ∧ Ms H xs ms ∧ ms.length < 64 ∧ ∀ p H', Same H H' → H p = none → H' p = some (.dK (dS (putsM ms))) → Q (.ref p) H'
abbrev s_l_state : Stmt := top 23
abbrev N_l_state : List Str := ["_law_messages_here", "_law_found", "_law_number", "_law_topic_here", "_law_text"]
theorem sc_l_state : FnScope N_l_state ["_law_messages_here"] (defScope s_l_state) := ⟨rfl, rfl, rfl, by decide +kernel, rfl, by decide +kernel, by decide +kernel⟩
theorem ok_l_state {f : Addr} {fd : FuncData} (F : Fun K "_law_state" "_law_state" s_l_state f fd) : FnOk P w K mg base CX0 1 f fd ["_law_messages_here"] spLState := by
  refine F.ok sc_l_state (fun vs H Q E h => ?_) (fun cdv A outer s H vs Q E hr h => ?_)
  · obtain ⟨a, xs, ms, rfl, _⟩ := h; rfl
  · obtain ⟨a, xs, ms, rfl, ha, hm, hlen, q⟩ := h
    refine ⟨_, (pss_cons (ps_set (i := 1) sc_l_state.nd rfl (Or.inl rfl) pe_dnewK)
      (pss_cons (ps_for PassesOwn.never rfl (k_it_list K (pv 0)) (k_tup K rfl (pgs_cons (pg_name (i := 2) sc_l_state.nd rfl (Or.inl rfl)) (pgs_cons (pg_name (i := 3) sc_l_state.nd rfl (Or.inl rfl)) (pgs_cons (pg_name (i := 4) sc_l_state.nd rfl (Or.inl rfl)) pgs_nil)))) (pss_one (ps_dput (hu_of hr) (pv 1) (pv 3) (pv 4) rfl)))
      (pss_one (ps_ret (pv 1))))), ?_⟩
    refine fun d nd => ?_
    have s1 := Same.new (o := .dK []) nd
    have hxl := hm.len
    refine ⟨_, rfl, a, rfl, ⟨xs, SqL.ofL (s1 _ _ ha)⟩, for_list (K := K) (a := a) (xs := xs) (fun i σ H' => ∃ o2 o3 o4, σ = [some (.ref a), some (.ref d), o2, o3, o4] ∧ Same H H' ∧ H' d = some (.dK (dS (putsM (ms.take i))))) ⟨_, _, _, rfl, s1, upd_same⟩ (fun i σ H' _ ⟨_, _, _, _, h, _⟩ => SqL.ofL (h _ _ ha)) ?_ ?_⟩
    · rintro i y σ H' hi ⟨o2, o3, o4, rfl, sH, hd⟩
      have hil : i < ms.length := by rw [← hxl]; exact (List.getElem?_eq_some_iff.mp hi).1
      obtain ⟨c, ec, hc⟩ := (hm.same sH).get hil
      rw [hi] at ec
      obtain rfl := Option.some.inj ec
      refine ⟨c, _, rfl, SqT.ofT hc, rfl, _, _, rfl, _, _, rfl, _, _, rfl, rfl, ?_⟩
      refine ⟨_, rfl, _, rfl, _, rfl, d, _, rfl, DPut.k (k := Sum.inr ms[i].t) hd ?_, ?_⟩
      · have z : (putsM (ms.take i)).length ≤ 0 + ((ms.take i).map fun m : Msg => (m.t, m.x)).length := len_puts _ _
        rw [List.length_map, List.length_take] at z
        rw [sizeLine_eq, len_dS]
        omega
      · refine ⟨_, _, _, rfl, sH.put nd, ?_⟩
        rw [upd_same, dS_put]
        unfold putsM
        rw [List.take_add_one, List.getElem?_eq_getElem hil]
        simp only [Option.toList_some, List.map_append, List.map_cons, List.map_nil]
        rw [puts_snoc]
    · rintro σ H' ⟨o2, o3, o4, rfl, sH, hd⟩
      rw [hxl, List.take_length] at hd
      exact ⟨_, rfl, q d H' sH nd hd⟩
theorem no_h {C : Addr} {H : Hp} {a : HA} {s : HS} {ex : List (Str × V)} (h : HAt C H a s ex) {nx : Int} {f : Str} (hf : f = "expects" ∨ f = "take" ∨ f = "take_all" ∨ f = "refuse_others" ∨ f = "hear_held" ∨ f = "heard" ∨ f = "early" ∨ f = "missing" ∨ f = "lost" ∨ f = "give_up" ∨ f = "state") : (hF nx a.q a.h a.k a.g ex).lookup f = none := by
  rcases hf with rfl | rfl | rfl | rfl | rfl | rfl | rfl | rfl | rfl | rfl | rfl <;> exact (hF_no (by decide +kernel) (by decide +kernel) (by decide +kernel) (by decide +kernel) (by decide +kernel)).trans (h.exn _ (by decide +kernel))
abbrev s_Hearer___init__ : Stmt := inClass (top 16) 0
abbrev N_Hearer___init__ : List Str := ["self"]
theorem sc_Hearer___init__ : FnScope N_Hearer___init__ ["self"] (defScope s_Hearer___init__) := ⟨rfl, rfl, rfl, by decide +kernel, rfl, by decide +kernel, by decide +kernel⟩
theorem ok_Hearer_init {f C : Addr} {fd : FuncData} (F : Fun K "__init__" "Hearer.__init__" s_Hearer___init__ f fd) (TC : HearC K C) : FnOk P w K mg base CX0 1 f fd ["self"] (spInitH C) := by
  refine F.ok sc_Hearer___init__ (fun vs H Q E h => ?_) (fun cdv A outer s H vs Q E hr h => ?_)
  · obtain ⟨p, dx, rfl, _⟩ := h; rfl
  · obtain ⟨p, dx, rfl, hp, qq⟩ := h
    refine ⟨_, (pss_cons (k_sfld K (pv 0) pe_int rfl)
      (pss_cons (k_sfld K (pv 0) (as_lst as_nil) rfl)
      (pss_cons (k_sfld K (pv 0) pe_dnewK rfl)
      (pss_cons (k_sfld K (pv 0) pe_dnewK rfl)
      (pss_one (k_sfld K (pv 0) (as_lst as_nil) rfl)))))), ?_⟩
    have l0 : ([] : List (Str × V)).length = 0 := rfl
    have l1 := putF_len "next_number" (.int 1) []
    refine ⟨_, rfl, p, C, dx, [], rfl, hp, TC.cl_Hearer, TC.n_next_number, (by show 0 < 1000; decide), ?_⟩
    refine ⟨Nat.zero_le _, fun q hq => ?_⟩
    have npq : p ≠ q := ne_of_none upd_same hq
    refine ⟨_, rfl, p, C, dx, _, rfl, (by rw [upd_ne npq]; exact upd_same), TC.cl_Hearer, TC.n_past, by omega, ?_⟩
    have l2 := putF_len "past" (.ref q) (putF "next_number" (.int 1) [])
    intro h hh
    have nph : p ≠ h := ne_of_none upd_same hh
    have nqh : q ≠ h := fun e => by rw [← e, upd_ne npq.symm, upd_same] at hh; cases hh
    refine ⟨_, rfl, p, C, dx, _, rfl, (by rw [upd_ne nph]; exact upd_same), TC.cl_Hearer, TC.n_held, by omega, ?_⟩
    have l3 := putF_len "held" (.ref h) (putF "past" (.ref q) (putF "next_number" (.int 1) []))
    intro k hk
    have npk : p ≠ k := ne_of_none upd_same hk
    have nhk : h ≠ k := fun e => by rw [← e, upd_ne nph.symm, upd_same] at hk; cases hk
    have nqk : q ≠ k := fun e => by rw [← e, upd_ne npq.symm, upd_ne nqh, upd_ne npq.symm, upd_same] at hk; cases hk
    refine ⟨_, rfl, p, C, dx, _, rfl, (by rw [upd_ne npk]; exact upd_same), TC.cl_Hearer, TC.n_known, by omega, ?_⟩
    have l4 := putF_len "known" (.ref k) (putF "held" (.ref h) (putF "past" (.ref q) (putF "next_number" (.int 1) [])))
    refine ⟨Nat.zero_le _, fun g hg => ?_⟩
    have npg : p ≠ g := ne_of_none upd_same hg
    have nkg : k ≠ g := fun e => by rw [← e, upd_ne npk.symm, upd_same] at hg; cases hg
    have nhg : h ≠ g := fun e => by rw [← e, upd_ne nph.symm, upd_ne nhk, upd_ne nph.symm, upd_same] at hg; cases hg
    have nqg : q ≠ g := fun e => by rw [← e, upd_ne npq.symm, upd_ne nqk, upd_ne npq.symm, upd_ne nqh, upd_ne npq.symm, upd_same] at hg; cases hg
    refine ⟨_, rfl, p, C, dx, _, rfl, (by rw [upd_ne npg]; exact upd_same), TC.cl_Hearer, TC.n_given_up, by omega, ?_⟩
    rw [hF_make]
    have q0 : H q = none := by rw [upd_ne npq.symm] at hq; exact hq
    have h0 : H h = none := by rw [upd_ne nph.symm, upd_ne nqh.symm, upd_ne nph.symm] at hh; exact hh
    have k0 : H k = none := by rw [upd_ne npk.symm, upd_ne nhk.symm, upd_ne npk.symm, upd_ne nqk.symm, upd_ne npk.symm] at hk; exact hk
    have g0 : H g = none := by rw [upd_ne npg.symm, upd_ne nkg.symm, upd_ne npg.symm, upd_ne nhg.symm, upd_ne npg.symm, upd_ne nqg.symm, upd_ne npg.symm] at hg; exact hg
    refine qq ⟨p, q, h, k, g⟩ _ rfl ⟨⟨dx, upd_same⟩, ⟨[], ?_, Ms.nil⟩, ⟨[], ?_, .nil⟩, ⟨[], [], ?_, .nil, List.nodup_nil, Nat.le_refl _, (fun m => by simp [hs0])⟩, ?_, nqg, nhk, fun _ _ => rfl, by decide⟩ ⟨fun b o e hb => ?_, fun b xs e => ?_, fun c hc => ?_⟩
    · show upd _ _ _ q = _; rw [upd_ne npq.symm, upd_ne nqg, upd_ne npq.symm, upd_ne nqk, upd_ne npq.symm, upd_ne nqh, upd_ne npq.symm, upd_same]
    · show upd _ _ _ h = _; rw [upd_ne nph.symm, upd_ne nhg, upd_ne nph.symm, upd_ne nhk, upd_ne nph.symm, upd_same]
    · show upd _ _ _ k = _; rw [upd_ne npk.symm, upd_ne nkg, upd_ne npk.symm, upd_same]
    · show upd _ _ _ g = _; rw [upd_ne npg.symm, upd_same]; rfl
    · have hb' : b ≠ p := by simpa using hb
      rw [upd_ne hb', upd_ne (ne_of_none e g0), upd_ne hb', upd_ne (ne_of_none e k0), upd_ne hb', upd_ne (ne_of_none e h0), upd_ne hb', upd_ne (ne_of_none e q0), upd_ne hb']; exact e
    · have hb' : b ≠ p := ne_of e hp (by intro z; cases z)
      rw [upd_ne hb', upd_ne (ne_of_none e g0), upd_ne hb', upd_ne (ne_of_none e k0), upd_ne hb', upd_ne (ne_of_none e h0), upd_ne hb', upd_ne (ne_of_none e q0), upd_ne hb']; exact e
    · simp only [HA.fp, List.mem_cons, List.not_mem_nil, or_false] at hc
      rcases hc with rfl | rfl | rfl | rfl | rfl
      · exact .inl (by simp)
      · exact .inr q0
      · exact .inr h0
      · exact .inr k0
      · exact .inr g0
abbrev s_Hearer_heard : Stmt := inClass (top 16) 6
abbrev N_Hearer_heard : List Str := ["self"]
theorem sc_Hearer_heard : FnScope N_Hearer_heard ["self"] (defScope s_Hearer_heard) := ⟨rfl, rfl, rfl, by decide +kernel, rfl, by decide +kernel, by decide +kernel⟩
theorem ok_Hearer_heard {f C : Addr} {fd : FuncData} (F : Fun K "heard" "Hearer.heard" s_Hearer_heard f fd) (T : Txt mg) (TC : HearC K C) : FnOk P w K mg base CX0 1 f fd ["self"] (spHeard C) := by
  refine F.ok sc_Hearer_heard (fun vs H Q E h => ?_) (fun cdv A outer s0 H vs Q E hr h => ?_)
  · obtain ⟨a, s, ex, rfl, _⟩ := h; rfl
  · obtain ⟨a, s, ex, rfl, hA, q⟩ := h
    refine ⟨_, (pss_one (ps_ret (as_callTy (k_list_of K) (by rfl) T.b_list PyProof.Rows.boot_list (at_cons (k_fld K (pv 0) rfl) as_nil)))), ?_⟩
    obtain ⟨dx, h1⟩ := hA.ob
    obtain ⟨ys, h2, h3⟩ := hA.pa
    exact ⟨_, rfl, a.p, C, dx, _, _, rfl, h1, TC.cl_Hearer, TC.n_past, hF_past, a.q, ys, rfl, .inl (SqL.ofL h2), fun l hl => q l ys hl (h3.same (Same.new hl))⟩
abbrev s_Hearer_hear_held : Stmt := inClass (top 16) 5
abbrev N_Hearer_hear_held : List Str := ["self", "heard"]
theorem sc_Hearer_hear_held : FnScope N_Hearer_hear_held ["self"] (defScope s_Hearer_hear_held) := ⟨rfl, rfl, rfl, by decide +kernel, rfl, by decide +kernel, by decide +kernel⟩
theorem hear_mem {s : HS} (d : Diff s.held) : Diff (hearS s).held ∧ (hearS s).heard.length + (hearS s).held.length = s.heard.length + s.held.length ∧ ∀ m, (m ∈ (hearS s).heard ∨ m ∈ (hearS s).held) ↔ (m ∈ s.heard ∨ m ∈ s.held) := by
  refine (hearS_ind (P := fun t => Diff t.held ∧ t.heard.length + t.held.length = s.heard.length + s.held.length ∧ ∀ m, (m ∈ t.heard ∨ m ∈ t.held) ↔ (m ∈ s.heard ∨ m ∈ s.held)) ?_ s ⟨d, rfl, fun _ => Iff.rfl⟩).1
  rintro t m ⟨h1, h2, h3⟩ e
  obtain ⟨hm, hn⟩ := findN_some e
  refine ⟨dropN_diff h1, ?_, fun x => ?_⟩
  · have := dropN_len h1 hm
    show (t.heard ++ [m]).length + (dropN t.held m.n).length = _
    rw [List.length_append, List.length_singleton]; omega
  · rw [← h3 x]
    show (x ∈ t.heard ++ [m] ∨ x ∈ dropN t.held m.n) ↔ _
    rw [List.mem_append, List.mem_singleton, dropN_mem]
    constructor
    · rintro ((z | rfl) | ⟨z, _⟩)
      · exact .inl z
      · exact .inr hm
      · exact .inr z
    · rintro (z | z)
      · exact .inl (.inl z)
      · by_cases ee : x.n = m.n
        · exact .inl (.inr (h1.eq z hm ee))
        · exact .inr ⟨z, ee⟩
theorem ok_Hearer_hear_held {f C : Addr} {fd : FuncData} (F : Fun K "hear_held" "Hearer.hear_held" s_Hearer_hear_held f fd) (TC : HearC K C) : FnOk P w K mg base CX0 1 f fd ["self"] (spHear C) := by
  refine F.ok sc_Hearer_hear_held (fun vs H Q E h => ?_) (fun cdv A outer s0 H vs Q E hr h => ?_)
  · obtain ⟨a, s, ex, rfl, _⟩ := h; rfl
  · obtain ⟨a, s, ex, rfl, hA, hd, hsm, q⟩ := h
    refine ⟨_, (pss_cons (ps_set (i := 1) sc_Hearer_hear_held.nd rfl (Or.inl rfl) (as_lst as_nil))
      (pss_cons (ps_while PassesOwn.never (pt_cmp (pc_din (hu_of hr) (k_fld K (pv 0) rfl) (k_fld K (pv 0) rfl))) (pss_cons (ps_expr (k_bm K PySem.F.plainAttrs_list PySem.F.slot_list_append PySem.F.type_list_append mt_append (pv 1) (pa_cons (pe_dpop1 (k_fld K (pv 0) rfl) (k_fld K (pv 0) rfl) ⟨rfl, rfl, rfl, rfl⟩) pa_nil)))
      (pss_one (k_sfld K (pv 0) (pe_op op_add (k_fld K (pv 0) rfl) pe_int) rfl))))
      (pss_cons (ps_expr (k_bm K PySem.F.plainAttrs_list PySem.F.slot_list_extend PySem.F.type_list_extend mt_extend (k_fld K (pv 0) rfl) (pa_cons (pv 1) pa_nil)))
      (pss_one (ps_ret (pv 1)))))), ?_⟩
    obtain ⟨npq, nph, npk, npg, nqh, nqk, nqg, nhk, nhg, nkg⟩ := hA.apart
    obtain ⟨⟨dx, h1⟩, ⟨yq, h2, m2⟩, ⟨kh, h3, d3⟩, hkn, h5, _, _, hex, hexl⟩ := id hA
    obtain ⟨hD, hL, hM⟩ := hear_mem hd
    unfold HS.small at hsm
    refine ⟨Nat.zero_le _, fun l hl0 => ?_⟩
    have nl : l ∉ a.fp := hA.free hl0
    have nl' : l ≠ a.p ∧ l ≠ a.q ∧ l ≠ a.h ∧ l ≠ a.k ∧ l ≠ a.g := by simpa [HA.fp] using nl
    have s1 := Same.new (o := .lst []) hl0
    let W : Nat → St → Hp → Prop := fun m σ H' => ∃ (t : HS) (found : List Msg) (fs : List V) (kv : List (Key × V)), m = t.held.length ∧ σ = [some (.ref a.p), some (.ref l)] ∧ hearS t = hearS s ∧ t.heard = s.heard ++ found ∧ t.lost = s.lost ∧ t.heard.length + t.held.length = s.heard.length + s.held.length ∧
      H' a.p = some (.ins C dx (hF t.next a.q a.h a.k a.g ex)) ∧ H' a.h = some (.dK kv) ∧ DI H' kv t.held ∧ H' l = some (.lst fs) ∧ Ms H' fs found ∧ Diff t.held ∧ Stp [l, a.p, a.h] (upd H l (.lst [])) [l, a.p, a.h] H'
    refine ⟨W, ?_, ?_⟩
    · exact ⟨_, s, [], [], kh, rfl, rfl, rfl, (List.append_nil _).symm, rfl, rfl, s1 _ _ h1, s1 _ _ h3, d3.same s1, upd_same, Ms.nil, hd, Stp.refl _ _⟩
    · rintro m σ H' ⟨t, found, fs, kv, rfl, rfl, et, eh, el, esz, g1, g3, gd, gl, gm, gdf, st⟩
      refine ⟨_, rfl, a.p, C, dx, _, _, rfl, g1, TC.cl_Hearer, TC.n_next_number, hF_next, _, rfl, a.p, C, dx, _, _, rfl, g1, TC.cl_Hearer, TC.n_held, hF_held, a.h, _, rfl, DGet.k (k := Sum.inl t.next) g3, _, rfl, ?_⟩
      have lfs := gm.len
      have lfo : found.length ≤ 3000 := by have := congrArg List.length eh; rw [List.length_append] at this; omega
      cases e : findN t.held t.next with
      | none =>
        rw [gd.none _ e]
        refine iteF ?_
        have eS : hearS s = t := by rw [← et]; exact hearS_none e
        have g2 := st.keep (s1 _ _ h2) (by simp [nl'.2.1.symm, npq.symm, nqh])
        have g5 := st.keep (s1 _ _ h5) (by simp [nl'.2.2.2.2.symm, npg.symm, nhg.symm])
        obtain ⟨kvk, mk, hk1, hk2, hk3, hk4, hk5⟩ := hkn
        have g4 := st.keep (s1 _ _ hk1) (by simp [nl'.2.2.2.1.symm, npk.symm, nhk.symm])
        have m2' := (m2.same s1).step st
        have lyq := m2.len
        refine ⟨_, rfl, a.p, C, dx, _, _, rfl, g1, TC.cl_Hearer, TC.n_past, hF_past, .inl ⟨rfl, _, SqL.ofL g2⟩, _, rfl, a.q, l, yq, fs, rfl, rfl, g2, gl, by rw [sizeLine_eq]; omega, ?_⟩
        have sq := Stp.put (ps := [a.q]) (o := .lst (yq ++ fs)) g2 (fun _ z => by cases z) (by simp)
        refine ⟨_, rfl, ?_⟩
        rw [eS] at q hM hL
        have st' : Stp a.fp H (l :: a.fp) _ := ((Stp.make (ps := a.fp) (o := .lst []) hl0).trans (st.weak (qs := l :: a.fp) (by simp [HA.fp]) (by intro c hc; exact .inr hc))).trans (sq.weak (qs := l :: a.fp) (by simp [HA.fp]) (by intro c hc; exact .inr hc))
        refine q l fs found _ ⟨⟨dx, sq.keep g1 (by simp [npq])⟩, ⟨_, upd_same, ?_⟩, ⟨kv, sq.keep g3 (by simp [nqh.symm]), gd.tups sq.tup⟩, ⟨kvk, mk, sq.keep g4 (by simp [nqk.symm]), ((hk2.same s1).tups st.tup).tups sq.tup, hk3, by omega, fun m => (hk5 m).trans (hM m).symm⟩, ?_, nqg, nhk, hex, hexl⟩ eh st' hl0 nl (sq.keep gl (by simp [nl'.2.1])) (gm.step sq)
        · rw [eh]; exact (m2'.step sq).append (gm.step sq)
        · rw [el]; exact sq.keep g5 (by simp [nqg.symm])
      | some m =>
        obtain ⟨c, hv, hc⟩ := gd.some _ e
        obtain ⟨hmm, hmn⟩ := findN_some e
        rw [hv]
        refine iteT ?_
        refine ⟨fun σ' H2 => ∃ m', m' < t.held.length ∧ W m' σ' H2, fun _ _ z => z, ?body⟩
        case body =>
          refine ⟨_, rfl, .inl ⟨rfl, _, SqL.ofL gl⟩, _, rfl, a.p, C, dx, _, _, rfl, g1, TC.cl_Hearer, TC.n_held, hF_held, a.h, rfl, .inl ⟨kv, .inl g3⟩, _, rfl, a.p, C, dx, _, _, rfl, g1, TC.cl_Hearer, TC.n_next_number, hF_next, kv, Sum.inl t.next, .ref c, g3, rfl, hv, ?_⟩
          have sa := Stp.put (ps := [a.h]) (o := .dK (dropK kv (Sum.inl t.next))) g3 (fun _ z => by cases z) (by simp)
          have gl1 := sa.keep gl (by simp [nl'.2.2.1])
          refine ⟨l, fs, .ref c, rfl, rfl, gl1, by rw [sizeLine_eq]; omega, ?_⟩
          have sb := Stp.put (ps := [l]) (o := .lst (fs ++ [.ref c])) gl1 (fun _ z => by cases z) (by simp)
          have g1b := sb.keep (sa.keep g1 (by simp [nph])) (by simp [nl'.1.symm])
          refine ⟨_, rfl, a.p, C, dx, _, _, rfl, g1b, TC.cl_Hearer, TC.n_next_number, hF_next, _, _, rfl, rfl, _, rfl, a.p, C, dx, _, rfl, g1b, TC.cl_Hearer, TC.n_next_number, ?_, ?_⟩
          · exact hF_len hexl
          rw [hF_setNext]
          have sc := Stp.put (ps := [a.p]) (o := .ins C dx (hF (t.next + 1) a.q a.h a.k a.g ex)) g1b (fun _ z => by cases z) (by simp)
          have dl := dropN_len gdf hmm
          exact ⟨_, dropN_lt hmm, ⟨t.heard ++ [m], dropN t.held m.n, t.lost⟩, found ++ [m], fs ++ [.ref c], dropK kv (Sum.inl t.next), rfl, rfl, by rw [← hearS_some e]; exact et, by rw [eh, List.append_assoc], el, by show (t.heard ++ [m]).length + (dropN t.held m.n).length = _; rw [List.length_append, List.length_singleton]; omega,
            by rw [next_snoc]; exact upd_same, sc.keep (sb.keep upd_same (by simp [nl'.2.2.1.symm])) (by simp [nph.symm]), by rw [hmn]; exact ((gd.drop t.next).tups sa.tup).tups (sb.tup.trans sc.tup), sc.keep upd_same (by simp [nl'.1]), (((gm.step sa).step sb).append (Ms.one (sb.tup _ _ (sa.tup _ _ hc)))).step sc, dropN_diff gdf,
            st.trans ((sa.up (by simp)).trans ((sb.up (by simp)).trans (sc.up (by simp))))⟩
abbrev s_Hearer_refuse_others : Stmt := inClass (top 16) 4
abbrev N_Hearer_refuse_others : List Str := ["self", "messages", "fresh", "message", "number"]
theorem sc_Hearer_refuse_others : FnScope N_Hearer_refuse_others ["self", "messages"] (defScope s_Hearer_refuse_others) := ⟨rfl, rfl, rfl, by decide +kernel, rfl, by decide +kernel, by decide +kernel⟩
theorem ok_Hearer_refuse_others {f C : Addr} {fd : FuncData} (F : Fun K "refuse_others" "Hearer.refuse_others" s_Hearer_refuse_others f fd) (TC : HearC K C) (c_number_of : Callee P w K mg base 1 "number_of" ["message"] (spItem 0)) : FnOk P w K mg base CX0 2 f fd ["self", "messages"] (spRefuse C) := by
  refine F.ok sc_Hearer_refuse_others (fun vs H Q E h => ?_) (fun cdv A outer s0 H vs Q E hr h => ?_)
  · obtain ⟨a, s, ex, b, xs, ms, rfl, _⟩ := h; rfl
  · obtain ⟨a, s, ex, b, xs, ms, rfl, hA, hb, hm, hml, hfit, hok, q⟩ := h
    refine ⟨_, (pss_cons (ps_set (i := 2) sc_Hearer_refuse_others.nd rfl (Or.inl rfl) pe_dnewK)
      (pss_one (ps_for PassesOwn.never rfl (k_it_list K (pv 1)) (pg_name (i := 3) sc_Hearer_refuse_others.nd rfl (Or.inl rfl)) (pss_cons (ps_set (i := 4) sc_Hearer_refuse_others.nd rfl (Or.inl rfl) (as_fn c_number_of (hr.mono (by decide)) (at_cons (pv 3) as_nil)))
      (pss_cons (ps_if (pt_cmpR (op_neD hr.units) (pe_dget2 (hu_of hr) (k_fld K (pv 0) rfl) (pv 4) (pe_dget2 (hu_of hr) (pv 2) (pv 4) (pv 3) ⟨rfl, rfl, rfl, rfl⟩) ⟨rfl, rfl, rfl, rfl⟩) (pv 3) (nomark _)) (pss_one ps_never) pss_nil)
      (pss_one (ps_if (pt_cmpR op_ge (pv 4) (k_fld K (pv 0) rfl) (nomark _)) (pss_one (ps_dput (hu_of hr) (pv 2) (pv 4) (pv 3) rfl)) pss_nil))))))), ?_⟩
    intro f0 hf0
    have s1 := Same.new (o := .dK []) hf0
    have hxl := hm.len
    refine ⟨_, rfl, b, rfl, ⟨xs, SqL.ofL (s1 _ _ hb)⟩, for_list (K := K) (a := b) (xs := xs) (fun i σ H' => ∃ (o3 o4 : Option V) (kv : List (Key × V)) (fr : List Msg), σ = [some (.ref a.p), some (.ref b), some (.ref f0), o3, o4] ∧ H' f0 = some (.dK kv) ∧ DI H' kv fr ∧ fr.length ≤ i ∧ (∀ x ∈ fr, x ∈ ms) ∧ Same H H')
      ⟨none, none, [], [], rfl, upd_same, .nil, Nat.le_refl _, (fun _ z => nomatch z), s1⟩ (fun i σ H' _ ⟨_, _, _, _, _, _, _, _, _, sH⟩ => SqL.ofL (sH _ _ hb)) ?_ ?_⟩
    · rintro i y σ H' hi ⟨o3, o4, kv, fr, rfl, hf, dF, hfl, hfm, sH⟩
      have hil : i < ms.length := by rw [← hxl]; exact (List.getElem?_eq_some_iff.mp hi).1
      obtain ⟨c, ec, hc⟩ := (hm.same sH).get hil
      rw [hi] at ec
      obtain rfl := Option.some.inj ec
      have hmem := List.getElem_mem hil
      generalize ms[i] = m at hc hmem
      refine rd_name ?_
      obtain ⟨⟨dx, h1⟩, _, _, ⟨kvk, mk, hk1, hk2, hk3, hk4, hk5⟩, _, _, _, _, _⟩ := hA.same sH
      refine ⟨_, rfl, c, _, _, _, rfl, hc, ?_⟩
      have hv : ∃ c', (valV kvk (Sum.inl m.n)).getD ((valV kv (Sum.inl m.n)).getD (.ref c)) = .ref c' ∧ H' c' = some (mT m) := by
        cases e : findN mk m.n with
        | some x =>
          obtain ⟨c', h1, h2⟩ := hk2.some _ e
          obtain ⟨hx, hn⟩ := findN_some e
          have : x = m := hfit.1 m hmem x ((hk5 x).mp hx) hn
          rw [h1]; exact ⟨c', rfl, by rw [← this]; exact h2⟩
        | none =>
          rw [hk2.none _ e]
          cases e' : findN fr m.n with
          | some x =>
            obtain ⟨c', h1, h2⟩ := dF.some _ e'
            obtain ⟨hx, hn⟩ := findN_some e'
            have : x = m := hfit.2 m hmem x (hfm x hx) hn
            rw [h1]; exact ⟨c', rfl, by rw [← this]; exact h2⟩
          | none => rw [dF.none _ e']; exact ⟨c, rfl, hc⟩
      obtain ⟨c', ev, hc'⟩ := hv
      refine ⟨_, rfl, a.p, C, dx, _, _, rfl, h1, TC.cl_Hearer, TC.n_known, hF_known, a.k, rfl, .inl ⟨kvk, .inl hk1⟩, _, rfl, _, rfl, f0, rfl, .inl ⟨kv, .inl hf⟩, _, rfl, _, rfl, _, DGet.k (k := Sum.inl m.n) hf, _, DGet.k (k := Sum.inl m.n) hk1, ?_⟩
      rw [ev]
      refine ⟨_, rfl, ne_D (msg_has hc') (msg_has hc) (shaped_m (hok m hmem)) ⟨_, rfl, iteF ?_⟩⟩
      refine ⟨_, rfl, _, rfl, a.p, C, dx, _, _, rfl, h1, TC.cl_Hearer, TC.n_next_number, hF_next, _, _, rfl, rfl, _, rfl, ?_⟩
      refine ite2 (fun hz => ?_) (fun hz => ?_)
      · refine ⟨_, rfl, _, rfl, _, rfl, f0, _, rfl, DPut.k (k := Sum.inl m.n) hf (by rw [dF.len, sizeLine_eq]; omega), ?_⟩
        have st := Stp.put (ps := [f0]) (o := .dK (putK kv (Sum.inl m.n) (.ref c))) hf (fun _ z => by cases z) (by simp)
        have hpl : (putM fr m).length ≤ fr.length + 1 := putM_len
        refine ⟨_, _, _, putM fr m, rfl, upd_same, (dF.put (msg_has hc)).tups st.tup, by omega, fun x hx => ?_, fun z o hz => st.keep (sH z o hz) (by simp [ne_of_none hz hf0])⟩
        rcases (putM_mem (fun y hy e => hfit.2 m hmem y (hfm y hy) e)).mp hx with z | rfl
        · exact hfm x z
        · exact hmem
      · exact ⟨_, _, kv, fr, rfl, hf, dF, by omega, hfm, sH⟩
    · rintro σ H' ⟨o3, o4, kv, fr, rfl, hf, dF, hfl, hfm, sH⟩
      exact q _ sH
abbrev s_Hearer_take_all : Stmt := inClass (top 16) 3
abbrev N_Hearer_take_all : List Str := ["self", "messages", "message", "number"]
theorem sc_Hearer_take_all : FnScope N_Hearer_take_all ["self", "messages"] (defScope s_Hearer_take_all) := ⟨rfl, rfl, rfl, by decide +kernel, rfl, by decide +kernel, by decide +kernel⟩
theorem fits_adds {s : HS} {ms : List Msg} (hf : Fits s ms) (i : Nat) : ∀ x, x ∈ ((ms.take i).foldl addS s).held → x ∈ s.held ∨ x ∈ ms := by
  induction i with
  | zero => intro x hx; exact .inl hx
  | succ i ih =>
    intro x hx
    by_cases hi : i < ms.length
    · rw [List.take_add_one, List.getElem?_eq_getElem hi, List.foldl_append] at hx
      have hx' : x ∈ (addS ((ms.take i).foldl addS s) ms[i]).held := hx
      unfold addS at hx'
      split at hx'
      · have hpp : ∀ y ∈ ((ms.take i).foldl addS s).held, y.n = ms[i].n → y = ms[i] := fun y hy e => by
          rcases ih y hy with w | w
          · exact hf.1 _ (List.getElem_mem hi) y (.inr w) e
          · exact hf.2 _ (List.getElem_mem hi) y w e
        rcases (putM_mem hpp).mp hx' with z | z
        · exact ih x z
        · exact .inr (by rw [z]; exact List.getElem_mem hi)
      · exact ih x hx'
    · rw [List.take_of_length_le (by omega)] at hx
      rw [List.take_of_length_le (by omega)] at ih
      exact ih x hx
theorem ok_Hearer_take_all {f C : Addr} {fd : FuncData} (F : Fun K "take_all" "Hearer.take_all" s_Hearer_take_all f fd) (TC : HearC K C) (c_number_of : Callee P w K mg base 1 "number_of" ["message"] (spItem 0)) (m_refuse_others : CalleeM P w K mg base 2 C "refuse_others" ["self", "messages"] (spRefuse C)) (m_hear_held : CalleeM P w K mg base 1 C "hear_held" ["self"] (spHear C)) : FnOk P w K mg base CX0 3 f fd ["self", "messages"] (spTakeAll C) := by
  refine F.ok sc_Hearer_take_all (fun vs H Q E h => ?_) (fun cdv A outer s0 H vs Q E hr h => ?_)
  · obtain ⟨a, s, ex, b, xs, ms, rfl, _⟩ := h; rfl
  · obtain ⟨a, s, ex, b, xs, ms, rfl, hA, hb, hm, hml, hfit, hok, hd, hsz, q⟩ := h
    refine ⟨_, (pss_cons (ps_expr (as_meth m_refuse_others TC.cl_Hearer (hr.mono (by decide)) (pv 0) (at_cons (pv 1) as_nil)))
      (pss_cons (ps_for PassesOwn.never rfl (k_it_list K (pv 1)) (pg_name (i := 2) sc_Hearer_take_all.nd rfl (Or.inl rfl)) (pss_cons (ps_set (i := 3) sc_Hearer_take_all.nd rfl (Or.inl rfl) (as_fn c_number_of (hr.mono (by decide)) (at_cons (pv 2) as_nil)))
      (pss_one (ps_if (pt_cmpR op_ge (pv 3) (k_fld K (pv 0) rfl) (nomark _)) (pss_cons (ps_dput (hu_of hr) (k_fld K (pv 0) rfl) (pv 3) (pv 2) rfl)
      (pss_one (ps_dput (hu_of hr) (k_fld K (pv 0) rfl) (pv 3) (pv 2) rfl))) pss_nil))))
      (pss_one (ps_ret (as_meth0 m_hear_held TC.cl_Hearer (hr.mono (by decide)) (pv 0)))))), ?_⟩
    obtain ⟨dx, h1⟩ := hA.ob
    have hxl := hm.len
    refine ⟨_, rfl, a.p, dx, _, rfl, h1, no_h hA (.inr (.inr (.inr (.inl rfl)))), _, rfl, a, s, ex, b, xs, ms, rfl, hA, hb, hm, hml, hfit, hok, fun H1 s1 => ?_⟩
    refine ⟨_, rfl, b, rfl, ⟨xs, SqL.ofL (s1 _ _ hb)⟩, for_list (K := K) (a := b) (xs := xs) (fun i σ H' => ∃ (o2 o3 : Option V), σ = [some (.ref a.p), some (.ref b), o2, o3] ∧ HAt C H' a ((ms.take i).foldl addS s) ex ∧ Diff ((ms.take i).foldl addS s).held ∧ ((ms.take i).foldl addS s).held.length ≤ s.held.length + i ∧ Stp [a.h, a.k] H [a.h, a.k] H')
      ⟨none, none, rfl, hA.same s1, hd, Nat.le_refl _, s1.step _⟩ (fun i σ H' _ ⟨_, _, _, _, _, _, st⟩ => SqL.ofL (st.keep hb ?nb)) ?_ ?_⟩
    case nb =>
      obtain ⟨kvs, h3, _⟩ := hA.he
      obtain ⟨kvs', _, h4, _⟩ := hA.kn
      simp [ne_of hb h3 (by intro z; cases z), ne_of hb h4 (by intro z; cases z)]
    · rintro i y σ H' hi ⟨o2, o3, rfl, hA', hd', hl', st⟩
      have hil : i < ms.length := by rw [← hxl]; exact (List.getElem?_eq_some_iff.mp hi).1
      obtain ⟨c, ec, hc⟩ := (hm.step st).get hil
      rw [hi] at ec
      obtain rfl := Option.some.inj ec
      have hmem := List.getElem_mem hil
      have enx := adds_next (ms.take i) s
      have ehd := adds_heard (ms.take i) s
      have hfa := fits_adds hfit i
      rw [List.take_add_one, List.getElem?_eq_getElem hil, List.foldl_append]
      show gName _ _ _ _ _
      generalize ms[i] = m at hc hmem ⊢
      generalize (ms.take i).foldl addS s = t at hA' hd' hl' enx ehd hfa ⊢
      refine rd_name ?_
      obtain ⟨npq, nph, npk, npg, nqh, nqk, nqg, nhk, nhg, nkg⟩ := hA'.apart
      obtain ⟨⟨dx', g1⟩, ⟨yq, g2, m2⟩, ⟨kh, g3, d3⟩, ⟨kvk, mk, g4, d4, hk3, hk4, hk5⟩, g5, _, _, hex, hexl⟩ := id hA'
      refine ⟨_, rfl, c, _, _, _, rfl, hc, ?_⟩
      refine ⟨_, rfl, _, rfl, a.p, C, dx', _, _, rfl, g1, TC.cl_Hearer, TC.n_next_number, hF_next, _, _, rfl, rfl, _, rfl, ?_⟩
      have hsh : ∀ x ∈ t.held, x.n = m.n → x = m := fun x hx e => by
        rcases hfa x hx with z | z
        · exact hfit.1 m hmem x (.inr z) e
        · exact hfit.2 m hmem x z e
      have hsk : ∀ x ∈ mk, x.n = m.n → x = m := fun x hx e => by
        rcases (hk5 x).mp hx with z | z
        · exact hfit.1 m hmem x (.inl (ehd ▸ z)) e
        · exact hsh x z e
      refine ite2 (fun hz => ?_) (fun hz => ?_)
      · have hz' : m.n ≥ t.next := of_decide_eq_true hz
        have eA : (some m).toList.foldl addS t = ⟨t.heard, putM t.held m, t.lost⟩ := by show addS t m = _; unfold addS; rw [if_pos hz']
        refine ⟨_, rfl, _, rfl, a.p, C, dx', _, _, rfl, g1, TC.cl_Hearer, TC.n_held, hF_held, _, rfl, a.h, _, rfl, DPut.k (k := Sum.inl m.n) g3 (by rw [d3.len, sizeLine_eq]; omega), ?_⟩
        have sa := Stp.put (ps := [a.h]) (o := .dK (putK kh (Sum.inl m.n) (.ref c))) g3 (fun _ z => by cases z) (by simp)
        have g1a := sa.keep g1 (by simp [nph])
        have g4a := sa.keep g4 (by simp [nhk.symm])
        have hml2 : mk.length < 3000 := by
          have h2 := congrArg List.length ehd
          omega
        refine ⟨_, rfl, _, rfl, a.p, C, dx', _, _, rfl, g1a, TC.cl_Hearer, TC.n_known, hF_known, _, rfl, a.k, _, rfl, DPut.k (k := Sum.inl m.n) g4a (by rw [d4.len, sizeLine_eq]; omega), ?_⟩
        have sb := Stp.put (ps := [a.k]) (o := .dK (putK kvk (Sum.inl m.n) (.ref c))) g4a (fun _ z => by cases z) (by simp)
        have sab : Stp [a.h, a.k] H' [a.h, a.k] _ := (sa.up (by simp)).trans (sb.up (by simp))
        have hpl : (putM t.held m).length ≤ t.held.length + 1 := putM_len
        have hcb := sab.tup _ _ hc
        rw [eA]
        refine ⟨_, _, rfl, ⟨⟨dx', sab.keep g1 (by simp [nph, npk])⟩, ⟨yq, sab.keep g2 (by simp [nqh, nqk]), m2.step sab⟩, ⟨_, sb.keep upd_same (by simp [nhk]), (d3.tups sab.tup).put (msg_has hcb)⟩, ⟨_, putM mk m, upd_same, (d4.tups sab.tup).put (msg_has hcb), putM_diff hsk hk3, ?_, fun x => ?_⟩, sab.keep g5 (by simp [nhg.symm, nkg.symm]), nqg, nhk, hex, hexl⟩, putM_diff hsh hd', by show (putM t.held m).length ≤ _; omega, st.trans sab⟩
        · show (putM mk m).length ≤ t.heard.length + (putM t.held m).length
          rcases putM_case hsk with ⟨h, e⟩ | ⟨h, e⟩
          · rw [e]
            rcases putM_case hsh with ⟨_, e'⟩ | ⟨_, e'⟩
            · rw [e']; exact hk4
            · rw [e', List.length_append]; show _ ≤ _ + (_ + 1); omega
          · rw [e]
            rcases putM_case hsh with ⟨h', e'⟩ | ⟨_, e'⟩
            · exact absurd rfl (h m ((hk5 m).mpr (.inr h')))
            · rw [e', List.length_append, List.length_append]; show _ + 1 ≤ _ + (_ + 1); omega
        · rw [putM_mem hsk, hk5 x]
          show _ ↔ x ∈ t.heard ∨ x ∈ putM t.held m
          rw [putM_mem hsh]
          constructor
          · rintro ((z | z) | z)
            · exact .inl z
            · exact .inr (.inl z)
            · exact .inr (.inr z)
          · rintro (z | z | z)
            · exact .inl (.inl z)
            · exact .inl (.inr z)
            · exact .inr z
      · have hz' : ¬ m.n ≥ t.next := fun z => hz (decide_eq_true z)
        have eA : (some m).toList.foldl addS t = t := by show addS t m = _; unfold addS; rw [if_neg hz']
        rw [eA]
        exact ⟨_, _, rfl, hA', hd', by omega, st⟩
    · rintro σ H' ⟨o2, o3, rfl, hA', hd', hl', st⟩
      rw [hxl, List.take_length] at hA' hd' hl'
      obtain ⟨dx', g1⟩ := hA'.ob
      have e1 := adds_heard ms s
      have e2 := adds_lost ms s
      refine ⟨_, rfl, a.p, dx', _, rfl, g1, no_h hA' (.inr (.inr (.inr (.inr (.inl rfl))))), a, _, ex, rfl, hA', hd', by unfold HS.small; rw [e1, e2]; omega, fun l ys found H2 hA2 eh st2 hl0 nl el ml => ?_⟩
      rw [e1] at eh
      refine q l ys found H2 hA2 eh ((st.weak (qs := a.fp) (qs' := a.fp) (by simp [HA.fp]) (fun _ z => .inr z)).trans st2) ?_ nl el ml
      rcases (st.free' hl0) with z | z
      · exact absurd (show l ∈ a.fp by simp only [List.mem_cons, List.not_mem_nil, or_false] at z; rcases z with rfl | rfl <;> simp [HA.fp]) nl
      · exact z
abbrev s_Hearer_early : Stmt := inClass (top 16) 7
abbrev N_Hearer_early : List Str := ["self"]
theorem sc_Hearer_early : FnScope N_Hearer_early ["self"] (defScope s_Hearer_early) := ⟨rfl, rfl, rfl, by decide +kernel, rfl, by decide +kernel, by decide +kernel⟩
theorem ok_Hearer_early {f C : Addr} {fd : FuncData} (F : Fun K "early" "Hearer.early" s_Hearer_early f fd) (T : Txt mg) (TC : HearC K C) : FnOk P w K mg base CX0 1 f fd ["self"] (spEarly C) := by
  refine F.ok sc_Hearer_early (fun vs H Q E h => ?_) (fun cdv A outer s0 H vs Q E hr h => ?_)
  · obtain ⟨a, s, ex, rfl, _⟩ := h; rfl
  · obtain ⟨a, s, ex, rfl, hA, hl, q⟩ := h
    refine ⟨_, (pss_one (ps_ret (as_callB (k_sortI K rfl) (by rfl) T.b_sorted PyProof.Rows.boot_sorted (at_cons (k_fld K (pv 0) rfl) as_nil)))), ?_⟩
    obtain ⟨dx, h1⟩ := hA.ob
    obtain ⟨kvs, h2, h3⟩ := hA.he
    exact ⟨_, rfl, a.p, C, dx, _, _, rfl, h1, TC.cl_Hearer, TC.n_held, hF_held, _, _, rfl, .inr ⟨a.h, kvs, rfl, h2, h3.keys⟩, by rw [List.length_map]; exact hl, q⟩
theorem hasL_at {H : Hp} : ∀ {ys : List V} {ds : List PyData}, ys.length = ds.length → (∀ (i : Nat) (d : PyData), ds[i]? = some d → ∃ x : V, ys[i]? = some x ∧ Has H x d) → HasL H ys ds
  | [], [], _, _ => hasL_nil
  | [], _ :: _, h, _ => by simp at h
  | _ :: _, [], h, _ => by simp at h
  | y :: ys, d :: ds, h, k => by
    obtain ⟨x, h1, h2⟩ := k 0 d rfl
    obtain rfl := Option.some.inj h1
    exact hasL_cons h2 (hasL_at (by simpa using h) fun i e he => by simpa using k (i + 1) e (by simpa using he))
def RwO (H : Hp) (lr : Addr) (ys : List V) (rows : List (List Msg)) : Prop := ys.length = rows.length ∧ ∀ (i : Nat) (r : List Msg), rows[i]? = some r → ∃ (c : Addr) (xs : List V), ys[i]? = some (V.ref c) ∧ c ≠ lr ∧ H c = some (.lst xs) ∧ Ms H xs r
section
variable {H H' : Hp} {lr : Addr} {ys : List V} {rows : List (List Msg)}
theorem RwO.step (h : RwO H lr ys rows) (st : Stp [lr] H [lr] H') : RwO H' lr ys rows := ⟨h.1, fun i r hi => by
  obtain ⟨c, xs, h1, h2, h3, h4⟩ := h.2 i r hi
  exact ⟨c, xs, h1, h2, st.keep h3 (by simp [h2]), h4.step st⟩⟩
theorem RwO.same (h : RwO H lr ys rows) (e : Same H H') : RwO H' lr ys rows := ⟨h.1, fun i r hi => by
  obtain ⟨c, xs, h1, h2, h3, h4⟩ := h.2 i r hi
  exact ⟨c, xs, h1, h2, e _ _ h3, h4.same e⟩⟩
theorem RwO.snoc (h : RwO H lr ys rows) {c : Addr} {xs : List V} {r : List Msg} (h2 : c ≠ lr) (h3 : H c = some (.lst xs)) (h4 : Ms H xs r) : RwO H lr (ys ++ [.ref c]) (rows ++ [r]) := by
  refine ⟨by rw [List.length_append, List.length_append, h.1]; rfl, fun i r' hi => ?_⟩
  by_cases hl : i < rows.length
  · rw [List.getElem?_append_left hl] at hi
    rw [List.getElem?_append_left (by rw [h.1]; exact hl)]
    exact h.2 i r' hi
  · rw [List.getElem?_append_right (by omega)] at hi
    rw [List.getElem?_append_right (by rw [h.1]; omega), h.1]
    have hz : i - rows.length = 0 := by
      have := (List.getElem?_eq_some_iff.mp hi).1
      simp at this; omega
    rw [hz] at hi ⊢
    have : r = r' := by simpa using hi
    subst this
    exact ⟨c, xs, rfl, h2, h3, h4⟩
theorem RwO.has (h : RwO H lr ys rows) : HasL H ys (rows.map rowD) := hasL_at (by rw [List.length_map]; exact h.1) fun i d hd => by
  rw [List.getElem?_map] at hd
  cases hr : rows[i]? with
  | none => rw [hr] at hd; cases hd
  | some r =>
    rw [hr] at hd
    obtain rfl := Option.some.inj hd
    obtain ⟨c, xs, h1, _, h3, h4⟩ := h.2 i r hr
    exact ⟨_, h1, has_lst h3 h4⟩
end
theorem i_next {D : Ends} {σ : St} {H : Hp} (h : D.nx σ H) : tNext D σ H := h
theorem i_if {c : TT} {t u : TS} {D : Ends} {σ : St} {H : Hp} (h : c σ H fun b H1 => if b = true then t D σ H1 else u D σ H1) : tIfS c t u D σ H := h
theorem i_seq {t u : TS} {D : Ends} {σ : St} {H : Hp} (h : t { D with nx := u D } σ H) : tSeq t u D σ H := h
theorem i_test {t : TE} {σ : St} {H : Hp} {Q : Bool → Hp → Prop} (h : t σ H fun x H' => ∃ k, x = .bl k ∧ Q k H') : tTest t σ H Q := h
theorem i_op {r : R2} {ta tb : TE} {σ : St} {H : Hp} {Q : VK} (h : ta σ H fun x H1 => tb σ H1 fun y H2 => r x y H2 Q) : tOp r ta tb σ H Q := h
def wholeF (ms : List Msg) (rows : List (List Msg)) : List Msg := ms.filter fun m => !(!(rows.any fun r => decide (m ∈ r)))
theorem wholeF_ok {ms : List Msg} {rows : List (List Msg)} (hri : Rise ms) (hfl : ∀ m ∈ rows.flatten, m ∈ ms) : Whole rows (wholeF ms rows) where
  ri := hri.sublist List.filter_sublist
  mem := fun m => by
    unfold wholeF
    rw [List.mem_filter, Bool.not_not, List.any_eq_true]
    constructor
    · rintro ⟨_, r, hr, hm⟩
      exact List.mem_flatten.mpr ⟨r, hr, of_decide_eq_true hm⟩
    · intro h
      obtain ⟨r, hr, hm⟩ := List.mem_flatten.mp h
      exact ⟨hfl m h, r, hr, decide_eq_true hm⟩
theorem hasN_dec {rows : List (List Msg)} {w : List Msg} (hW : Whole rows w) {r : List Msg} (hr : r ∈ rows) {m : Msg} (hm : m ∈ w) : hasN r m.n = decide (m ∈ r) := by
  have := hasN_row hW.agree hr ((hW.mem m).mp hm)
  by_cases h : m ∈ r
  · rw [decide_eq_true h]; exact this.mpr h
  · rw [decide_eq_false h]; exact Bool.eq_false_iff.mpr fun z => h (this.mp z)
theorem hasL_rev {H : Hp} : ∀ {xs : List V} {ds : List PyData}, HasL H xs ds → HasL H xs.reverse ds.reverse
  | xs, [], h => by
    have := h.length
    rw [List.length_nil] at this
    rw [List.length_eq_zero_iff.mp this]; exact hasL_nil
  | xs, d :: ds, h => by
    unfold HasL at h
    obtain ⟨x, r, rfl, h1, h2⟩ := h
    rw [List.reverse_cons, List.reverse_cons]
    exact (hasL_rev h2).append (hasL_cons h1 hasL_nil)
theorem whole_of {rows rows' : List (List Msg)} {wh : List Msg} (h : Whole rows wh) (e : ∀ m, m ∈ rows'.flatten ↔ m ∈ rows.flatten) : Whole rows' wh := ⟨h.ri, fun m => (h.mem m).trans (e m).symm⟩
theorem whole_rev {rows : List (List Msg)} {wh : List Msg} (h : Whole rows wh) : Whole rows.reverse wh := whole_of h fun m => by simp
theorem whole_front {rows : List (List Msg)} {wh : List Msg} (h : Whole rows wh) : Whole (wh :: rows) wh := whole_of h fun m => by
  rw [List.flatten_cons, List.mem_append, h.mem m]
  exact ⟨fun z => z.elim id id, .inr⟩
theorem whole_behind {rows : List (List Msg)} {wh : List Msg} (h : Whole rows wh) : Whole (rows ++ [wh]) wh := whole_of h fun m => by
  rw [List.flatten_append, List.mem_append, ← h.mem m]
  simp
theorem whole_alone {wh : List Msg} (h : Rise wh) : Whole [wh] wh := ⟨h, fun m => by simp⟩
theorem rise_nd {l : List Msg} (h : Rise l) : l.Nodup := h.imp fun h e => by rw [e] at h; omega
theorem rise_ndn {l : List Msg} (h : Rise l) : (l.map (·.n)).Nodup := List.pairwise_map.mpr (h.imp fun h e => by omega)
theorem rise_ints {l : List Msg} (h : Rise l) : (l.map (·.n)).Pairwise (· < ·) := List.pairwise_map.mpr h
theorem row_lack {rows : List (List Msg)} {wh row : List Msg} (h : Whole rows wh) (hr : row ∈ rows) (hri : Rise row) : PySem.W.sortI (row.map (·.n) ++ lackF wh row) = wh.map (·.n) := by
  refine (PySem.W.eq_sortI ?_ ((rise_ints h.ri).imp fun h => Int.le_of_lt h)).symm
  refine (List.perm_ext_iff_of_nodup (rise_ndn h.ri) ?_).mpr fun n => ?_
  · refine List.nodup_append.mpr ⟨rise_ndn hri, (lackF_rise h.ri).imp fun h => Int.ne_of_lt h, fun a ha b hb e => ?_⟩
    subst e
    obtain ⟨_, h2⟩ := lackF_mem.mp hb
    obtain ⟨m, hm, rfl⟩ := List.mem_map.mp ha
    have := hasN_iff.mpr ⟨m, hm, rfl⟩
    rw [h2] at this; cases this
  · rw [List.mem_append, lackF_mem]
    constructor
    · intro hn
      obtain ⟨m, hm, rfl⟩ := List.mem_map.mp hn
      cases hh : hasN row m.n with
      | true =>
        obtain ⟨k, hk, e⟩ := hasN_iff.mp hh
        exact .inl (List.mem_map.mpr ⟨k, hk, e⟩)
      | false => exact .inr ⟨⟨m, hm, rfl⟩, rfl⟩
    · rintro (hn | ⟨⟨m, hm, rfl⟩, _⟩)
      · obtain ⟨m, hm, rfl⟩ := List.mem_map.mp hn
        exact List.mem_map.mpr ⟨m, (h.mem m).mpr (List.mem_flatten.mpr ⟨row, hr, hm⟩), rfl⟩
      · exact List.mem_map.mpr ⟨m, hm, rfl⟩
theorem lack_self (wh : List Msg) : lackF wh wh = [] := by
  unfold lackF
  rw [List.map_eq_nil_iff, List.filter_eq_nil_iff]
  intro m hm
  rw [hasN_iff.mpr ⟨m, hm, rfl⟩]; decide
theorem com_in {rows : List (List Msg)} {wh : List Msg} (h : Whole rows wh) {row : List Msg} (hr : row ∈ rows) {m : Msg} (hm : m ∈ comF rows wh) : m ∈ row := by
  unfold comF at hm
  obtain ⟨h1, h2⟩ := List.mem_filter.mp hm
  have h3 := List.all_eq_true.mp h2 row hr
  rw [hasN_dec h hr h1] at h3
  exact of_decide_eq_true h3
theorem com_front {rows : List (List Msg)} {wh : List Msg} (h : Whole rows wh) (hne : rows ≠ []) : Whole (comF rows wh :: rows) wh ∧ comF (comF rows wh :: rows) wh = comF rows wh := by
  have hsub : ∀ m ∈ comF rows wh, m ∈ wh := fun m hm => (List.mem_filter.mp hm).1
  have hW : Whole (comF rows wh :: rows) wh := whole_of h fun m => by
    rw [List.flatten_cons, List.mem_append]
    exact ⟨fun z => z.elim (fun z => (h.mem m).mp (hsub m z)) id, .inr⟩
  refine ⟨hW, ?_⟩
  show wh.filter _ = wh.filter _
  refine List.filter_congr fun m hm => ?_
  rw [List.all_cons]
  cases hb : (rows.all fun r => hasN r m.n) with
  | false => rw [Bool.and_false]
  | true =>
    rw [Bool.and_true]
    exact hasN_iff.mpr ⟨m, List.mem_filter.mpr ⟨hm, hb⟩, rfl⟩
theorem com_whole {wh : List Msg} : comF [wh] wh = wh := by
  unfold comF
  refine List.filter_eq_self.mpr fun m hm => ?_
  rw [List.all_cons, hasN_iff.mpr ⟨m, hm, rfl⟩]; rfl
theorem com_all {rows : List (List Msg)} {wh : List Msg} (h : Whole rows wh) : comF rows wh = wh ↔ ∀ r ∈ rows, lackF wh r = [] := by
  unfold comF
  rw [List.filter_eq_self]
  constructor
  · intro z r hr
    unfold lackF
    rw [List.map_eq_nil_iff, List.filter_eq_nil_iff]
    intro m hm
    have := List.all_eq_true.mp (z m hm) r hr
    rw [this]; decide
  · intro z m hm
    refine List.all_eq_true.mpr fun r hr => ?_
    have h1 := z r hr
    unfold lackF at h1
    rw [List.map_eq_nil_iff, List.filter_eq_nil_iff] at h1
    have h2 := h1 m hm
    cases hh : hasN r m.n with
    | true => rfl
    | false => rw [hh] at h2; exact absurd rfl h2
theorem whole_step {ms : List Msg} {rows : List (List Msg)} (hri : Rise ms) (hfl : ∀ m ∈ rows.flatten, m ∈ ms) {i : Nat} (hi : i < rows.length) : Whole [wholeF ms (rows.take i), rows[i]] (wholeF ms (rows.take (i + 1))) := by
  have h0 : ∀ k, ∀ m ∈ (rows.take k).flatten, m ∈ ms := fun k m hm => by
    obtain ⟨r, hr, hmr⟩ := List.mem_flatten.mp hm
    exact hfl m (List.mem_flatten.mpr ⟨r, List.mem_of_mem_take hr, hmr⟩)
  have hA := wholeF_ok hri (h0 i)
  have hB := wholeF_ok hri (h0 (i + 1))
  refine ⟨hB.ri, fun m => ?_⟩
  rw [hB.mem m, List.take_add_one, List.getElem?_eq_getElem hi, List.flatten_append, List.mem_append, ← hA.mem m]
  simp
structure HC (s : HS) (U : Msg → Prop) : Prop where
  dh : Diff s.held
  ge : ∀ m ∈ s.held, s.next ≤ m.n
  rise : Rise s.heard
  lt : ∀ m ∈ s.heard, m.n < s.next
  low : ∀ n, 1 ≤ n → n < s.next → ∃ m ∈ s.heard, m.n = n
  mem : ∀ m, (m ∈ s.heard ∨ m ∈ s.held) ↔ U m
theorem hc_start : HC hs0 (fun _ => False) where
  dh := List.nodup_nil
  ge := fun m h => absurd h List.not_mem_nil
  rise := .nil
  lt := fun m h => absurd h List.not_mem_nil
  low := fun n h1 h2 => by
    have : hs0.next = 1 := rfl
    omega
  mem := fun m => ⟨fun h => by rcases h with h | h <;> exact absurd h List.not_mem_nil, False.elim⟩
theorem hc_hear {s : HS} {U : Msg → Prop} (h : HC s U) : HC (hearS s) U :=
  (hearS_ind (P := fun s => HC s U) (fun t m h e => by
    obtain ⟨hm, hn⟩ := findN_some e
    have hx : HS.next ⟨t.heard ++ [m], dropN t.held m.n, t.lost⟩ = t.next + 1 := next_snoc
    refine ⟨dropN_diff h.dh, fun x hx' => ?_, ?_, fun x hx' => ?_, fun n h1 h2 => ?_, fun x => ?_⟩
    · obtain ⟨a, b⟩ := dropN_mem.mp hx'
      have := h.ge x a
      rw [hx]; omega
    · refine List.pairwise_append.mpr ⟨h.rise, List.pairwise_singleton _ _, fun x hx' y hy => ?_⟩
      rw [List.mem_singleton] at hy
      rw [hy]; have := h.lt x hx'; omega
    · rw [hx]
      rcases List.mem_append.mp hx' with y | y
      · have := h.lt x y; omega
      · rw [List.mem_singleton] at y; rw [y]; omega
    · rw [hx] at h2
      by_cases z : n < t.next
      · obtain ⟨k, hk, e⟩ := h.low n h1 z
        exact ⟨k, List.mem_append_left _ hk, e⟩
      · exact ⟨m, List.mem_append_right _ (List.mem_singleton.mpr rfl), by omega⟩
    · rw [← h.mem x]
      show (x ∈ t.heard ++ [m] ∨ x ∈ dropN t.held m.n) ↔ _
      rw [List.mem_append, List.mem_singleton, dropN_mem]
      constructor
      · rintro ((z | rfl) | ⟨z, _⟩)
        · exact .inl z
        · exact .inr hm
        · exact .inr z
      · rintro (z | z)
        · exact .inl (.inl z)
        · by_cases w : x.n = m.n
          · exact .inl (.inr (h.dh.eq z hm w))
          · exact .inr ⟨z, w⟩) s h).1
theorem hc_add {s : HS} {U : Msg → Prop} (h : HC s U) {m : Msg} (h1 : 1 ≤ m.n) (hu : ∀ x, U x → x.n = m.n → x = m) : HC (addS s m) (fun x => U x ∨ x = m) := by
  unfold addS
  by_cases z : m.n ≥ s.next
  · rw [if_pos z]
    have hs : ∀ x ∈ s.held, x.n = m.n → x = m := fun x hx e => hu x ((h.mem x).mp (.inr hx)) e
    refine ⟨putM_diff hs h.dh, fun x hx => ?_, h.rise, h.lt, h.low, fun x => ?_⟩
    · rcases (putM_mem hs).mp hx with w | w
      · exact h.ge x w
      · rw [w]; exact z
    · show (x ∈ s.heard ∨ x ∈ putM s.held m) ↔ _
      rw [putM_mem hs, ← h.mem x, or_assoc]
  · rw [if_neg z]
    obtain ⟨k, hk, e⟩ := h.low m.n h1 (by omega)
    have hkm : k = m := hu k ((h.mem k).mp (.inl hk)) e
    refine ⟨h.dh, h.ge, h.rise, h.lt, h.low, fun x => ?_⟩
    rw [h.mem x]
    refine ⟨.inl, ?_⟩
    rintro (w | rfl)
    · exact w
    · rw [← hkm]; exact (h.mem k).mp (.inl hk)
theorem hc_adds : ∀ {ms : List Msg} {s : HS} {U : Msg → Prop}, HC s U → (∀ m ∈ ms, 1 ≤ m.n) → (∀ m ∈ ms, ∀ x, (U x ∨ x ∈ ms) → x.n = m.n → x = m) → HC (ms.foldl addS s) (fun x => U x ∨ x ∈ ms)
  | [], s, U, h, _, _ => by
    have : (fun x => U x ∨ x ∈ ([] : List Msg)) = U := by funext x; simp
    rw [this]; exact h
  | m :: ms, s, U, h, h1, hu => by
    have hA := hc_add h (h1 m List.mem_cons_self) fun x hx e => hu m List.mem_cons_self x (.inl hx) e
    have hB := hc_adds (ms := ms) hA (fun k hk => h1 k (List.mem_cons_of_mem _ hk)) fun k hk x hx e => hu k (List.mem_cons_of_mem _ hk) x (by
      rcases hx with (w | w) | w
      · exact .inl w
      · exact .inr (by rw [w]; exact List.mem_cons_self)
      · exact .inr (List.mem_cons_of_mem _ w)) e
    have : (fun x => (U x ∨ x = m) ∨ x ∈ ms) = fun x => U x ∨ x ∈ m :: ms := by funext x; rw [List.mem_cons, or_assoc]
    rw [← this]; exact hB
theorem hc_take {ms : List Msg} {s : HS} {U : Msg → Prop} (h : HC s U) (h1 : ∀ m ∈ ms, 1 ≤ m.n) (hu : ∀ m ∈ ms, ∀ x, (U x ∨ x ∈ ms) → x.n = m.n → x = m) : HC (takeS s ms) (fun x => U x ∨ x ∈ ms) := hc_hear (hc_adds h h1 hu)
theorem hc_nd {s : HS} {U : Msg → Prop} (h : HC s U) : (s.heard.map (·.n) ++ s.held.map (·.n)).Nodup := by
  refine List.nodup_append.mpr ⟨rise_ndn h.rise, h.dh, fun a ha b hb e => ?_⟩
  obtain ⟨x, hx, rfl⟩ := List.mem_map.mp ha
  obtain ⟨y, hy, rfl⟩ := List.mem_map.mp hb
  have := h.lt x hx
  have := h.ge y hy
  omega
theorem hc_len {s : HS} {U : Msg → Prop} {wh : List Msg} (h : HC s U) (hU : ∀ m, U m → m ∈ wh) : s.heard.length + s.held.length ≤ wh.length := by
  have nd := hc_nd h
  have := List.Nodup.length_le_of_subset (l₁ := s.heard.map (·.n) ++ s.held.map (·.n)) (l₂ := wh.map (·.n)) nd fun n hn => by
    rcases List.mem_append.mp hn with hn | hn
    · obtain ⟨m, hm, rfl⟩ := List.mem_map.mp hn
      exact List.mem_map.mpr ⟨m, hU m ((h.mem m).mp (.inl hm)), rfl⟩
    · obtain ⟨m, hm, rfl⟩ := List.mem_map.mp hn
      exact List.mem_map.mpr ⟨m, hU m ((h.mem m).mp (.inr hm)), rfl⟩
  rw [List.length_append, List.length_map, List.length_map, List.length_map] at this
  exact this
theorem hc_all {s : HS} {wh : List Msg} (h : HC s (fun m => m ∈ wh)) (hr : Rise wh) : PySem.W.sortI (s.heard.map (·.n) ++ PySem.W.sortI (s.held.map (·.n))) = wh.map (·.n) := by
  refine (PySem.W.eq_sortI ?_ ((rise_ints hr).imp fun h => Int.le_of_lt h)).symm
  have hp : (s.heard.map (·.n) ++ PySem.W.sortI (s.held.map (·.n))).Perm (s.heard.map (·.n) ++ s.held.map (·.n)) := List.Perm.append_left _ (PySem.W.sortI_perm _)
  refine List.Perm.trans ?_ hp.symm
  refine (List.perm_ext_iff_of_nodup (rise_ndn hr) (hc_nd h)).mpr fun n => ?_
  rw [List.mem_append]
  constructor
  · intro hn
    obtain ⟨m, hm, rfl⟩ := List.mem_map.mp hn
    rcases (h.mem m).mpr hm with w | w
    · exact .inl (List.mem_map.mpr ⟨m, w, rfl⟩)
    · exact .inr (List.mem_map.mpr ⟨m, w, rfl⟩)
  · rintro (hn | hn)
    · obtain ⟨m, hm, rfl⟩ := List.mem_map.mp hn
      exact List.mem_map.mpr ⟨m, (h.mem m).mp (.inl hm), rfl⟩
    · obtain ⟨m, hm, rfl⟩ := List.mem_map.mp hn
      exact List.mem_map.mpr ⟨m, (h.mem m).mp (.inr hm), rfl⟩
end
end K15
namespace K15
open PySem L2
theorem eqv_msd : ∀ (a b : List Msg), PyData.eqvAll (a.map mD) (b.map mD) = decide (a = b)
  | [], [] => rfl
  | [], _ :: _ => rfl
  | _ :: _, [] => rfl
  | x :: a, y :: b => by
    show (PyData.eqv (mD x) (mD y) && PyData.eqvAll (a.map mD) (b.map mD)) = _
    rw [eqv_m, eqv_msd a b]
    by_cases h1 : x = y <;> by_cases h2 : a = b <;> simp [h1, h2]
def spLaw (K : PySem.W.Frag) : Sp := fun vs H Q _ => ∃ (a : Addr) (ns : List Int), vs = [.ref a] ∧ SqL K H a (ns.map V.int) ∧ ns.length ≤ 63 ∧ ∀ H', Q (.bl true) H'
section
variable {P : Program} {w : World} {K : PySem.W.Frag} {mg : Str → Option Value} {base : Heap}
abbrev s_law : Stmt := top 24
abbrev N_law : List Str := ["_law_script", "_law_messages_here", "_law_rows", "_law_k", "_law_whole", "_law_numbers", "_law_here", "_law_row", "_law_every", "_law_gone", "_law_hearer"]
theorem sc_law : FnScope N_law ["_law_script"] (defScope s_law) := ⟨rfl, rfl, rfl, by decide +kernel, rfl, by decide +kernel, by decide +kernel⟩
theorem ok_law {f C CO : Addr} {fd : FuncData} (F : Fun K "law" "law" s_law f fd) (T : Txt mg) (TC : HearK K mg C) (c_l_drawn : Callee P w K mg base 2 "_law_drawn" ["_law_script", "_law_k", "_law_many"] (spDrawn K)) (c_l_messages : Callee P w K mg base 4 "_law_messages" ["_law_script", "_law_at", "_law_most"] (spGMsgs K)) (c_l_state : Callee P w K mg base 1 "_law_state" ["_law_messages_here"] spLState) (c_state_of : Callee P w K mg base 5 "state_of" ["messages"] spState) (cx_put_together : CalleeX P w K mg base 3 "put_together" ["rows"] (spPutX CO)) (cx_lacking : CalleeX P w K mg base 3 "lacking" ["rows"] (spLackX CO)) (cx_common : CalleeX P w K mg base 4 "common" ["rows"] (spComX CO))
    (i_Hearer : CalleeI P w K mg base 1 C ["self"] (spInitH C)) (m_take_all : CalleeM P w K mg base 3 C "take_all" ["self", "messages"] (spTakeAll C)) (m_heard : CalleeM P w K mg base 1 C "heard" ["self"] (spHeard C)) (m_early : CalleeM P w K mg base 1 C "early" ["self"] (spEarly C)) :
    FnOk P w K mg base CX0 6 f fd ["_law_script"] (spLaw K) := by
  refine F.ok sc_law (fun vs H Q E h => ?_) (fun cdv A outer s0 H vs Q E hr h => ?_)
  · obtain ⟨sc, ns, rfl, _⟩ := h; rfl
  · obtain ⟨sc, ns, rfl, hS, hlen, q⟩ := h
    refine ⟨_, (pss_cons (ps_set (i := 1) sc_law.nd rfl (Or.inl rfl) (as_fn c_l_messages (hr.mono (by decide)) (at_cons (pv 0) (as_cons pe_int (as_cons pe_int as_nil)))))
      (pss_cons (ps_set (i := 2) sc_law.nd rfl (Or.inl rfl) (as_lst as_nil))
      (pss_cons (ps_for PassesOwn.never rfl (pi_range1 (by rfl) T.b_range (pa_cons (pe_op op_add pe_int (as_fn c_l_drawn (hr.mono (by decide)) (at_cons (pv 0) (as_cons pe_int (as_cons pe_int as_nil))))) pa_nil)) (pg_name (i := 3) sc_law.nd rfl (Or.inr rfl)) (pss_one (ps_expr (k_bm K PySem.F.plainAttrs_list PySem.F.slot_list_append PySem.F.type_list_append mt_append (pv 2) (pa_cons (pe_comp (N' := ["_law_j", "_law_message", "_law_script", "_law_k"]) (ix := [none, none, some 0, some 3]) (own := [0, 1]) rfl (cs_of (osc := defScope s_law) (ON := N_law) rfl rfl (by decide +kernel)) (by decide) (pi_enum K T.b_enumerate (pv 1)) (fun _ _ _ _ => (k_tup (n := 2) K rfl (pgs_cons (pg_name (i := 0) (show (["_law_j", "_law_message", "_law_script", "_law_k"] : List Str).Nodup by decide +kernel) rfl (Or.inl rfl)) (pgs_cons (pg_name (i := 1) (show (["_law_j", "_law_message", "_law_script", "_law_k"] : List Str).Nodup by decide +kernel) rfl (Or.inl rfl)) pgs_nil)))) (own_tup (owns_cons (owns_cons owns_nil))) (fun _ _ _ _ => (pifs_one (pt_cmpR op_gt (as_fn c_l_drawn (hr.mono (by decide)) (at_cons (pv 2) (as_cons (pe_op op_add (pe_op op_add pe_int (pe_op op_mul pe_int (pv 3))) (pv 0)) (as_cons pe_int as_nil)))) pe_int (nomark _)))) (fun _ _ _ _ => (pv 1))) pa_nil)))))
      (pss_cons (ps_set (i := 4) sc_law.nd rfl (Or.inl rfl) (as_fnX cx_put_together (hr.mono (by decide)) pass_none (at_cons (pv 2) as_nil)))
      (pss_cons (ps_comp (i := 5) sc_law.nd rfl (Or.inl rfl) (N' := ["_law_message"]) (ix := [none]) (own := [0]) rfl (cs_of (osc := defScope s_law) (ON := N_law) rfl rfl (by decide +kernel)) (by decide) (k_it_list K (pv 4)) (fun _ _ _ _ => (pg_name (i := 0) (show (["_law_message"] : List Str).Nodup by decide +kernel) rfl (Or.inl rfl))) own_name (fun _ _ _ _ => pifs_nil) (fun _ _ _ _ => (pe_ix (k_ix_tup K) (pv 0) pe_int (fun _ _ => rfl))))
      (pss_cons (ps_if (PW.pt (pw_or (pt_cmpR (op_neD hr.units) (pv 4) (as_callB (k_sortSetT P w) (by rfl) T.b_sorted PyProof.Rows.boot_sorted (at_cons (as_callTy (k_setT P w K hr) (by rfl) T.b_set PyProof.Rows.boot_set (at_cons (pv 4) as_nil)) as_nil)) (nomark _)) (pw_or1 (pt_cmpR (op_neD hr.units) (as_fnX cx_put_together (hr.mono (by decide)) pass_none (at_cons (k_revL K (pv 2)) as_nil)) (pv 4) (nomark _))))) (pss_one (ps_ret pe_bl)) pss_nil)
      (pss_cons (ps_if (pt_cmpR (op_neD hr.units) (as_fnX cx_put_together (hr.mono (by decide)) pass_none (at_cons (pe_op op_cat (as_lst (as_cons (pv 4) as_nil)) (pv 2)) as_nil)) (pv 4) (nomark _)) (pss_one (ps_ret pe_bl)) pss_nil)
      (pss_cons (ps_set (i := 6) sc_law.nd rfl (Or.inl rfl) (as_lst as_nil))
      (pss_cons (ps_for PassesOwn.never rfl (k_it_list K (pv 2)) (pg_name (i := 7) sc_law.nd rfl (Or.inr rfl)) (pss_one (ps_set (i := 6) sc_law.nd rfl (Or.inl rfl) (as_fnX cx_put_together (hr.mono (by decide)) pass_none (at_cons (as_lst (as_cons (pv 6) (as_cons (pv 7) as_nil))) as_nil)))))
      (pss_cons (ps_if (PW.pt (pw_or (pt_cmpR (op_neD hr.units) (pv 6) (pv 4) (nomark _)) (pw_or1 (pt_cmpR (k_ne0 K hr.units0) (pe_ix (k_ix_list K) (as_fnX cx_lacking (hr.mono (by decide)) pass_none (at_cons (pe_op op_cat (pv 2) (as_lst (as_cons (pv 4) as_nil))) as_nil)) (pe_un un_neg pe_int) (fun _ _ => rfl)) (as_lst as_nil) (nomark _))))) (pss_one (ps_ret pe_bl)) pss_nil)
      (pss_cons (ps_set (i := 8) sc_law.nd rfl (Or.inl rfl) (as_fnX cx_common (hr.mono (by decide)) pass_none (at_cons (pv 2) as_nil)))
      (pss_cons (ps_for PassesOwn.never rfl (pi_zip K T.b_zip (pa_cons (pv 2) (pa_cons (as_fnX cx_lacking (hr.mono (by decide)) pass_none (at_cons (pv 2) as_nil)) pa_nil))) (k_tup K rfl (pgs_cons (pg_name (i := 7) sc_law.nd rfl (Or.inr rfl)) (pgs_cons (pg_name (i := 9) sc_law.nd rfl (Or.inl rfl)) pgs_nil))) (pss_cons (ps_if (pt_cmpR (op_neD hr.units) (as_callB (k_sortI K rfl) (by rfl) T.b_sorted PyProof.Rows.boot_sorted (at_cons (pe_op op_cat (pe_comp (N' := ["_law_message"]) (ix := [none]) (own := [0]) rfl (cs_of (osc := defScope s_law) (ON := N_law) rfl rfl (by decide +kernel)) (by decide) (k_it_list K (pv 7)) (fun _ _ _ _ => (pg_name (i := 0) (show (["_law_message"] : List Str).Nodup by decide +kernel) rfl (Or.inl rfl))) own_name (fun _ _ _ _ => pifs_nil) (fun _ _ _ _ => (pe_ix (k_ix_tup K) (pv 0) pe_int (fun _ _ => rfl)))) (pv 9)) as_nil)) (pv 5) (nomark _)) (pss_one (ps_ret pe_bl)) pss_nil)
      (pss_one (ps_if (pt_cmpR (k_ne0 K hr.units0) (pe_comp (N' := ["_law_message", "_law_row"]) (ix := [none, some 7]) (own := [0]) rfl (cs_of (osc := defScope s_law) (ON := N_law) rfl rfl (by decide +kernel)) (by decide) (k_it_list K (pv 8)) (fun _ _ _ _ => (pg_name (i := 0) (show (["_law_message", "_law_row"] : List Str).Nodup by decide +kernel) rfl (Or.inl rfl))) own_name (fun _ _ _ _ => (pifs_one (pt_cmpR (op_notInD hr.in1u) (pv 0) (pv 1) (by with_unfolding_all rfl)))) (fun _ _ _ _ => (pv 0))) (as_lst as_nil) (nomark _)) (pss_one (ps_ret pe_bl)) pss_nil))))
      (pss_cons (ps_if (pt_cmpR (op_neD hr.units) (pv 8) (as_fnX cx_common (hr.mono (by decide)) pass_none (at_cons (pe_op op_cat (as_lst (as_cons (pv 8) as_nil)) (pv 2)) as_nil)) (nomark _)) (pss_one (ps_ret pe_bl)) pss_nil)
      (pss_cons (ps_if (pt_cmpR op_ne (pe_cmpR (op_eqD hr.units) (pv 8) (pv 4) (nomark _)) (pe_cmpR (k_eq0 K hr.units0) (pe_comp (N' := ["_law_gone"]) (ix := [none]) (own := [0]) rfl (cs_of (osc := defScope s_law) (ON := N_law) rfl rfl (by decide +kernel)) (by decide) (k_it_list K (as_fnX cx_lacking (hr.mono (by decide)) pass_none (at_cons (pv 2) as_nil))) (fun _ _ _ _ => (pg_name (i := 0) (show (["_law_gone"] : List Str).Nodup by decide +kernel) rfl (Or.inl rfl))) own_name (fun _ _ _ _ => (pifs_one (pt_cmpR (k_ne0 K hr.units0) (pv 0) (as_lst as_nil) (nomark _)))) (fun _ _ _ _ => (pv 0))) (as_lst as_nil) (nomark _)) (nomark _)) (pss_one (ps_ret pe_bl)) pss_nil)
      (pss_cons (ps_if (PW.pt (pw_or (pt_cmpR (op_neD hr.units) (as_fnX cx_common (hr.mono (by decide)) pass_none (at_cons (as_lst (as_cons (pv 4) as_nil)) as_nil)) (pv 4) (nomark _)) (pw_or1 (pt_cmpR (op_neS hr.units0) (as_fn c_state_of (hr.mono (by decide)) (at_cons (pv 4) as_nil)) (as_fn c_l_state (hr.mono (by decide)) (at_cons (pv 4) as_nil)) (nomark _))))) (pss_one (ps_ret pe_bl)) pss_nil)
      (pss_cons (ps_set (i := 10) sc_law.nd rfl (Or.inl rfl) (as_make0 i_Hearer (hr.mono (by decide)) TC.mg_Hearer))
      (pss_cons (ps_for PassesOwn.never rfl (k_it_list K (pv 2)) (pg_name (i := 7) sc_law.nd rfl (Or.inr rfl)) (pss_one (ps_expr (as_meth m_take_all TC.cl_Hearer (hr.mono (by decide)) (pv 10) (at_cons (pv 7) as_nil)))))
      (pss_one (ps_ret (pe_cmpR (op_eqD hr.units) (as_callB (k_sortI K rfl) (by rfl) T.b_sorted PyProof.Rows.boot_sorted (at_cons (pe_op op_cat (pe_comp (N' := ["_law_message"]) (ix := [none]) (own := [0]) rfl (cs_of (osc := defScope s_law) (ON := N_law) rfl rfl (by decide +kernel)) (by decide) (k_it_list K (as_meth0 m_heard TC.cl_Hearer (hr.mono (by decide)) (pv 10))) (fun _ _ _ _ => (pg_name (i := 0) (show (["_law_message"] : List Str).Nodup by decide +kernel) rfl (Or.inl rfl))) own_name (fun _ _ _ _ => pifs_nil) (fun _ _ _ _ => (pe_ix (k_ix_tup K) (pv 0) pe_int (fun _ _ => rfl)))) (as_meth0 m_early TC.cl_Hearer (hr.mono (by decide)) (pv 10))) as_nil)) (pv 5) (nomark _))))))))))))))))))))), ?_⟩
    refine ⟨_, rfl, sc, ns, 0, 8, rfl, hS, hlen, by decide, by decide, by decide, fun lm xm ms H1 s1 nlm elm hM hri hml gm => ?_⟩
    have hml8 : ms.length ≤ 8 := by omega
    have okm : ∀ m ∈ ms, mOk m := fun m hm => (gm m hm).1
    refine ⟨Nat.zero_le _, fun lr hlr => ?_⟩
    have s2 := Same.new (o := .lst []) hlr
    have elr : upd H1 lr (.lst []) lr = some (.lst []) := upd_same
    generalize upd H1 lr (.lst []) = H2 at s2 elr ⊢
    have hmr : lm ≠ lr := fun e => by rw [e, hlr] at elm; cases elm
    have d0 := drawn_nn ns 100 (m := 4) (by decide)
    have d1 := drawn_lt ns 100 (m := 4) (by decide)
    refine ⟨_, rfl, sc, ns, 100, 4, rfl, (s1.trans s2).seq hS, hlen, by decide, by decide, fun H3 s3 => ?_⟩
    generalize drawnF ns 100 4 = dk at d0 d1 ⊢
    refine ⟨1, dk, rfl, rfl, 1 + dk, rfl, by omega, by omega, for_range (lo := 0) (n := (1 + dk).toNat) (fun i σ H' => ∃ (o3 : Option V) (ys : List V) (rows : List (List Msg)), σ = [some (.ref sc), some (.ref lm), some (.ref lr), o3, none, none, none, none, none, none, none] ∧ H' lr = some (.lst ys) ∧ RwO H' lr ys rows ∧ Stp [lr] H3 [lr] H' ∧ rows.length = i ∧ ∀ r ∈ rows, r.Sublist ms)
      ⟨none, [], [], rfl, s3 _ _ elr, ⟨rfl, fun i r h => by simp at h⟩, (Same.refl H3).step _, rfl, fun _ h => nomatch h⟩ ?_ ?_⟩
    · rintro i σ H' hi ⟨o3, ys, rows, rfl, elr', hW, st, hrl, hsub⟩
      refine rd_name ?_
      have hi5 : i < 5 := by omega
      have elm' : H' lm = some (.lst xm) := st.keep (s3 _ _ (s2 _ _ elm)) (by simp [hmr])
      have hM' : Ms H' xm ms := ((hM.same s2).same s3).step st
      have hxl := hM'.len
      have hHr : H lr = none := Same.free s1 hlr
      have sH : Same H H' := fun b o hb => st.keep (((s1.trans s2).trans s3) _ _ hb) (by simp [ne_of_none hb hHr])
      have km : ∀ Hx, Same H' Hx → SqL K Hx lm xm := fun Hx sx => SqL.ofL (sx _ _ elm')
      refine ⟨_, rfl, .inl ⟨rfl, _, SqL.ofL elr'⟩, _, rfl, lm, rfl, ⟨_, km _ (Same.refl _)⟩, xm.length, fun i' zs Hx => Same H' Hx ∧ ∃ sub : List Msg, Ms Hx zs sub ∧ sub.Sublist (ms.take i'), by rw [sizeLine_eq]; omega, ⟨Same.refl _, [], Ms.nil, List.nil_sublist _⟩, ?_, fun zs Hx hG => ?_⟩
      · rintro i' zs Hx hi' ⟨sx, sub, hms, hss⟩
        have hil : i' < ms.length := by omega
        obtain ⟨c, ec, hc⟩ := (hM'.same sx).get hil
        refine ⟨⟨_, _, km _ sx, ec⟩, ?_⟩
        rintro x Hy ⟨T', v, rfl, nT, rfl, hv⟩
        have hv' := hv _ (km _ sx)
        rw [ec] at hv'
        obtain rfl := Option.some.inj hv'
        have sT := Same.new (o := .tup [.int (i' : Int), .ref c]) nT
        have eT : upd Hx T' (.tup [.int (i' : Int), .ref c]) T' = some (.tup [.int (i' : Int), .ref c]) := upd_same
        generalize upd Hx T' (.tup [.int (i' : Int), .ref c]) = Hy at sT eT ⊢
        have hss2 : (sub ++ [ms[i']]).Sublist (ms.take (i' + 1)) := by
          rw [List.take_add_one, List.getElem?_eq_getElem hil]
          exact hss.append (List.Sublist.refl _)
        have hss3 : sub.Sublist (ms.take (i' + 1)) := by
          rw [List.take_add_one]
          exact hss.trans (List.sublist_append_left _ _)
        generalize ms[i'] = m at hc hss2
        refine ⟨T', _, rfl, SqT.ofT eT, rfl, _, _, rfl, _, _, rfl, rfl, ?_⟩
        refine ⟨_, rfl, _, rfl, _, _, rfl, rfl, .inl (by decide), _, _, rfl, rfl, _, rfl, _, _, rfl, rfl, sc, ns, _, 3, rfl, (sH.trans (sx.trans sT)).seq hS, hlen, by omega, by decide, fun Hz sz => ?_⟩
        have sxz := sx.trans (sT.trans sz)
        refine ⟨_, _, rfl, rfl, _, rfl, ite2 (fun z => ⟨_, rfl, sxz, sub ++ [m], (hms.same (sT.trans sz)).append (Ms.one ((sT.trans sz) _ _ hc)), hss2⟩) (fun z => ⟨sxz, sub, hms.same (sT.trans sz), hss3⟩)⟩
      obtain ⟨sx, sub, hms, hss⟩ := hG
      rw [hxl, List.take_length] at hss
      refine ⟨⟨_, km _ sx, rfl⟩, fun D hD => ?_⟩
      have sd := Same.new (o := .lst zs) hD
      have eD : upd Hx D (.lst zs) D = some (.lst zs) := upd_same
      generalize upd Hx D (.lst zs) = Hd at sd eD ⊢
      have elr2 := (sx.trans sd) _ _ elr'
      have hDr : D ≠ lr := fun e => by rw [e, sx _ _ elr'] at hD; cases hD
      have hysl := hW.1
      refine ⟨lr, ys, .ref D, rfl, rfl, elr2, by rw [sizeLine_eq]; omega, ?_⟩
      have pu : Stp [lr] Hd [lr] (upd Hd lr (.lst (ys ++ [.ref D]))) := Stp.put elr2 (fun xs => nofun) List.mem_cons_self
      have hRw2 := ((hW.same (sx.trans sd)).step pu).snoc hDr (pu.keep eD (by simp [hDr])) ((hms.same sd).step pu)
      refine ⟨_, ys ++ [.ref D], rows ++ [sub], rfl, upd_same, hRw2, (st.trans ((sx.trans sd).step _)).trans pu, by rw [List.length_append, hrl]; rfl, fun r hr => ?_⟩
      rcases List.mem_append.mp hr with hr | hr
      · exact hsub r hr
      · rw [List.mem_singleton.mp hr]; exact hss
    rintro σ H4 ⟨o3, ys, rows, rfl, elr4, hW, st, hrl, hsub⟩
    have hHr : H lr = none := Same.free s1 hlr
    have sH4 : Same H H4 := fun b o hb => st.keep (((s1.trans s2).trans s3) _ _ hb) (by simp [ne_of_none hb hHr])
    have elm4 : H4 lm = some (.lst xm) := st.keep (s3 _ _ (s2 _ _ elm)) (by simp [hmr])
    have hM4 : Ms H4 xm ms := ((hM.same s2).same s3).step st
    have hxl := hM4.len
    have hysl := hW.1
    have hW0 := hW
    have hrw4 : rows.length ≤ 4 := by omega
    have hR4 : RsA H4 lr rows := ⟨ys, elr4, hW.has⟩
    have hrr : ∀ r ∈ rows, r.length ≤ 20 := fun r hr => by have := (hsub r hr).length_le; omega
    have hfl : ∀ m ∈ rows.flatten, m ∈ ms := fun m hm => by
      obtain ⟨r, hr, hm⟩ := List.mem_flatten.mp hm
      exact (hsub r hr).subset hm
    have okR : ∀ m ∈ rows.flatten, mOk m := fun m hm => okm m (hfl m hm)
    have hWh := wholeF_ok hri hfl
    have hwl : (wholeF ms rows).length ≤ ms.length := List.length_filter_le _ _
    have okw : ∀ m ∈ wholeF ms rows, mOk m := fun m hm => okm m (List.mem_filter.mp hm).1
    have gmw : ∀ m ∈ wholeF ms rows, m ∈ ms := fun m hm => (List.mem_filter.mp hm).1
    generalize hwe : wholeF ms rows = wh at hWh hwl okw gmw
    have hwm : ∀ m ∈ wh, m ∈ rows.flatten := fun m hm => (hWh.mem m).mp hm
    refine ⟨_, rfl, lr, rows, rfl, hR4, by omega, hrr, okR, .inl ⟨wh, hWh, by omega, fun pw yw H5 s5 nw ew hMw => ?_⟩⟩
    have hR5 := hR4.same s5
    have hyw := hMw.len
    have hys5 : HasL H5 ys (rows.map rowD) := hW0.has.same s5
    have elr5 := s5 _ _ elr4
    refine ⟨_, rfl, pw, rfl, ⟨_, SqL.ofL ew⟩, wh.length, fun i zs Hx => Hx = H5 ∧ zs = (wh.take i).map fun m => V.int m.n, szl (by omega), ⟨rfl, by simp⟩, ?_, ?_⟩
    · rintro i zs Hx hi ⟨rfl, rfl⟩
      obtain ⟨c, ec, hc⟩ := hMw.get hi
      refine ⟨⟨yw, .ref c, SqL.ofL ew, ec⟩, ?_⟩
      rintro x H3 ⟨rfl, hx⟩
      have hx' := hx yw (SqL.ofL ew)
      rw [ec] at hx'
      obtain rfl := Option.some.inj hx'
      refine rd_name ?_
      unfold tYes
      refine iteT ⟨_, rfl, c, _, 0, _, rfl, rfl, SqT.ofT hc, rfl, rfl, ?_⟩
      rw [List.take_add_one, List.getElem?_eq_getElem hi, List.map_append]; rfl
    rintro zs Hx ⟨rfl, rfl⟩
    rw [List.take_length]
    have eni : (wh.map fun m => V.int m.n) = (wh.map (·.n)).map V.int := by rw [List.map_map]; rfl
    rw [eni]
    refine ⟨⟨yw, SqL.ofL ew, by omega⟩, fun pn nn => ?_⟩
    have s6 := Same.new (o := .lst ((wh.map (·.n)).map V.int)) nn
    have en : upd Hx pn (.lst ((wh.map (·.n)).map V.int)) pn = some (.lst ((wh.map (·.n)).map V.int)) := upd_same
    generalize upd Hx pn (.lst ((wh.map (·.n)).map V.int)) = H6 at s6 en ⊢
    have bs : ∀ H', Same H6 H' → (H' lr = some (.lst ys) ∧ HasL H' ys (rows.map rowD)) ∧ (H' pw = some (.lst yw) ∧ Ms H' yw wh) ∧ H' pn = some (.lst ((wh.map (·.n)).map V.int)) := fun H' s => ⟨⟨(s6.trans s) _ _ elr5, hys5.same (s6.trans s)⟩, ⟨(s6.trans s) _ _ ew, hMw.same (s6.trans s)⟩, s _ _ en⟩
    dsimp only
    refine i_seq (i_if ?_)
    obtain ⟨xs, hx1, hx2, hx3⟩ := ms_pairs (hMw.same s6)
    have hxl2 : xs.length = wh.length := by rw [← hx1, List.length_map]
    refine ⟨_, rfl, _, rfl, pw, xs, rfl, by rw [← hx2]; exact SqL.ofL (s6 _ _ ew), hx3, by rw [hx1]; exact rise_nd hWh.ri, by omega, fun ps nps => ?_⟩
    have s7 := Same.new (o := SetT P w ps xs) nps
    refine ⟨ps, xs, rfl, upd_same, fun p hp => s7 _ _ (hx3 p hp), ?_, by omega, fun pt yt nt npt hMt hpt hrt => ?_⟩
    · have := rise_ndn hWh.ri
      rw [← hx1, List.map_map] at this
      exact this
    rw [hx1] at hpt
    have hnt : nt = wh := rise_uniq hpt hrt hWh.ri
    rw [hnt] at hMt
    have s8 := Same.new (o := .lst yt) npt
    have B8 := bs _ (s7.trans s8)
    refine ne_ms B8.2.1.1 B8.2.1.2 upd_same (hMt.same s8) okw ⟨_, rfl, iteF ?_⟩
    have s68 := s7.trans s8
    generalize upd (upd H6 ps (SetT P w ps xs)) pt (.lst yt) = H8 at B8 s68 ⊢
    clear s7 s8 hMt npt hpt hrt nps
    refine ⟨_, rfl, lr, ys, rfl, SqL.ofL B8.1.1, fun pr npr => ?_⟩
    have s9 := Same.new (o := .lst ys.reverse) npr
    have B9 := bs _ (s68.trans s9)
    refine ⟨pr, rows.reverse, rfl, ⟨_, upd_same, by rw [List.map_reverse]; exact hasL_rev B9.1.2⟩, by rw [List.length_reverse]; omega, fun r hr => hrr r (List.mem_reverse.mp hr), fun m hm => okR m (by simpa using hm), .inl ⟨wh, whole_rev hWh, by omega, fun p1 y1 H10 s10 n1 e1 m1 => ?_⟩⟩
    have s6a := (s68.trans s9).trans s10
    have B10 := bs _ s6a
    refine ⟨_, rfl, ne_ms e1 m1 B10.2.1.1 B10.2.1.2 okw ⟨_, rfl, iteF ?_⟩⟩
    clear s9 B9 s10 e1 m1 B8 s68
    refine i_next ?_
    dsimp only
    refine i_seq (i_if (i_test (i_op ?_)))
    refine ⟨_, rfl, (show 1 ≤ sizeLine by decide), fun q1 nq1 => ?_⟩
    have s11 := Same.new (o := .lst [.ref pw]) nq1
    have B11 := bs _ (s6a.trans s11)
    have eq1 : upd H10 q1 (.lst [.ref pw]) q1 = some (.lst [.ref pw]) := upd_same
    refine ⟨_, rfl, q1, lr, _, _, rfl, rfl, eq1, B11.1.1, by rw [sizeLine_eq]; simp; omega, fun q2 nq2 => ?_⟩
    have s12 := Same.new (o := .lst ([.ref pw] ++ ys)) nq2
    have s6b := (s6a.trans s11).trans s12
    have B12 := bs _ s6b
    have hro : ∀ r ∈ wh :: rows, r.length ≤ 20 := fun r hr => by
      rcases List.mem_cons.mp hr with rfl | hr
      · omega
      · exact hrr r hr
    have oko : ∀ m ∈ (wh :: rows).flatten, mOk m := fun m hm => by
      rw [List.flatten_cons] at hm
      rcases List.mem_append.mp hm with hm | hm
      · exact okw m hm
      · exact okR m hm
    refine ⟨q2, wh :: rows, rfl, ⟨_, upd_same, hasL_cons (has_lst B12.2.1.1 B12.2.1.2) B12.1.2⟩, by rw [List.length_cons]; omega, hro, oko, .inl ⟨wh, whole_front hWh, by omega, fun p2 y2 H13 s13 n2 e2 m2 => ?_⟩⟩
    have s6c := s6b.trans s13
    have B13 := bs _ s6c
    refine ⟨_, rfl, ne_ms e2 m2 B13.2.1.1 B13.2.1.2 okw ⟨_, rfl, iteF ?_⟩⟩
    clear s11 B11 eq1 s12 s6b B12 s13 e2 m2 s6a B10
    refine i_next ?_
    dsimp only
    refine ⟨Nat.zero_le _, fun ph nph => ?_⟩
    have s14 := Same.new (o := .lst []) nph
    have B14 := bs _ (s6c.trans s14)
    refine ⟨_, rfl, lr, rfl, ⟨ys, SqL.ofL B14.1.1⟩, for_list (K := K) (a := lr) (xs := ys) (fun i σ H' => ∃ (o7 : Option V) (ph : Addr) (yh : List V), σ = [some (.ref sc), some (.ref lm), some (.ref lr), o3, some (.ref pw), some (.ref pn), some (.ref ph), o7, none, none, none] ∧ Same H6 H' ∧ H' ph = some (.lst yh) ∧ Ms H' yh (wholeF ms (rows.take i)))
      ⟨none, ph, [], rfl, s6c.trans s14, upd_same, ?_⟩ (fun i σ H' _ ⟨_, _, _, _, sx, _⟩ => SqL.ofL (bs _ sx).1.1) ?_ ?_⟩
    · have : wholeF ms (rows.take 0) = [] := by
        unfold wholeF
        rw [List.filter_eq_nil_iff]
        intro m _
        simp
      rw [this]; exact Ms.nil
    · rintro i y σ H' hi ⟨o7, ph, yh, rfl, sx, eh, hMh⟩
      have Bx := bs _ sx
      have hil : i < rows.length := by rw [← hysl]; exact (List.getElem?_eq_some_iff.mp hi).1
      obtain ⟨c, xs', ec, hc, hMr⟩ := row_at Bx.1.2 hil
      rw [hi] at ec
      obtain rfl := Option.some.inj ec
      have hws := whole_step hri hfl hil
      have hrm : rows[i] ∈ rows := List.getElem_mem hil
      have hw1 : (wholeF ms (rows.take i)).length ≤ ms.length := List.length_filter_le _ _
      have hw2 : (wholeF ms (rows.take (i + 1))).length ≤ ms.length := List.length_filter_le _ _
      have ok1 : ∀ m ∈ wholeF ms (rows.take i), mOk m := fun m hm => okm m (List.mem_filter.mp hm).1
      have ok2 : ∀ m ∈ rows[i], mOk m := fun m hm => okR m (List.mem_flatten.mpr ⟨_, hrm, hm⟩)
      have hrl2 := hrr _ hrm
      refine rd_name ?_
      refine ⟨_, rfl, _, rfl, (show 2 ≤ sizeLine by decide), fun q3 nq3 => ?_⟩
      have s15 := Same.new (o := .lst [.ref ph, .ref c]) nq3
      refine ⟨q3, [wholeF ms (rows.take i), rows[i]], rfl, ⟨_, upd_same, hasL_cons (has_lst (s15 _ _ eh) (hMh.same s15)) (hasL_cons (has_lst (s15 _ _ hc) (hMr.same s15)) hasL_nil)⟩, (show 2 ≤ 20 by decide), fun r hr => ?_, fun m hm => ?_, .inl ⟨_, hws, by omega, fun p3 y3 H16 s16 n3 e3 m3 => ?_⟩⟩
      · rcases List.mem_cons.mp hr with rfl | hr
        · omega
        · rw [List.mem_singleton.mp hr]; exact hrl2
      · have hm' : m ∈ wholeF ms (rows.take i) ∨ m ∈ rows[i] := by simpa using hm
        exact hm'.elim (ok1 m) (ok2 m)
      exact ⟨_, p3, y3, rfl, (sx.trans s15).trans s16, e3, m3⟩
    rintro σ H17 ⟨o7, ph', yh, rfl, s17, eh, hMh⟩
    rw [hysl, List.take_length, hwe] at hMh
    have B17 := bs _ s17
    clear B14 s14 nph
    dsimp only
    refine i_seq (i_if ?_)
    refine ⟨_, rfl, _, rfl, ne_ms eh hMh B17.2.1.1 B17.2.1.2 okw ⟨_, rfl, iteF ?_⟩⟩
    refine i_test (i_op ?_)
    refine ⟨_, rfl, _, rfl, (show 1 ≤ sizeLine by decide), fun q4 nq4 => ?_⟩
    have s18 := Same.new (o := .lst [.ref pw]) nq4
    have B18 := bs _ (s17.trans s18)
    have eq4 : upd H17 q4 (.lst [.ref pw]) q4 = some (.lst [.ref pw]) := upd_same
    refine ⟨lr, q4, _, _, rfl, rfl, B18.1.1, eq4, by rw [sizeLine_eq]; simp; omega, fun q5 nq5 => ?_⟩
    have s19 := Same.new (o := .lst (ys ++ [.ref pw])) nq5
    have s6d := (s17.trans s18).trans s19
    have B19 := bs _ s6d
    refine ⟨q5, rows ++ [wh], rfl, ⟨_, upd_same, by rw [List.map_append]; exact B19.1.2.append (hasL_cons (has_lst B19.2.1.1 B19.2.1.2) hasL_nil)⟩, by rw [List.length_append]; simp; omega, fun r hr => ?_, fun m hm => ?_, .inl ⟨wh, whole_behind hWh, by omega, fun q6 yq H20 s20 nq6 eq6 hq6 hnew6 => ?_⟩⟩
    · rcases List.mem_append.mp hr with hr | hr
      · exact hrr r hr
      · rw [List.mem_singleton.mp hr]; omega
    · rw [List.flatten_append] at hm
      rcases List.mem_append.mp hm with hm | hm
      · exact okR m hm
      · exact okw m (by simpa using hm)
    have s6e := s6d.trans s20
    have B20 := bs _ s6e
    have hql : yq.length = rows.length + 1 := by have := hq6.length; rwa [List.length_map, List.length_append] at this
    obtain ⟨yl, hyl1, hyl2⟩ := hq6.get (i := rows.length) (d := intsD []) (by rw [List.map_append, List.getElem?_append_right (by rw [List.length_map]; exact Nat.le_refl _), List.length_map, Nat.sub_self]; show some (intsD (lackF wh wh)) = _; rw [lack_self])
    unfold intsD Has at hyl2
    obtain ⟨al, xl, rfl, hal, hxl0⟩ := hyl2
    have hxl1 : xl = [] := by have := hxl0.length; simpa using this
    subst hxl1
    have hlast : atI yq (-1) = some (.ref al) := by
      have e : yq = yq.take rows.length ++ [.ref al] := by
        rw [← List.take_append_drop rows.length yq]
        congr 1
        · rw [List.take_append_drop]
        · rw [List.drop_eq_getElem_cons (by omega), List.drop_of_length_le (by omega)]
          rw [List.getElem?_eq_getElem (by omega)] at hyl1
          rw [Option.some.inj hyl1]
      rw [e]; exact atI_last _ _
    refine ⟨1, rfl, q6, yq, -1, _, rfl, rfl, SqL.ofL eq6, hlast, Nat.zero_le _, fun q7 nq7 => ?_⟩
    have s21 := Same.new (o := .lst []) nq7
    refine ⟨al, q7, [], rfl, rfl, SqL.ofL (s21 _ _ hal), SqL.ofL upd_same, ⟨_, rfl, iteF ?_⟩⟩
    have s6f := s6e.trans s21
    have B21 := bs _ s6f
    generalize upd H20 q7 (.lst []) = H21 at s6f B21 ⊢
    clear s18 s19 s20 s21 s6d s6e B17 B18 B19 B20 hq6 hnew6 eq6 hal hxl0 hlast hyl1 hql
    refine i_next ?_
    dsimp only
    refine ⟨_, rfl, lr, rows, rfl, ⟨ys, B21.1.1, B21.1.2⟩, by omega, hrr, okR, .inl ⟨wh, hWh, by omega, fun pe ye H22 s22 npe epe hMe => ?_⟩⟩
    have s6g := s6f.trans s22
    have B22 := bs _ s6g
    clear B21 s22 s6f
    have hsubM : ∀ r ∈ rows, Rise r := fun r hr => hri.sublist (hsub r hr)
    have okc : ∀ m ∈ comF rows wh, mOk m := fun m hm => okw m (List.mem_filter.mp hm).1
    have hcl : (comF rows wh).length ≤ wh.length := List.length_filter_le _ _
    have hyc := hMe.len
    refine ⟨_, rfl, _, rfl, lr, rows, rfl, ⟨ys, B22.1.1, B22.1.2⟩, by omega, hrr, okR, .inl ⟨wh, hWh, by omega, fun pg yg H23 s23 npg epg hpg hnewg => ?_⟩⟩
    have s6h := s6g.trans s23
    have epe23 := s23 _ _ epe
    have hMe23 := hMe.same s23
    have hgl : yg.length = rows.length := by have := hpg.length; rwa [List.length_map] at this
    refine ⟨lr, pg, rfl, ⟨ys, SqL.ofL (bs _ s6h).1.1⟩, ⟨yg, SqL.ofL epg⟩, for_it (n := rows.length) (fun i σ H' => ∃ (o7 o9 : Option V), σ = [some (.ref sc), some (.ref lm), some (.ref lr), o3, some (.ref pw), some (.ref pn), some (.ref ph'), o7, some (.ref pe), o9, none] ∧ Same H23 H') ⟨_, _, rfl, Same.refl _⟩ ?_ ?_⟩
    · rintro i σ H' hi ⟨o7, o9, rfl, sx⟩
      have Bx := bs _ (s6h.trans sx)
      obtain ⟨c, xr, ec, hc, hMr⟩ := row_at Bx.1.2 hi
      obtain ⟨yl, eg, hg⟩ := (hpg.same sx).get (i := i) (d := intsD (lackF wh rows[i])) (by rw [List.getElem?_map, List.getElem?_eq_getElem hi]; rfl)
      have hrm : rows[i] ∈ rows := List.getElem_mem hi
      have hrl2 := hrr _ hrm
      have hrise := hsubM _ hrm
      have okr : ∀ m ∈ rows[i], mOk m := fun m hm => okR m (List.mem_flatten.mpr ⟨_, hrm, hm⟩)
      generalize rows[i] = row at hMr hg hrm hrl2 hrise okr
      unfold intsD Has at hg
      obtain ⟨ag, xg, rfl, hag, hxg⟩ := hg
      obtain rfl := hasL_int hxg
      refine ⟨⟨ys, yg, _, _, SqL.ofL Bx.1.1, SqL.ofL (sx _ _ epg), ec, eg⟩, ?_⟩
      rintro x Hy ⟨T', x1, y1, rfl, nT, rfl, hv1, hv2⟩
      have h1' := hv1 ys (SqL.ofL Bx.1.1)
      rw [ec] at h1'
      obtain rfl := Option.some.inj h1'
      have h2' := hv2 yg (SqL.ofL (sx _ _ epg))
      rw [eg] at h2'
      obtain rfl := Option.some.inj h2'
      have sT := Same.new (o := .tup [.ref c, .ref ag]) nT
      have eT : upd H' T' (.tup [.ref c, .ref ag]) T' = some (.tup [.ref c, .ref ag]) := upd_same
      generalize upd H' T' (.tup [.ref c, .ref ag]) = Hy at sT eT ⊢
      have hcy := sT _ _ hc
      have hMy := hMr.same sT
      have hagy := sT _ _ hag
      have sxy := sx.trans sT
      refine ⟨T', _, rfl, SqT.ofT eT, rfl, _, _, rfl, _, _, rfl, rfl, ?_⟩
      have hlw : (lackF wh row).length ≤ wh.length := by unfold lackF; rw [List.length_map]; exact List.length_filter_le _ _
      refine ⟨_, rfl, c, rfl, ⟨_, SqL.ofL hcy⟩, row.length, fun j zs Hx => Hx = Hy ∧ zs = (row.take j).map fun m => V.int m.n, szl (by omega), ⟨rfl, by simp⟩, ?_, ?_⟩
      · rintro j zs Hx hj ⟨rfl, rfl⟩
        obtain ⟨cm, ecm, hcm⟩ := hMy.get hj
        refine ⟨⟨xr, .ref cm, SqL.ofL hcy, ecm⟩, ?_⟩
        rintro x H3 ⟨rfl, hx⟩
        have hx' := hx xr (SqL.ofL hcy)
        rw [ecm] at hx'
        obtain rfl := Option.some.inj hx'
        refine rd_name ?_
        unfold tYes
        refine iteT ⟨_, rfl, cm, _, 0, _, rfl, rfl, SqT.ofT hcm, rfl, rfl, ?_⟩
        rw [List.take_add_one, List.getElem?_eq_getElem hj, List.map_append]; rfl
      rintro zs Hx ⟨rfl, rfl⟩
      rw [List.take_length]
      have eni : (row.map fun m => V.int m.n) = (row.map (·.n)).map V.int := by rw [List.map_map]; rfl
      rw [eni]
      refine ⟨⟨xr, SqL.ofL hcy, by rw [hMy.len]; exact Nat.le_refl _⟩, fun d1 nd1 => ?_⟩
      have k1 := Same.new (o := .lst ((row.map (·.n)).map V.int)) nd1
      have ed1 : upd Hx d1 (.lst ((row.map (·.n)).map V.int)) d1 = some (.lst ((row.map (·.n)).map V.int)) := upd_same
      generalize upd Hx d1 (.lst ((row.map (·.n)).map V.int)) = Ha at k1 ed1 ⊢
      refine ⟨_, rfl, d1, ag, _, _, rfl, rfl, ed1, k1 _ _ hagy, by rw [sizeLine_eq, List.length_map, List.length_map, List.length_map]; omega, fun d2 nd2 => ?_⟩
      have k2 := Same.new (o := .lst ((row.map (·.n)).map V.int ++ (lackF wh row).map V.int)) nd2
      have ed2 : upd Ha d2 (.lst ((row.map (·.n)).map V.int ++ (lackF wh row).map V.int)) d2 = some (.lst ((row.map (·.n) ++ lackF wh row).map V.int)) := by rw [List.map_append]; exact upd_same
      generalize upd Ha d2 (.lst ((row.map (·.n)).map V.int ++ (lackF wh row).map V.int)) = Hb at k2 ed2 ⊢
      refine ⟨_, _, rfl, .inl ⟨d2, rfl, SqL.ofL ed2⟩, by rw [List.length_append, List.length_map]; omega, fun d3 nd3 => ?_⟩
      rw [row_lack hWh hrm hrise]
      have k3 := Same.new (o := .lst ((wh.map (·.n)).map V.int)) nd3
      have kk := sxy.trans (k1.trans (k2.trans k3))
      have Bk := bs _ (s6h.trans kk)
      refine ⟨_, rfl, ne_D (has_lst upd_same (hasL_ints (wh.map (·.n)))) (has_lst Bk.2.2 (hasL_ints (wh.map (·.n)))) (shaped_ints _) ⟨_, rfl, iteF ?_⟩⟩
      generalize upd Hb d3 (.lst ((wh.map (·.n)).map V.int)) = Hc at k3 kk Bk ⊢
      have kc := k1.trans (k2.trans k3)
      refine i_next ?_
      dsimp only
      refine i_if (i_test (i_op ?_))
      have hcc := kc _ _ hcy
      have hMc := hMy.same kc
      have eec := kk _ _ epe23
      have hMec := hMe23.same kk
      refine ⟨_, rfl, pe, rfl, ⟨_, SqL.ofL eec⟩, (comF rows wh).length, fun j zs Hx => Hx = Hc ∧ zs = [], szl (by omega), ⟨rfl, rfl⟩, ?_, ?_⟩
      · rintro j zs Hx hj ⟨rfl, rfl⟩
        obtain ⟨cm, ecm, hcm⟩ := hMec.get hj
        refine ⟨⟨ye, .ref cm, SqL.ofL eec, ecm⟩, ?_⟩
        rintro x H3 ⟨rfl, hx⟩
        have hx' := hx ye (SqL.ofL eec)
        rw [ecm] at hx'
        obtain rfl := Option.some.inj hx'
        have hmc : (comF rows wh)[j] ∈ comF rows wh := List.getElem_mem hj
        refine rd_name ⟨_, rfl, _, rfl, in_ms hcc hMc (msg_has hcm) okr (okc _ hmc) ⟨_, rfl, ite2 (fun z => ?_) (fun z => ⟨rfl, rfl⟩)⟩⟩
        exfalso
        rw [decide_eq_true (com_in hWh hrm hmc)] at z
        simp at z
      rintro zs Hx ⟨rfl, rfl⟩
      refine ⟨⟨ye, SqL.ofL eec, by omega⟩, fun d4 nd4 => ?_⟩
      have k4 := Same.new (o := .lst []) nd4
      refine ⟨Nat.zero_le _, fun d5 nd5 => ?_⟩
      have k5 := Same.new (o := .lst []) nd5
      exact ⟨d4, d5, [], rfl, rfl, SqL.ofL (k5 _ _ upd_same), SqL.ofL upd_same, ⟨_, rfl, iteF ⟨_, _, rfl, kk.trans (k4.trans k5)⟩⟩⟩
    rintro σ H24 ⟨o7', o9, rfl, s24⟩
    have s6i := s6h.trans s24
    have B24 := bs _ s6i
    refine ⟨⟨ys, yg, SqL.ofL B24.1.1, SqL.ofL (s24 _ _ epg), by rw [hysl, hgl, Nat.min_self]⟩, ?_⟩
    have epe24 := s24 _ _ epe23
    have hMe24 := hMe23.same s24
    clear hpg epg hnewg npg s23 s6h s6g epe23 hMe23 B22 hMe epe
    dsimp only
    refine i_seq (i_if (i_test (i_op ?_)))
    obtain ⟨hWc, hcf⟩ := com_front hWh (fun e => by rw [e] at hrl; simp at hrl; omega)
    refine ⟨_, rfl, _, rfl, (show 1 ≤ sizeLine by decide), fun q8 nq8 => ?_⟩
    have s25 := Same.new (o := .lst [.ref pe]) nq8
    have B25 := bs _ (s6i.trans s25)
    have eq8 : upd H24 q8 (.lst [.ref pe]) q8 = some (.lst [.ref pe]) := upd_same
    refine ⟨_, rfl, q8, lr, _, _, rfl, rfl, eq8, B25.1.1, by rw [sizeLine_eq]; simp; omega, fun q9 nq9 => ?_⟩
    have s26 := Same.new (o := .lst ([.ref pe] ++ ys)) nq9
    have s6j := (s6i.trans s25).trans s26
    have B26 := bs _ s6j
    have s2426 := s25.trans s26
    refine ⟨q9, comF rows wh :: rows, rfl, ⟨_, upd_same, hasL_cons (has_lst (s2426 _ _ epe24) (hMe24.same s2426)) B26.1.2⟩, by rw [List.length_cons]; omega, fun r hr => ?_, fun m hm => ?_, .inl ⟨wh, hWc, by omega, fun p5 y5 H27 s27 n5 e5 m5 => ?_⟩⟩
    · rcases List.mem_cons.mp hr with rfl | hr
      · omega
      · exact hrr r hr
    · rw [List.flatten_cons] at hm
      rcases List.mem_append.mp hm with hm | hm
      · exact okc m hm
      · exact okR m hm
    rw [hcf] at m5
    have s2427 := s2426.trans s27
    have s6k := s6j.trans s27
    have B27 := bs _ s6k
    have epe27 := s2427 _ _ epe24
    have hMe27 := hMe24.same s2427
    refine ne_ms epe27 hMe27 e5 m5 okc ⟨_, rfl, iteF ?_⟩
    clear s25 B25 eq8 s26 s6j B26 s2426 s27 s2427 e5 m5 epe24 hMe24 s6i B24
    refine i_next ?_
    dsimp only
    refine i_seq (i_if (i_test (i_op (i_op ?_))))
    refine ⟨_, rfl, _, rfl, _, _, has_lst epe27 hMe27, has_lst B27.2.1.1 B27.2.1.2, shaped_ms okc, shaped_ms okw, ?_⟩
    have eqb : PyData.eqv (.list ((comF rows wh).map mD)) (.list (wh.map mD)) = decide (comF rows wh = wh) := eqv_msd _ _
    rw [eqb]
    refine ⟨_, rfl, lr, rows, rfl, ⟨ys, B27.1.1, B27.1.2⟩, by omega, hrr, okR, .inl ⟨wh, hWh, by omega, fun pl yl H28 s28 npl epl hpl hnewl => ?_⟩⟩
    have s6l := s6k.trans s28
    have hll : yl.length = rows.length := by have := hpl.length; rwa [List.length_map] at this
    refine ⟨pl, rfl, ⟨_, SqL.ofL epl⟩, rows.length, fun i zs Hx => Same H28 Hx ∧ zs.isEmpty = (rows.take i).all fun r => (lackF wh r).isEmpty, szl (by omega), ⟨Same.refl _, rfl⟩, ?_, ?_⟩
    · rintro i zs Hx hi ⟨sx, hz⟩
      obtain ⟨yg, eg, hg⟩ := (hpl.same sx).get (i := i) (d := intsD (lackF wh rows[i])) (by rw [List.getElem?_map, List.getElem?_eq_getElem hi]; rfl)
      unfold intsD Has at hg
      obtain ⟨ag, xg, rfl, hag, hxg⟩ := hg
      obtain rfl := hasL_int hxg
      refine ⟨⟨yl, .ref ag, SqL.ofL (sx _ _ epl), eg⟩, ?_⟩
      rintro x H3 ⟨rfl, hx⟩
      have hx' := hx yl (SqL.ofL (sx _ _ epl))
      rw [eg] at hx'
      obtain rfl := Option.some.inj hx'
      refine rd_name ⟨_, rfl, Nat.zero_le _, fun d1 nd1 => ?_⟩
      have k1 := Same.new (o := .lst []) nd1
      refine ⟨ag, d1, _, rfl, rfl, SqL.ofL (k1 _ _ hag), SqL.ofL upd_same, ⟨_, rfl, ?_⟩⟩
      have hall : ((rows.take (i + 1)).all fun r => (lackF wh r).isEmpty) = (((rows.take i).all fun r => (lackF wh r).isEmpty) && (lackF wh rows[i]).isEmpty) := by
        rw [List.take_add_one, List.getElem?_eq_getElem hi, List.all_append]
        simp
      have hme : ((lackF wh rows[i]).map V.int).isEmpty = (lackF wh rows[i]).isEmpty := by cases lackF wh rows[i] <;> rfl
      rw [hme]
      refine ite2 (fun z => ⟨_, rfl, sx.trans k1, ?_⟩) (fun z => ⟨sx.trans k1, ?_⟩)
      · rw [hall]
        have : (lackF wh rows[i]).isEmpty = false := by simpa using z
        rw [this, Bool.and_false]
        cases zs <;> rfl
      · rw [hall, hz]
        have : (lackF wh rows[i]).isEmpty = true := by simpa using z
        rw [this, Bool.and_true]
    rintro zs Hx ⟨sx, hz⟩
    rw [List.take_length] at hz
    refine ⟨⟨yl, SqL.ofL (sx _ _ epl), by omega⟩, fun d2 nd2 => ?_⟩
    have k2 := Same.new (o := .lst zs) nd2
    refine ⟨Nat.zero_le _, fun d3 nd3 => ?_⟩
    have k3 := Same.new (o := .lst []) nd3
    refine ⟨d2, d3, zs, rfl, rfl, SqL.ofL (k3 _ _ upd_same), SqL.ofL upd_same, rfl, ?_⟩
    have hsame : decide (comF rows wh = wh) = zs.isEmpty := by
      rw [hz]
      by_cases w : comF rows wh = wh
      · rw [decide_eq_true w]
        have := (com_all hWh).mp w
        exact (List.all_eq_true.mpr fun r hr => by rw [this r hr]; rfl).symm
      · rw [decide_eq_false w]
        refine (Bool.eq_false_iff.mpr fun z => w ((com_all hWh).mpr fun r hr => ?_)).symm
        have := List.all_eq_true.mp z r hr
        exact List.isEmpty_iff.mp this
    rw [hsame]
    have hdd : (!decide (V.bl zs.isEmpty = V.bl zs.isEmpty)) = false := by simp
    rw [hdd]
    refine ⟨_, rfl, iteF ?_⟩
    have s6m := s6l.trans (sx.trans (k2.trans k3))
    have B28 := bs _ s6m
    generalize upd (upd Hx d2 (.lst zs)) d3 (.lst []) = H29 at s6m B28 ⊢
    clear k2 k3 sx hz hpl epl hnewl npl s28 s6l s6k B27 epe27 hMe27 hsame hdd
    refine i_next ?_
    dsimp only
    refine i_seq (i_if ?_)
    refine ⟨_, rfl, (show 1 ≤ sizeLine by decide), fun q1 nq1 => ?_⟩
    have s30 := Same.new (o := .lst [.ref pw]) nq1
    have B30 := bs _ (s6m.trans s30)
    refine ⟨q1, [wh], rfl, ⟨_, upd_same, hasL_cons (has_lst B30.2.1.1 B30.2.1.2) hasL_nil⟩, (show 1 ≤ 20 by decide), fun r hr => by rw [List.mem_singleton.mp hr]; omega, fun m hm => okw m (by simpa using hm), .inl ⟨wh, whole_alone hWh.ri, by omega, fun p6 y6 H31 s31 n6 e6 m6 => ?_⟩⟩
    rw [com_whole] at m6
    have s6n := (s6m.trans s30).trans s31
    have B31 := bs _ s6n
    refine ⟨_, rfl, ne_ms e6 m6 B31.2.1.1 B31.2.1.2 okw ⟨_, rfl, iteF ?_⟩⟩
    refine ⟨_, rfl, pw, yw, wh, rfl, B31.2.1.1, B31.2.1.2, by omega, hWh.ri.diff, fun p7 ls H32 s32 n7 e7 hls => ?_⟩
    have B32 := bs _ (s6n.trans s32)
    refine ⟨_, rfl, pw, yw, wh, rfl, B32.2.1.1, B32.2.1.2, by omega, fun p8 H33 s33 n8 e8 => ?_⟩
    have hst : eqT (stOf ls) (putsM wh) = true := st_eq (List.Perm.refl _) hWh.ri hls
    refine ⟨p7, p8, _, _, rfl, rfl, s33 _ _ e7, e8, ?_⟩
    rw [hst]
    refine ⟨_, rfl, iteF ?_⟩
    have s6o := (s6n.trans s32).trans s33
    have B33 := bs _ s6o
    clear s30 B30 s31 s6n B31 s32 B32 s33 e7 e8 hls hst e6 m6 s6m B28
    refine i_next ?_
    dsimp only
    intro p1 dx1 np1 nd1 nx1
    have o1 := Stp.obj (o := .own p1) (o' := .ins C dx1 []) np1 nd1
    refine ⟨p1, dx1, rfl, upd_same, fun A1 H34 ep1 hA34 st1 => ⟨rfl, ?_⟩⟩
    subst ep1
    have mk1 : Stp [] H33 A1.fp H34 := o1.trans st1
    have r34 : Same H33 (rst A1.fp H34) := fun b o hb => rst_stp mk1 b o (by rw [rst_out List.not_mem_nil]; exact hb)
    have h1n : ∀ m ∈ ms, 1 ≤ m.n := fun m hm => (gm m hm).2.1
    have hag := hWh.agree
    have bh : ∀ H', Same H33 (rst A1.fp H') → Same H6 H' := fun H' s => s6o.trans (s.trans rst_same)
    refine ⟨_, rfl, lr, rfl, ⟨ys, SqL.ofL (bs _ (bh _ r34)).1.1⟩, for_list (K := K) (a := lr) (xs := ys) (fun i σ H' => ∃ (o7 : Option V) (s : HS), σ = [some (.ref sc), some (.ref lm), some (.ref lr), o3, some (.ref pw), some (.ref pn), some (.ref ph'), o7, some (.ref pe), o9, some (.ref A1.p)] ∧ Same H33 (rst A1.fp H') ∧ HAt C H' A1 s [] ∧ HC s (fun m => m ∈ (rows.take i).flatten) ∧ s.lost = [])
      ⟨_, hs0, rfl, r34, hA34, ?_, rfl⟩ (fun i σ H' _ ⟨_, _, _, sx, _⟩ => SqL.ofL (bs _ (bh _ sx)).1.1) ?_ ?_⟩
    · have : (fun m : Msg => m ∈ (rows.take 0).flatten) = fun _ => False := by funext m; simp
      rw [this]; exact hc_start
    · rintro i y σ H' hi ⟨o7, s, rfl, sx, hA, hC, hlo⟩
      have Bx := bs _ (bh _ sx)
      have hil : i < rows.length := by rw [← hysl]; exact (List.getElem?_eq_some_iff.mp hi).1
      obtain ⟨c, xr, ec, hc, hMr⟩ := row_at Bx.1.2 hil
      rw [hi] at ec
      obtain rfl := Option.some.inj ec
      have hrm : rows[i] ∈ rows := List.getElem_mem hil
      have hrl2 := hrr _ hrm
      have hsf : ∀ m ∈ rows[i], m ∈ rows.flatten := fun m hm => List.mem_flatten.mpr ⟨_, hrm, hm⟩
      have hst0 : ∀ m, m ∈ (rows.take i).flatten → m ∈ rows.flatten := fun m hm => by
        obtain ⟨r, hr, hmr⟩ := List.mem_flatten.mp hm
        exact List.mem_flatten.mpr ⟨r, List.mem_of_mem_take hr, hmr⟩
      have hU : (fun x : Msg => x ∈ (rows.take i).flatten ∨ x ∈ rows[i]) = fun x => x ∈ (rows.take (i + 1)).flatten := by
        funext x
        rw [List.take_add_one, List.getElem?_eq_getElem hil, List.flatten_append, List.mem_append]
        simp
      generalize rows[i] = row at hMr hrm hrl2 hsf hU
      have hl1 := hc_len hC fun m hm => (hWh.mem m).mpr (hst0 m hm)
      have hu : ∀ m ∈ row, ∀ x, (x ∈ (rows.take i).flatten ∨ x ∈ row) → x.n = m.n → x = m := fun m hm x hx e => hag x (hx.elim (hst0 x) (hsf x)) m (hsf m hm) e
      have hfit : Fits s row := ⟨fun m hm x hx e => hu m hm x (.inl ((hC.mem x).mp hx)) e, fun m hm x hx e => hu m hm x (.inr hx) e⟩
      obtain ⟨dx, g⟩ := hA.ob
      refine rd_name ?_
      refine ⟨_, rfl, A1.p, dx, _, rfl, g, no_h hA (.inr (.inr (.inl rfl))), _, rfl, A1, s, [], c, xr, row, rfl, hA, hc, hMr, by omega, hfit, fun m hm => okR m (hsf m hm), hC.dh, by rw [hlo, List.length_nil]; omega, fun l4 y4 fo4 H'' hA'' eh st nl4 ol4 el4 ml4 => ?_⟩
      have hC2 := hc_take hC (fun m hm => h1n m (hfl m (hsf m hm))) hu
      rw [hU] at hC2
      refine ⟨_, takeS s row, rfl, (sx.trans (rst_stp st)).trans (rst_more (Same.refl _) fun c hc => .inl (List.mem_cons_of_mem _ hc)), hA'', hC2, ?_⟩
      unfold takeS
      rw [hearS_lost, adds_lost, hlo]
    rintro σ H35 ⟨o7f, s, rfl, s35, hA, hC, hlo⟩
    rw [hysl, List.take_length] at hC
    have hC' : HC s (fun m => m ∈ wh) := by
      have : (fun m : Msg => m ∈ rows.flatten) = fun m => m ∈ wh := by funext m; exact propext (hWh.mem m).symm
      rw [this] at hC; exact hC
    have hln := hc_len hC' fun m hm => hm
    have B35 := bs _ (bh _ s35)
    obtain ⟨dx, g⟩ := hA.ob
    refine ⟨_, rfl, A1.p, dx, _, rfl, g, no_h hA (.inr (.inr (.inr (.inr (.inr (.inl rfl)))))), A1, s, [], rfl, hA, fun l5 y5 n5 m5 => ?_⟩
    have t1 := Same.new (o := .lst y5) n5
    have e5 : upd H35 l5 (.lst y5) l5 = some (.lst y5) := upd_same
    generalize upd H35 l5 (.lst y5) = H36 at t1 e5 m5 ⊢
    have hy5 := m5.len
    refine ⟨l5, rfl, ⟨_, SqL.ofL e5⟩, s.heard.length, fun j zs Hx => Hx = H36 ∧ zs = (s.heard.take j).map fun m => V.int m.n, szl (by omega), ⟨rfl, by simp⟩, ?_, ?_⟩
    · rintro j zs Hx hj ⟨rfl, rfl⟩
      obtain ⟨cm, ecm, hcm⟩ := m5.get hj
      refine ⟨⟨y5, .ref cm, SqL.ofL e5, ecm⟩, ?_⟩
      rintro x H3 ⟨rfl, hx⟩
      have hx' := hx y5 (SqL.ofL e5)
      rw [ecm] at hx'
      obtain rfl := Option.some.inj hx'
      refine rd_name ?_
      unfold tYes
      refine iteT ⟨_, rfl, cm, _, 0, _, rfl, rfl, SqT.ofT hcm, rfl, rfl, ?_⟩
      rw [List.take_add_one, List.getElem?_eq_getElem hj, List.map_append]; rfl
    rintro zs Hx ⟨rfl, rfl⟩
    rw [List.take_length]
    have enh : (s.heard.map fun m => V.int m.n) = (s.heard.map (·.n)).map V.int := by rw [List.map_map]; rfl
    rw [enh]
    refine ⟨⟨y5, SqL.ofL e5, by omega⟩, fun d1 nd1 => ?_⟩
    have t2 := Same.new (o := .lst ((s.heard.map (·.n)).map V.int)) nd1
    have ed1 : upd Hx d1 (.lst ((s.heard.map (·.n)).map V.int)) d1 = some (.lst ((s.heard.map (·.n)).map V.int)) := upd_same
    generalize upd Hx d1 (.lst ((s.heard.map (·.n)).map V.int)) = H37 at t2 ed1 ⊢
    have t12 := t1.trans t2
    refine ⟨_, rfl, A1.p, dx, _, rfl, t12 _ _ g, no_h hA (.inr (.inr (.inr (.inr (.inr (.inr (.inl rfl))))))), A1, s, [], rfl, hA.same t12, by omega, fun le nle => ?_⟩
    have t3 := Same.new (o := .lst ((PySem.W.sortI (s.held.map (·.n))).map V.int)) nle
    have ele : upd H37 le (.lst ((PySem.W.sortI (s.held.map (·.n))).map V.int)) le = some (.lst ((PySem.W.sortI (s.held.map (·.n))).map V.int)) := upd_same
    generalize upd H37 le (.lst ((PySem.W.sortI (s.held.map (·.n))).map V.int)) = H38 at t3 ele ⊢
    have hsl : (PySem.W.sortI (s.held.map (·.n))).length = s.held.length := by rw [(PySem.W.sortI_perm _).length_eq, List.length_map]
    refine ⟨d1, le, _, _, rfl, rfl, t3 _ _ ed1, ele, by rw [sizeLine_eq, List.length_map, List.length_map, List.length_map, hsl]; omega, fun d2 nd2 => ?_⟩
    have t4 := Same.new (o := .lst ((s.heard.map (·.n)).map V.int ++ (PySem.W.sortI (s.held.map (·.n))).map V.int)) nd2
    have ed2 : upd H38 d2 (.lst ((s.heard.map (·.n)).map V.int ++ (PySem.W.sortI (s.held.map (·.n))).map V.int)) d2 = some (.lst ((s.heard.map (·.n) ++ PySem.W.sortI (s.held.map (·.n))).map V.int)) := by rw [List.map_append]; exact upd_same
    generalize upd H38 d2 (.lst ((s.heard.map (·.n)).map V.int ++ (PySem.W.sortI (s.held.map (·.n))).map V.int)) = H39 at t4 ed2 ⊢
    refine ⟨_, _, rfl, .inl ⟨d2, rfl, SqL.ofL ed2⟩, by rw [List.length_append, List.length_map, hsl]; omega, fun d3 nd3 => ?_⟩
    rw [hc_all hC' hWh.ri]
    have t5 := Same.new (o := .lst ((wh.map (·.n)).map V.int)) nd3
    have Bz := bs _ ((bh _ s35).trans (t12.trans (t3.trans (t4.trans t5))))
    exact ⟨_, rfl, eq_D (has_lst upd_same (hasL_ints (wh.map (·.n)))) (has_lst Bz.2.2 (hasL_ints (wh.map (·.n)))) (shaped_ints _) (q _)⟩
end
end K15
namespace K15
open PySem L2
theorem all_mk {l : PySem.W.OpenLaw} {w : World} {K : PySem.W.Frag} {h : Heap} {mg : Str → Option Value} {fa f0 f1 f2 f3 f4 f5 f6 f7 f8 f9 f10 f11 f12 f13 f14 f15 f16 f17 f18 f19 f20 f21 C_Hearer CO : Addr} (X : K.In h) (G : h.Ns mainGlobals mg) (hfa : mg "law" = some (.ref fa))
    {od0 an0 od1 an1 od2 an2 od3 an3 od4 an4 od5 an5 od6 an6 od7 an7 od8 an8 od9 an9 od10 an10 od11 an11 od12 an12 od13 an13 od14 an14 od15 an15 od16 an16 od17 an17 od18 an18 od19 an19 od20 an20 od21 an21 : Option Addr} {sl0 sl1 sl2 sl3 sl4 sl5 sl6 sl7 sl8 sl9 sl10 sl11 sl12 sl13 sl14 sl15 sl16 sl17 sl18 sl19 sl20 sl21 : Array (Option Value)} {oc0 kV0 dc0 pm0 cd0 ct0 oc1 kV1 dc1 pm1 cd1 ct1 oc2 kV2 dc2 pm2 cd2 ct2 oc3 kV3 dc3 pm3 cd3 ct3 oc4 kV4 dc4 pm4 cd4 ct4 oc5 kV5 dc5 pm5 cd5 ct5 oc6 kV6 dc6 pm6 cd6 ct6 oc7 kV7 dc7 pm7 cd7 ct7 oc8 kV8 dc8 pm8 cd8 ct8 oc9 kV9 dc9 pm9 cd9 ct9 oc10 kV10 dc10 pm10 cd10 ct10 oc11 kV11 dc11 pm11 cd11 ct11 oc12 kV12 dc12 pm12 cd12 ct12 oc13 kV13 dc13 pm13 cd13 ct13 oc14 kV14 dc14 pm14 cd14 ct14 oc15 kV15 dc15 pm15 cd15 ct15 oc16 kV16 dc16 pm16 cd16 ct16 oc17 kV17 dc17 pm17 cd17 ct17 oc18 kV18 dc18 pm18 cd18 ct18 oc19 kV19 dc19 pm19 cd19 ct19 oc20 kV20 dc20 pm20 cd20 ct20 oc21 kV21 dc21 pm21 cd21 ct21 : Value}
    (aX_Other : PySem.W.nsIn K mainGlobals "Other" = some (some (.ref CO)))
    (xe_Other : PySem.W.excIn K CO [.type "ValueError", .type "Exception", .type "BaseException", .type "object"] "ValueError.__new__" = true)
    (aC_Hearer : PySem.W.nsIn K mainGlobals "Hearer" = some (some (.ref C_Hearer)))
    (pg_Hearer : PySem.W.plainGet K C_Hearer Str.empty = true)
    (hd_Hearer : PySem.W.hasDictIn K C_Hearer = true)
    (po_Hearer : PySem.W.plainOver K C_Hearer = true)
    (sa_Hearer : PySem.W.findIn K (.ref C_Hearer) "__setattr__" = some (some (.builtin "object.__setattr__")))
    (mk_Hearer : PySem.W.makesIn K C_Hearer = true)
    (kc_Hearer : PySem.W.keepIn K (.ref C_Hearer) = true)
    (n_Hearer_next_number : PySem.W.findIn K (.ref C_Hearer) "next_number" = some none)
    (n_Hearer_past : PySem.W.findIn K (.ref C_Hearer) "past" = some none)
    (n_Hearer_held : PySem.W.findIn K (.ref C_Hearer) "held" = some none)
    (n_Hearer_known : PySem.W.findIn K (.ref C_Hearer) "known" = some none)
    (n_Hearer_given_up : PySem.W.findIn K (.ref C_Hearer) "given_up" = some none)
    (a0 : PySem.W.nsIn K mainGlobals "number_of" = some (some (.ref f0)))
    (l0 : K.lookup f0 = some ⟨oc0, od0, .func (PySem.W.fnOf "number_of" "number_of" (defArgs s_number_of) (defBody s_number_of) (defScope s_number_of) .none kV0 dc0 pm0 an0 cd0 ct0), sl0⟩)
    (c0 : PySem.W.codeIn K cd0 "number_of" = true)
    (k0 : PySem.W.keepIn K (.ref f0) = true)
    (a1 : PySem.W.nsIn K mainGlobals "topic_of" = some (some (.ref f1)))
    (l1 : K.lookup f1 = some ⟨oc1, od1, .func (PySem.W.fnOf "topic_of" "topic_of" (defArgs s_topic_of) (defBody s_topic_of) (defScope s_topic_of) .none kV1 dc1 pm1 an1 cd1 ct1), sl1⟩)
    (c1 : PySem.W.codeIn K cd1 "topic_of" = true)
    (k1 : PySem.W.keepIn K (.ref f1) = true)
    (a2 : PySem.W.nsIn K mainGlobals "text_of" = some (some (.ref f2)))
    (l2 : K.lookup f2 = some ⟨oc2, od2, .func (PySem.W.fnOf "text_of" "text_of" (defArgs s_text_of) (defBody s_text_of) (defScope s_text_of) .none kV2 dc2 pm2 an2 cd2 ct2), sl2⟩)
    (c2 : PySem.W.codeIn K cd2 "text_of" = true)
    (k2 : PySem.W.keepIn K (.ref f2) = true)
    (a3 : PySem.W.nsIn K mainGlobals "last_ones" = some (some (.ref f3)))
    (l3 : K.lookup f3 = some ⟨oc3, od3, .func (PySem.W.fnOf "last_ones" "last_ones" (defArgs s_last_ones) (defBody s_last_ones) (defScope s_last_ones) .none kV3 dc3 pm3 an3 cd3 ct3), sl3⟩)
    (c3 : PySem.W.codeIn K cd3 "last_ones" = true)
    (k3 : PySem.W.keepIn K (.ref f3) = true)
    (a4 : PySem.W.nsIn K mainGlobals "state_of" = some (some (.ref f4)))
    (l4 : K.lookup f4 = some ⟨oc4, od4, .func (PySem.W.fnOf "state_of" "state_of" (defArgs s_state_of) (defBody s_state_of) (defScope s_state_of) .none kV4 dc4 pm4 an4 cd4 ct4), sl4⟩)
    (c4 : PySem.W.codeIn K cd4 "state_of" = true)
    (k4 : PySem.W.keepIn K (.ref f4) = true)
    (a5 : PySem.W.nsIn K mainGlobals "by_numbers" = some (some (.ref f5)))
    (l5 : K.lookup f5 = some ⟨oc5, od5, .func (PySem.W.fnOf "by_numbers" "by_numbers" (defArgs s_by_numbers) (defBody s_by_numbers) (defScope s_by_numbers) .none kV5 dc5 pm5 an5 cd5 ct5), sl5⟩)
    (c5 : PySem.W.codeIn K cd5 "by_numbers" = true)
    (k5 : PySem.W.keepIn K (.ref f5) = true)
    (a6 : PySem.W.nsIn K mainGlobals "put_together" = some (some (.ref f6)))
    (l6 : K.lookup f6 = some ⟨oc6, od6, .func (PySem.W.fnOf "put_together" "put_together" (defArgs s_put_together) (defBody s_put_together) (defScope s_put_together) .none kV6 dc6 pm6 an6 cd6 ct6), sl6⟩)
    (c6 : PySem.W.codeIn K cd6 "put_together" = true)
    (k6 : PySem.W.keepIn K (.ref f6) = true)
    (a7 : PySem.W.nsIn K mainGlobals "lacking" = some (some (.ref f7)))
    (l7 : K.lookup f7 = some ⟨oc7, od7, .func (PySem.W.fnOf "lacking" "lacking" (defArgs s_lacking) (defBody s_lacking) (defScope s_lacking) .none kV7 dc7 pm7 an7 cd7 ct7), sl7⟩)
    (c7 : PySem.W.codeIn K cd7 "lacking" = true)
    (k7 : PySem.W.keepIn K (.ref f7) = true)
    (a8 : PySem.W.nsIn K mainGlobals "common" = some (some (.ref f8)))
    (l8 : K.lookup f8 = some ⟨oc8, od8, .func (PySem.W.fnOf "common" "common" (defArgs s_common) (defBody s_common) (defScope s_common) .none kV8 dc8 pm8 an8 cd8 ct8), sl8⟩)
    (c8 : PySem.W.codeIn K cd8 "common" = true)
    (k8 : PySem.W.keepIn K (.ref f8) = true)
    (a9 : PySem.W.findIn K (.ref C_Hearer) "__init__" = some (some (.ref f9)))
    (i9 : PySem.W.isFn K (.ref f9) = true)
    (l9 : K.lookup f9 = some ⟨oc9, od9, .func (PySem.W.fnOf "__init__" "Hearer.__init__" (defArgs s_Hearer___init__) (defBody s_Hearer___init__) (defScope s_Hearer___init__) .none kV9 dc9 pm9 an9 cd9 ct9), sl9⟩)
    (c9 : PySem.W.codeIn K cd9 "Hearer.__init__" = true)
    (k9 : PySem.W.keepIn K (.ref f9) = true)
    (a10 : PySem.W.findIn K (.ref C_Hearer) "hear_held" = some (some (.ref f10)))
    (i10 : PySem.W.isFn K (.ref f10) = true)
    (l10 : K.lookup f10 = some ⟨oc10, od10, .func (PySem.W.fnOf "hear_held" "Hearer.hear_held" (defArgs s_Hearer_hear_held) (defBody s_Hearer_hear_held) (defScope s_Hearer_hear_held) .none kV10 dc10 pm10 an10 cd10 ct10), sl10⟩)
    (c10 : PySem.W.codeIn K cd10 "Hearer.hear_held" = true)
    (k10 : PySem.W.keepIn K (.ref f10) = true)
    (a11 : PySem.W.findIn K (.ref C_Hearer) "refuse_others" = some (some (.ref f11)))
    (i11 : PySem.W.isFn K (.ref f11) = true)
    (l11 : K.lookup f11 = some ⟨oc11, od11, .func (PySem.W.fnOf "refuse_others" "Hearer.refuse_others" (defArgs s_Hearer_refuse_others) (defBody s_Hearer_refuse_others) (defScope s_Hearer_refuse_others) .none kV11 dc11 pm11 an11 cd11 ct11), sl11⟩)
    (c11 : PySem.W.codeIn K cd11 "Hearer.refuse_others" = true)
    (k11 : PySem.W.keepIn K (.ref f11) = true)
    (a12 : PySem.W.findIn K (.ref C_Hearer) "take_all" = some (some (.ref f12)))
    (i12 : PySem.W.isFn K (.ref f12) = true)
    (l12 : K.lookup f12 = some ⟨oc12, od12, .func (PySem.W.fnOf "take_all" "Hearer.take_all" (defArgs s_Hearer_take_all) (defBody s_Hearer_take_all) (defScope s_Hearer_take_all) .none kV12 dc12 pm12 an12 cd12 ct12), sl12⟩)
    (c12 : PySem.W.codeIn K cd12 "Hearer.take_all" = true)
    (k12 : PySem.W.keepIn K (.ref f12) = true)
    (a13 : PySem.W.findIn K (.ref C_Hearer) "heard" = some (some (.ref f13)))
    (i13 : PySem.W.isFn K (.ref f13) = true)
    (l13 : K.lookup f13 = some ⟨oc13, od13, .func (PySem.W.fnOf "heard" "Hearer.heard" (defArgs s_Hearer_heard) (defBody s_Hearer_heard) (defScope s_Hearer_heard) .none kV13 dc13 pm13 an13 cd13 ct13), sl13⟩)
    (c13 : PySem.W.codeIn K cd13 "Hearer.heard" = true)
    (k13 : PySem.W.keepIn K (.ref f13) = true)
    (a14 : PySem.W.findIn K (.ref C_Hearer) "early" = some (some (.ref f14)))
    (i14 : PySem.W.isFn K (.ref f14) = true)
    (l14 : K.lookup f14 = some ⟨oc14, od14, .func (PySem.W.fnOf "early" "Hearer.early" (defArgs s_Hearer_early) (defBody s_Hearer_early) (defScope s_Hearer_early) .none kV14 dc14 pm14 an14 cd14 ct14), sl14⟩)
    (c14 : PySem.W.codeIn K cd14 "Hearer.early" = true)
    (k14 : PySem.W.keepIn K (.ref f14) = true)
    (a15 : PySem.W.nsIn K mainGlobals "_law_cell" = some (some (.ref f15)))
    (l15 : K.lookup f15 = some ⟨oc15, od15, .func (PySem.W.fnOf "_law_cell" "_law_cell" (defArgs s_l_cell) (defBody s_l_cell) (defScope s_l_cell) .none kV15 dc15 pm15 an15 cd15 ct15), sl15⟩)
    (c15 : PySem.W.codeIn K cd15 "_law_cell" = true)
    (k15 : PySem.W.keepIn K (.ref f15) = true)
    (a16 : PySem.W.nsIn K mainGlobals "_law_drawn" = some (some (.ref f16)))
    (l16 : K.lookup f16 = some ⟨oc16, od16, .func (PySem.W.fnOf "_law_drawn" "_law_drawn" (defArgs s_l_drawn) (defBody s_l_drawn) (defScope s_l_drawn) .none kV16 dc16 pm16 an16 cd16 ct16), sl16⟩)
    (c16 : PySem.W.codeIn K cd16 "_law_drawn" = true)
    (k16 : PySem.W.keepIn K (.ref f16) = true)
    (a17 : PySem.W.nsIn K mainGlobals "_law_said" = some (some (.ref f17)))
    (l17 : K.lookup f17 = some ⟨oc17, od17, .func (PySem.W.fnOf "_law_said" "_law_said" (defArgs s_l_said) (defBody s_l_said) (defScope s_l_said) .none kV17 dc17 pm17 an17 cd17 ct17), sl17⟩)
    (c17 : PySem.W.codeIn K cd17 "_law_said" = true)
    (k17 : PySem.W.keepIn K (.ref f17) = true)
    (a18 : PySem.W.nsIn K mainGlobals "_law_topic" = some (some (.ref f18)))
    (l18 : K.lookup f18 = some ⟨oc18, od18, .func (PySem.W.fnOf "_law_topic" "_law_topic" (defArgs s_l_topic) (defBody s_l_topic) (defScope s_l_topic) .none kV18 dc18 pm18 an18 cd18 ct18), sl18⟩)
    (c18 : PySem.W.codeIn K cd18 "_law_topic" = true)
    (k18 : PySem.W.keepIn K (.ref f18) = true)
    (a19 : PySem.W.nsIn K mainGlobals "_law_messages" = some (some (.ref f19)))
    (l19 : K.lookup f19 = some ⟨oc19, od19, .func (PySem.W.fnOf "_law_messages" "_law_messages" (defArgs s_l_messages) (defBody s_l_messages) (defScope s_l_messages) .none kV19 dc19 pm19 an19 cd19 ct19), sl19⟩)
    (c19 : PySem.W.codeIn K cd19 "_law_messages" = true)
    (k19 : PySem.W.keepIn K (.ref f19) = true)
    (a20 : PySem.W.nsIn K mainGlobals "_law_state" = some (some (.ref f20)))
    (l20 : K.lookup f20 = some ⟨oc20, od20, .func (PySem.W.fnOf "_law_state" "_law_state" (defArgs s_l_state) (defBody s_l_state) (defScope s_l_state) .none kV20 dc20 pm20 an20 cd20 ct20), sl20⟩)
    (c20 : PySem.W.codeIn K cd20 "_law_state" = true)
    (k20 : PySem.W.keepIn K (.ref f20) = true)
    (a21 : PySem.W.nsIn K mainGlobals "law" = some (some (.ref f21)))
    (l21 : K.lookup f21 = some ⟨oc21, od21, .func (PySem.W.fnOf "law" "law" (defArgs s_law) (defBody s_law) (defScope s_law) .none kV21 dc21 pm21 an21 cd21 ct21), sl21⟩)
    (c21 : PySem.W.codeIn K cd21 "law" = true)
    (k21 : PySem.W.keepIn K (.ref f21) = true)
    (z0 : PySem.W.nsIn K mainGlobals "len" = some none)
    (z1 : PySem.W.nsIn K mainGlobals "range" = some none)
    (z2 : PySem.W.nsIn K mainGlobals "list" = some none)
    (z3 : PySem.W.nsIn K mainGlobals "sorted" = some none)
    (z4 : PySem.W.nsIn K mainGlobals "set" = some none)
    (z5 : PySem.W.nsIn K mainGlobals "enumerate" = some none)
    (z6 : PySem.W.nsIn K mainGlobals "zip" = some none)
    : ∃ fd : FuncData, (∀ (s : Shared) (v : Value), BindsTo s fd ⟨[v], []⟩ [("_law_script", v)]) ∧ ∀ base : Heap, K.In base → base.Ns mainGlobals mg → FnOk l.prog w K mg base CX0 6 fa fd ["_law_script"] (spLaw K) := by
  have e := hfa.symm.trans (PySem.W.mg_of X G a21)
  cases e
  have T : Txt mg := { b_len := PySem.W.mg_none_of X G z0, b_range := PySem.W.mg_none_of X G z1, b_list := PySem.W.mg_none_of X G z2, b_sorted := PySem.W.mg_none_of X G z3, b_set := PySem.W.mg_none_of X G z4, b_enumerate := PySem.W.mg_none_of X G z5, b_zip := PySem.W.mg_none_of X G z6 }
  have R_Hearer : HearK K mg C_Hearer := { cl_Hearer := ⟨pg_Hearer, hd_Hearer, po_Hearer, sa_Hearer⟩, mg_Hearer := PySem.W.mg_of X G aC_Hearer, n_next_number := n_Hearer_next_number, n_past := n_Hearer_past, n_held := n_Hearer_held, n_known := n_Hearer_known, n_given_up := n_Hearer_given_up }
  have TC := R_Hearer
  have xc_Other : Exc K mg "Other" CO := ⟨PySem.W.mg_of X G aX_Other, xe_Other⟩
  have F0 := fun_mk (st := s_number_of) l0 c0 k0
  have b0 := F0.binds (ps := ["message"]) fun _ _ _ _ _ _ us hl => match us, hl with | [_], _ => rfl
  have F1 := fun_mk (st := s_topic_of) l1 c1 k1
  have b1 := F1.binds (ps := ["message"]) fun _ _ _ _ _ _ us hl => match us, hl with | [_], _ => rfl
  have F2 := fun_mk (st := s_text_of) l2 c2 k2
  have b2 := F2.binds (ps := ["message"]) fun _ _ _ _ _ _ us hl => match us, hl with | [_], _ => rfl
  have F3 := fun_mk (st := s_last_ones) l3 c3 k3
  have b3 := F3.binds (ps := ["messages"]) fun _ _ _ _ _ _ us hl => match us, hl with | [_], _ => rfl
  have F4 := fun_mk (st := s_state_of) l4 c4 k4
  have b4 := F4.binds (ps := ["messages"]) fun _ _ _ _ _ _ us hl => match us, hl with | [_], _ => rfl
  have F5 := fun_mk (st := s_by_numbers) l5 c5 k5
  have b5 := F5.binds (ps := ["rows"]) fun _ _ _ _ _ _ us hl => match us, hl with | [_], _ => rfl
  have F6 := fun_mk (st := s_put_together) l6 c6 k6
  have b6 := F6.binds (ps := ["rows"]) fun _ _ _ _ _ _ us hl => match us, hl with | [_], _ => rfl
  have F7 := fun_mk (st := s_lacking) l7 c7 k7
  have b7 := F7.binds (ps := ["rows"]) fun _ _ _ _ _ _ us hl => match us, hl with | [_], _ => rfl
  have F8 := fun_mk (st := s_common) l8 c8 k8
  have b8 := F8.binds (ps := ["rows"]) fun _ _ _ _ _ _ us hl => match us, hl with | [_], _ => rfl
  have F9 := fun_mk (st := s_Hearer___init__) l9 c9 k9
  have b9 := F9.binds (ps := ["self"]) fun _ _ _ _ _ _ us hl => match us, hl with | [_], _ => rfl
  have F10 := fun_mk (st := s_Hearer_hear_held) l10 c10 k10
  have b10 := F10.binds (ps := ["self"]) fun _ _ _ _ _ _ us hl => match us, hl with | [_], _ => rfl
  have F11 := fun_mk (st := s_Hearer_refuse_others) l11 c11 k11
  have b11 := F11.binds (ps := ["self", "messages"]) fun _ _ _ _ _ _ us hl => match us, hl with | [_, _], _ => rfl
  have F12 := fun_mk (st := s_Hearer_take_all) l12 c12 k12
  have b12 := F12.binds (ps := ["self", "messages"]) fun _ _ _ _ _ _ us hl => match us, hl with | [_, _], _ => rfl
  have F13 := fun_mk (st := s_Hearer_heard) l13 c13 k13
  have b13 := F13.binds (ps := ["self"]) fun _ _ _ _ _ _ us hl => match us, hl with | [_], _ => rfl
  have F14 := fun_mk (st := s_Hearer_early) l14 c14 k14
  have b14 := F14.binds (ps := ["self"]) fun _ _ _ _ _ _ us hl => match us, hl with | [_], _ => rfl
  have F15 := fun_mk (st := s_l_cell) l15 c15 k15
  have b15 := F15.binds (ps := ["_law_script", "_law_k"]) fun _ _ _ _ _ _ us hl => match us, hl with | [_, _], _ => rfl
  have F16 := fun_mk (st := s_l_drawn) l16 c16 k16
  have b16 := F16.binds (ps := ["_law_script", "_law_k", "_law_many"]) fun _ _ _ _ _ _ us hl => match us, hl with | [_, _, _], _ => rfl
  have F17 := fun_mk (st := s_l_said) l17 c17 k17
  have b17 := F17.binds (ps := ["_law_script", "_law_at"]) fun _ _ _ _ _ _ us hl => match us, hl with | [_, _], _ => rfl
  have F18 := fun_mk (st := s_l_topic) l18 c18 k18
  have b18 := F18.binds (ps := ["_law_script", "_law_at"]) fun _ _ _ _ _ _ us hl => match us, hl with | [_, _], _ => rfl
  have F19 := fun_mk (st := s_l_messages) l19 c19 k19
  have b19 := F19.binds (ps := ["_law_script", "_law_at", "_law_most"]) fun _ _ _ _ _ _ us hl => match us, hl with | [_, _, _], _ => rfl
  have F20 := fun_mk (st := s_l_state) l20 c20 k20
  have b20 := F20.binds (ps := ["_law_messages_here"]) fun _ _ _ _ _ _ us hl => match us, hl with | [_], _ => rfl
  have F21 := fun_mk (st := s_law) l21 c21 k21
  refine ⟨PySem.W.fnOf "law" "law" (defArgs s_law) (defBody s_law) (defScope s_law) .none kV21 dc21 pm21 an21 cd21 ct21, fun s v => .of_eq rfl, fun base _ _ => ?_⟩
  have C0 : Callee l.prog w K mg base 1 "number_of" ["message"] (spItem 0) := ⟨_, _, ok_number_of F0 , PySem.W.mg_of X G a0, k0, b0⟩
  have C1 : Callee l.prog w K mg base 1 "topic_of" ["message"] (spItem 1) := ⟨_, _, ok_topic_of F1 , PySem.W.mg_of X G a1, k1, b1⟩
  have C2 : Callee l.prog w K mg base 1 "text_of" ["message"] (spItem 2) := ⟨_, _, ok_text_of F2 , PySem.W.mg_of X G a2, k2, b2⟩
  have C3 : Callee l.prog w K mg base 4 "last_ones" ["messages"] (spLast) := ⟨_, _, ok_last_ones F3 T C0 C1, PySem.W.mg_of X G a3, k3, b3⟩
  have C4 : Callee l.prog w K mg base 5 "state_of" ["messages"] (spState) := ⟨_, _, ok_state_of F4 T C3 C1 C2, PySem.W.mg_of X G a4, k4, b4⟩
  have C5 : CalleeX l.prog w K mg base 2 "by_numbers" ["rows"] (spByX CO) := ⟨_, _, okx_by_numbers F5 xc_Other C0, PySem.W.mg_of X G a5, k5, b5⟩
  have C6 : CalleeX l.prog w K mg base 3 "put_together" ["rows"] (spPutX CO) := ⟨_, _, okx_put_together F6 T C5, PySem.W.mg_of X G a6, k6, b6⟩
  have C7 : CalleeX l.prog w K mg base 3 "lacking" ["rows"] (spLackX CO) := ⟨_, _, okx_lacking F7 T C5, PySem.W.mg_of X G a7, k7, b7⟩
  have C8 : CalleeX l.prog w K mg base 4 "common" ["rows"] (spComX CO) := ⟨_, _, okx_common F8 T C0 C6 C7, PySem.W.mg_of X G a8, k8, b8⟩
  have C9 : CalleeI l.prog w K mg base 1 C_Hearer ["self"] (spInitH C_Hearer) := ⟨_, _, ok_Hearer_init F9 TC.toHearC, ⟨mk_Hearer, a9, i9, kc_Hearer⟩, b9⟩
  have C10 : CalleeM l.prog w K mg base 1 C_Hearer "hear_held" ["self"] (spHear C_Hearer) := ⟨_, _, ok_Hearer_hear_held F10 TC.toHearC, ⟨a10, i10, k10⟩, b10⟩
  have C11 : CalleeM l.prog w K mg base 2 C_Hearer "refuse_others" ["self", "messages"] (spRefuse C_Hearer) := ⟨_, _, ok_Hearer_refuse_others F11 TC.toHearC C0, ⟨a11, i11, k11⟩, b11⟩
  have C12 : CalleeM l.prog w K mg base 3 C_Hearer "take_all" ["self", "messages"] (spTakeAll C_Hearer) := ⟨_, _, ok_Hearer_take_all F12 TC.toHearC C0 C11 C10, ⟨a12, i12, k12⟩, b12⟩
  have C13 : CalleeM l.prog w K mg base 1 C_Hearer "heard" ["self"] (spHeard C_Hearer) := ⟨_, _, ok_Hearer_heard F13 T TC.toHearC, ⟨a13, i13, k13⟩, b13⟩
  have C14 : CalleeM l.prog w K mg base 1 C_Hearer "early" ["self"] (spEarly C_Hearer) := ⟨_, _, ok_Hearer_early F14 T TC.toHearC, ⟨a14, i14, k14⟩, b14⟩
  have C15 : Callee l.prog w K mg base 1 "_law_cell" ["_law_script", "_law_k"] (spCell K) := ⟨_, _, ok_l_cell F15 T, PySem.W.mg_of X G a15, k15, b15⟩
  have C16 : Callee l.prog w K mg base 2 "_law_drawn" ["_law_script", "_law_k", "_law_many"] (spDrawn K) := ⟨_, _, ok_l_drawn F16 T C15, PySem.W.mg_of X G a16, k16, b16⟩
  have C17 : Callee l.prog w K mg base 3 "_law_said" ["_law_script", "_law_at"] (spSaid K) := ⟨_, _, ok_l_said F17 T C16, PySem.W.mg_of X G a17, k17, b17⟩
  have C18 : Callee l.prog w K mg base 3 "_law_topic" ["_law_script", "_law_at"] (spTopicF K) := ⟨_, _, ok_l_topic F18 C16, PySem.W.mg_of X G a18, k18, b18⟩
  have C19 : Callee l.prog w K mg base 4 "_law_messages" ["_law_script", "_law_at", "_law_most"] (spGMsgs K) := ⟨_, _, ok_l_messages F19 T C16 C17 C18, PySem.W.mg_of X G a19, k19, b19⟩
  have C20 : Callee l.prog w K mg base 1 "_law_state" ["_law_messages_here"] (spLState) := ⟨_, _, ok_l_state F20 , PySem.W.mg_of X G a20, k20, b20⟩
  exact ok_law F21 T TC C16 C19 C20 C4 C6 C7 C8 C9 C12 C13 C14
theorem walk {l : PySem.W.OpenLaw} {q : Program} {loose : List Str} {XP : (Str → Option Value) → Heap → Prop} {YP : World → Heap → Prop} {d : DefRec} {K : Params → PySem.W.Frag} (hn : l.most = some 63) (hdf : d.params.defaults = [])
    (hY : ∀ (w : World) (h : Heap), YP w h → (K w.params).In h)
    (F : ∀ (w : World) (mg : Str → Option Value) (fa : Addr) (h : Heap), (K w.params).In h → h.Ns mainGlobals mg → mg d.name = some (.ref fa) →
      ∃ fd : FuncData, (∀ (s : Shared) (u : Value), BindsTo s fd ⟨[u], []⟩ [("_law_script", u)]) ∧ ∀ base : Heap, (K w.params).In base → base.Ns mainGlobals mg → FnOk l.prog w (K w.params) mg base CX0 6 fa fd ["_law_script"] (spLaw (K w.params))) :
    PySem.W.WalkO q loose XP YP l.row.toRowW d [] (fun f vs => PySem.call f vs) :=
  L2.walk_of (n := 63) (k := 6) (x := "_law_script") (CX := fun _ => CX0) (sp := fun w => spLaw (K w.params)) hn (by decide) hdf ⟨rfl, by decide, by decide⟩ hY F (fun _ _ a ns hl _ hS => ⟨a, ns, rfl, hS, hl, fun _ => rfl⟩) fun _ _ _ _ _ z => z
end K15
open PySem PySem.W PyProof.Rows
set_option maxRecDepth 100000 in
set_option maxHeartbeats 0 in
theorem PySem.Challenge.cw_tellroads_k15_whole_put_together_holds : PySem.Challenge.rw_tellroads_k15_whole_put_together.Holds := by
  w_on; o_law; k_head; (case hw => w_witness2)
  k_fill
  refine K15.walk (l := PySem.Challenge.rw_tellroads_k15_whole_put_together) rfl rfl (fun w h Y => PySem.W.kIn_of Y) ?F
  case F =>
    intro w mg fa h KX G hmg
    refine' K15.all_mk KX G hmg ?aX_Other ?xe_Other ?aC_Hearer ?pg_Hearer ?hd_Hearer ?po_Hearer ?sa_Hearer ?mk_Hearer ?kc_Hearer ?n_Hearer_next_number ?n_Hearer_past ?n_Hearer_held ?n_Hearer_known ?n_Hearer_given_up ?a0 ?l0 ?c0 ?k0 ?a1 ?l1 ?c1 ?k1 ?a2 ?l2 ?c2 ?k2 ?a3 ?l3 ?c3 ?k3 ?a4 ?l4 ?c4 ?k4 ?a5 ?l5 ?c5 ?k5 ?a6 ?l6 ?c6 ?k6 ?a7 ?l7 ?c7 ?k7 ?a8 ?l8 ?c8 ?k8 ?a9 ?i9 ?l9 ?c9 ?k9 ?a10 ?i10 ?l10 ?c10 ?k10 ?a11 ?i11 ?l11 ?c11 ?k11 ?a12 ?i12 ?l12 ?c12 ?k12 ?a13 ?i13 ?l13 ?c13 ?k13 ?a14 ?i14 ?l14 ?c14 ?k14 ?a15 ?l15 ?c15 ?k15 ?a16 ?l16 ?c16 ?k16 ?a17 ?l17 ?c17 ?k17 ?a18 ?l18 ?c18 ?k18 ?a19 ?l19 ?c19 ?k19 ?a20 ?l20 ?c20 ?k20 ?a21 ?l21 ?c21 ?k21 ?z0 ?z1 ?z2 ?z3 ?z4 ?z5 ?z6
    (case aX_Other => k_is)
    (case xe_Other => k_exc)
    (case aC_Hearer => k_is)
    (case pg_Hearer => k_is)
    (case hd_Hearer => k_is)
    (case po_Hearer => k_is)
    (case sa_Hearer => k_is)
    (case mk_Hearer => k_is)
    (case kc_Hearer => k_is)
    (case n_Hearer_next_number => k_is)
    (case n_Hearer_past => k_is)
    (case n_Hearer_held => k_is)
    (case n_Hearer_known => k_is)
    (case n_Hearer_given_up => k_is)
    (case a0 => k_is)
    (case l0 => k_is)
    (case c0 => k_is)
    (case k0 => k_is)
    (case a1 => k_is)
    (case l1 => k_is)
    (case c1 => k_is)
    (case k1 => k_is)
    (case a2 => k_is)
    (case l2 => k_is)
    (case c2 => k_is)
    (case k2 => k_is)
    (case a3 => k_is)
    (case l3 => k_is)
    (case c3 => k_is)
    (case k3 => k_is)
    (case a4 => k_is)
    (case l4 => k_is)
    (case c4 => k_is)
    (case k4 => k_is)
    (case a5 => k_is)
    (case l5 => k_is)
    (case c5 => k_is)
    (case k5 => k_is)
    (case a6 => k_is)
    (case l6 => k_is)
    (case c6 => k_is)
    (case k6 => k_is)
    (case a7 => k_is)
    (case l7 => k_is)
    (case c7 => k_is)
    (case k7 => k_is)
    (case a8 => k_is)
    (case l8 => k_is)
    (case c8 => k_is)
    (case k8 => k_is)
    (case a9 => k_is)
    (case i9 => k_is)
    (case l9 => k_is)
    (case c9 => k_is)
    (case k9 => k_is)
    (case a10 => k_is)
    (case i10 => k_is)
    (case l10 => k_is)
    (case c10 => k_is)
    (case k10 => k_is)
    (case a11 => k_is)
    (case i11 => k_is)
    (case l11 => k_is)
    (case c11 => k_is)
    (case k11 => k_is)
    (case a12 => k_is)
    (case i12 => k_is)
    (case l12 => k_is)
    (case c12 => k_is)
    (case k12 => k_is)
    (case a13 => k_is)
    (case i13 => k_is)
    (case l13 => k_is)
    (case c13 => k_is)
    (case k13 => k_is)
    (case a14 => k_is)
    (case i14 => k_is)
    (case l14 => k_is)
    (case c14 => k_is)
    (case k14 => k_is)
    (case a15 => k_is)
    (case l15 => k_is)
    (case c15 => k_is)
    (case k15 => k_is)
    (case a16 => k_is)
    (case l16 => k_is)
    (case c16 => k_is)
    (case k16 => k_is)
    (case a17 => k_is)
    (case l17 => k_is)
    (case c17 => k_is)
    (case k17 => k_is)
    (case a18 => k_is)
    (case l18 => k_is)
    (case c18 => k_is)
    (case k18 => k_is)
    (case a19 => k_is)
    (case l19 => k_is)
    (case c19 => k_is)
    (case k19 => k_is)
    (case a20 => k_is)
    (case l20 => k_is)
    (case c20 => k_is)
    (case k20 => k_is)
    (case a21 => k_is)
    (case l21 => k_is)
    (case c21 => k_is)
    (case k21 => k_is)
    (case z0 => k_is)
    (case z1 => k_is)
    (case z2 => k_is)
    (case z3 => k_is)
    (case z4 => k_is)
    (case z5 => k_is)
    (case z6 => k_is)
